/- Contracts of the methods of an execution of a program: run, runBlock, runSeq, runBranch, runLoop, whatever chooses. Conditions: those of Chooser. -/
import Derived.Test.YtlcdmjcikbgnpaaPrgChs
import Derived.BigRegion
namespace Go.Proofs.Ytlcdmjcikbgnpaa
open Go.RowKit Go.Deep

set_option maxRecDepth 100000 in
set_option maxHeartbeats 4000000 in
/-- (*impl.execution).runBlock. -/
theorem runBlock_any {ps : List N5} {a : Option Addr} {cap B0 E nB fn p1 p2 : Nat} {St : World → Nat → List Int → Prop} {ch : Nat → Nat → List Int → Nat × List Int} {rs : Nat → List Int → Nat × List Int} {Len : List Int → Nat → Prop} (C : Chooser ps a B0 E nB fn p1 p2 St ch rs Len)
    (i c : Nat) (hi : i < ps.length) (h : nd8 ps i = (1, (c : Int), 0, 0, 0)) (w : World) (sb t : Nat) (s : List Int) (hx : Exs ps a cap E fn p1 p2 nB St Len w sb s t) (ht : t + c ≤ 600) :
    Calls Try.prog 60 #[.pointer (some ⟨E, 0, none⟩), .int .i64 (i : Int)] w (RunPost ps a cap E fn p1 p2 nB St Len w sb t (rs i s)) := by
  have HR := C.r1 i c s h
  have HX := Lib.hid hx
  have HC := Lib.hid C
  obtain ⟨b, off, rfl, hb, n0, n1, n2, n3, n4⟩ := rowN_at hx.row hi h
  obtain ⟨r, hr⟩ : ∃ r, r = rs i s := ⟨_, rfl⟩
  rw [← hr] at HR ⊢
  subst HR
  have x0 := hx.ex.c0
  have x17 := hx.ex.c17
  have f17 := hx.ex.f17
  have hi0 : (0 : Int) ≤ i := by omega
  have hi1 : (i : Int) < ps.length := by omega
  have hw : IntKind.i64.wrap ((t : Int) + c) = (t : Int) + c := IntWalk.i64_in _ (by omega)
  clear hx C hr h
  go_enter Try.func60, Try.ntmps60
  go_wp2
  go_region
  go_wp2
  go_end0
  exact ⟨rfl, sb, (HX.out.time HC.out (Nat.le_add_right t c)).below HC.out (Below.refl _ _).drew, (foot_time w _).trans (ChgP.of (P := Foot E nB sb) (Below.refl _ _).drew) (fun _ _ h => h), .inl rfl⟩

set_option maxRecDepth 100000 in
set_option maxHeartbeats 4000000 in
/-- (*impl.execution).runSeq. -/
theorem runSeq_any {ps : List N5} {a : Option Addr} {cap B0 E nB fn p1 p2 : Nat} {St : World → Nat → List Int → Prop} {ch : Nat → Nat → List Int → Nat × List Int} {rs : Nat → List Int → Nat × List Int} {Len : List Int → Nat → Prop} (C : Chooser ps a B0 E nB fn p1 p2 St ch rs Len)
    (i x y : Nat) (hi : i < ps.length) (h : nd8 ps i = (2, 0, (x : Int), (y : Int), 0)) (ha : x < i) (hb' : y < i) (w : World) (sb t : Nat) (s : List Int) (hx : Exs ps a cap E fn p1 p2 nB St Len w sb s t) (ht : t + wc8 true ps i ≤ 600)
    (IH : ∀ j, j < i → wc8 true ps j ≤ 600 → ∀ (w : World) (sb t : Nat) (s : List Int), Exs ps a cap E fn p1 p2 nB St Len w sb s t → t + wc8 true ps j ≤ 600 → Calls Try.prog 56 #[.pointer (some ⟨E, 0, none⟩), .int .i64 (j : Int)] w (RunPost ps a cap E fn p1 p2 nB St Len w sb t (rs j s)))
    : Calls Try.prog 63 #[.pointer (some ⟨E, 0, none⟩), .int .i64 (i : Int)] w (RunPost ps a cap E fn p1 p2 nB St Len w sb t (rs i s)) := by
  have HR := C.r2 i x y s hi (by omega) h ha hb'
  have hwc := wc8_seq (w := true) h ha hb'
  have B1 := C.bnd x s (by omega)
  have B2 := C.bnd y (rs x s).2 (by omega)
  have HX := Lib.hid hx
  have HC := Lib.hid C
  obtain ⟨r, hr⟩ : ∃ r, r = rs i s := ⟨_, rfl⟩
  rw [← hr] at HR ⊢
  subst HR
  have I1 := IH x ha (by omega) w sb t s hx (by omega)
  obtain ⟨X, hX⟩ : ∃ X, X = rs x s := ⟨_, rfl⟩
  rw [← hX] at I1 B1 B2 ⊢
  have I2 := fun w sb' => IH y hb' (by omega) w sb' (t + X.1) X.2
  obtain ⟨Y, hY⟩ : ∃ Y, Y = rs y X.2 := ⟨_, rfl⟩
  rw [← hY] at I2 B2 ⊢
  have J1 := Lib.hid I1
  have J2 := Lib.hid (fun w sb' hx => I2 w sb' hx (by omega))
  obtain ⟨b, off, e, hb, n0, n1, n2, n3, n4⟩ := rowN_at hx.row hi h
  have x0 := hx.ex.c0
  rw [e] at x0
  have HA := Lib.hid e
  have HH := Lib.hid h
  have hi0 : (0 : Int) ≤ i := by omega
  have hi1 : (i : Int) < ps.length := by omega
  clear hx C hr hX hY h I1 I2 IH hwc B1 B2 ht e
  go_enter Try.func63, Try.ntmps63
  go_wp2_with fail
  refine J1.out.mono ?_
  rintro e w1 ⟨rfl, sb1, hx1, hc1, hs1⟩
  have HX1 := Lib.hid hx1
  have HC1 := Lib.hid hc1
  have HS1 := Lib.hid hs1
  obtain ⟨b', off', e', hb', m0, m1, m2, m3, m4⟩ := rowN_at hx1.row hi HH.out
  rw [HA.out] at e'
  simp only [Option.some.injEq, Addr.mk.injEq, and_true] at e'
  obtain ⟨rfl, rfl⟩ := e'
  have y0 := hx1.ex.c0
  rw [HA.out] at y0
  clear x0 n0 n1 n2 n3 n4 hx1 hc1 hs1
  go_wp2_with fail
  refine (J2.out _ _ HX1.out).mono ?_
  rintro e w2 ⟨rfl, sb2, hx2, hc2, hs2⟩
  have HX2 := Lib.hid hx2
  have HC2 := Lib.hid hc2
  have HS2 := Lib.hid hs2
  clear hx2 hc2 hs2
  go_wp2
  go_end0
  refine ⟨rfl, sb2, by rw [← Nat.add_assoc]; exact HX2.out, HC1.out.then HC2.out HS1.out, ?_⟩
  have h1 := HS1.out
  have h2 := HS2.out
  have h3 := HC1.out.size
  rcases h1 with h1 | h1 <;> rcases h2 with h2 | h2 <;> first | (left; omega) | (right; omega)

end Go.Proofs.Ytlcdmjcikbgnpaa
