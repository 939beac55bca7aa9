/- Contracts of the methods runBranch and runLoop of an execution of a program, whatever chooses. Conditions: those of Chooser. -/
import Derived.Test.YtlcdmjcikbgnpaaPrgChs
import Derived.BigRegion
import Derived.OrdersHeld
import Derived.Deep.RegionHeld
namespace Go.Proofs.Ytlcdmjcikbgnpaa
open Go.RowKit Go.Deep

set_option maxRecDepth 100000 in
set_option maxHeartbeats 4000000 in
/-- (*impl.execution).runBranch. -/
theorem runBranch_any {ps : List N5} {a : Option Addr} {cap B0 E nB fn p1 p2 : Nat} {St : World → Nat → List Int → Prop} {ch : Nat → Nat → List Int → Nat × List Int} {rs : Nat → List Int → Nat × List Int} {Len : List Int → Nat → Prop} (C : Chooser ps a B0 E nB fn p1 p2 St ch rs Len)
    (i c x y : Nat) (hi : i < ps.length) (h : nd8 ps i = (3, (c : Int), (x : Int), (y : Int), 0)) (h1 : 1 ≤ c) (h9 : c ≤ 9) (ha : x < i) (hb' : y < i) (w : World) (sb t : Nat) (s : List Int) (hx : Exs ps a cap E fn p1 p2 nB St Len w sb s t) (ht : t + wc8 true ps i ≤ 600)
    (IH : ∀ j, j < i → wc8 true ps j ≤ 600 → ∀ (w : World) (sb t : Nat) (s : List Int), Exs ps a cap E fn p1 p2 nB St Len w sb s t → t + wc8 true ps j ≤ 600 → Calls Try.prog 56 #[.pointer (some ⟨E, 0, none⟩), .int .i64 (j : Int)] w (RunPost ps a cap E fn p1 p2 nB St Len w sb t (rs j s)))
    : Calls Try.prog 66 #[.pointer (some ⟨E, 0, none⟩), .int .i64 (i : Int)] w (RunPost ps a cap E fn p1 p2 nB St Len w sb t (rs i s)) := by
  have HR := C.r3 i c x y s hi (by omega) h ha hb'
  have hwc := wc8_branch (w := true) h ha hb'
  rw [if_pos rfl] at hwc
  have HX := Lib.hid hx
  have HC := Lib.hid C
  have HCALL := Lib.hid (fun (w : World) sb hst hlen => C.call w sb s (t + c) i 2 hst hlen (by omega) hi (by omega) (by omega) (by omega))
  have HLEN := Lib.hid (fun hl => C.lenM _ _ (t + c) (C.lenC s t i 2 hl) (by omega))
  obtain ⟨r, hr⟩ : ∃ r, r = rs i s := ⟨_, rfl⟩
  rw [← hr] at HR ⊢
  subst HR
  obtain ⟨K, hK⟩ : ∃ K, K = ch i 2 s := ⟨_, rfl⟩
  rw [← hK] at HCALL HLEN ⊢
  obtain ⟨z, hz⟩ : ∃ z, z = if K.1 = 0 then x else y := ⟨_, rfl⟩
  have hzi : z < i := by rw [hz]; split <;> omega
  have hzw : c + wc8 true ps z ≤ wc8 true ps i := by rw [hz, hwc]; split <;> omega
  have B1 := C.bnd z K.2 (by omega)
  have I1 := fun w sb' hx => IH z hzi (by omega) w sb' (t + c) K.2 hx (by omega)
  rw [← hz]
  obtain ⟨R, hR⟩ : ∃ R, R = rs z K.2 := ⟨_, rfl⟩
  rw [← hR] at I1 B1 ⊢
  have J1 := Lib.hid I1
  have HZ := Lib.hid hz
  have htc : t + c ≤ 600 := by omega
  have hw : IntKind.i64.wrap ((t : Int) + c) = (t : Int) + c := IntWalk.i64_in _ (by omega)
  obtain ⟨b, off, e, hb, n0, n1, n2, n3, n4⟩ := rowN_at hx.row hi h
  have x0 := hx.ex.c0
  rw [e] at x0
  have eg := C.eg
  obtain ⟨k1, k2, k3, k4⟩ := C.blk _ _ _ hx.st
  have hsbw := Lib.hid (show w.heap.size ≠ nB ∧ w.heap.size ≠ sb by omega)
  have HLT := Lib.hid hx.ex.lt
  have hi0 : (0 : Int) ≤ i := by omega
  have hi1 : (i : Int) < ps.length := by omega
  clear hr hK h IH hwc B1 ht hR hzw hzi hz I1 hx C k1 k2 k3 k4
  subst e
  go_enter Try.func66, Try.ntmps66
  go_wp2
  obtain ⟨wa, hwa⟩ : ∃ wa, wa = w.alloc (.cells #[.int .i64 3, .int .i64 (c : Int), .int .i64 (x : Int), .int .i64 (y : Int), .int .i64 0] 28) := ⟨_, rfl⟩
  have HWA := Lib.hid (show Below w.heap.size w wa by rw [hwa]; exact below_box _ _)
  have HZA := Lib.hid (show wa.heap.size = w.heap.size + 1 by rw [hwa]; simp)
  have g1 : wa.cell? ⟨w.heap.size, 1, none⟩ = some (.int .i64 (c : Int)) := by rw [hwa]; go_simp
  have g2 : wa.cell? ⟨w.heap.size, 2, none⟩ = some (.int .i64 (x : Int)) := by rw [hwa]; go_simp
  have g3 : wa.cell? ⟨w.heap.size, 3, none⟩ = some (.int .i64 (y : Int)) := by rw [hwa]; go_simp
  have g4 : wa.cell? ⟨w.heap.size, 4, none⟩ = some (.int .i64 0) := by rw [hwa]; go_simp
  rw [← hwa]
  have HXA := Lib.hid (HX.out.below HC.out HWA.out)
  have hEA : E < wa.heap.size := HXA.out.ex.lt
  have hnA : w.heap.size < wa.heap.size := by have := HZA.out; omega
  have a17 := HXA.out.ex.c17
  have f17 := HXA.out.ex.f17
  clear hwa x0 n0 n1 n2 n3 n4 hb
  go_region
  obtain ⟨wb, hwb⟩ : ∃ wb, wb = (wa.setCell ⟨E, 17, none⟩ (.int .i64 ((t : Int) + c))).drew := ⟨_, rfl⟩
  have HXB := Lib.hid (show Exs ps (some ⟨b, off, none⟩) cap E fn p1 p2 nB St Len wb sb s (t + c) by rw [hwb]; exact (HXA.out.time HC.out (Nat.le_add_right t c)).below HC.out (Below.refl _ _).drew)
  have HAB := Lib.hid (show ChgP (Foot E nB sb) wa wb by rw [hwb]; exact (foot_time wa _).trans (ChgP.of (P := Foot E nB sb) (Below.refl _ _).drew) (fun _ _ h => h))
  have HCB := Lib.hid (show ChgP (Foot E nB sb) w wb from (ChgP.of (P := Foot E nB sb) HWA.out).trans HAB.out (fun _ _ h => h))
  have hne : ¬ Foot E nB sb w.heap.size := by rintro (e | e | e); have := HLT.out; omega; exact hsbw.out.1 e; exact hsbw.out.2 e
  have HNE := Lib.hid hne
  have g1 : wb.cell? ⟨w.heap.size, 1, none⟩ = some (.int .i64 (c : Int)) := (HAB.out.cell (p := ⟨w.heap.size, 1, none⟩) hnA hne).trans g1
  have g2 : wb.cell? ⟨w.heap.size, 2, none⟩ = some (.int .i64 (x : Int)) := (HAB.out.cell (p := ⟨w.heap.size, 2, none⟩) hnA hne).trans g2
  have g3 : wb.cell? ⟨w.heap.size, 3, none⟩ = some (.int .i64 (y : Int)) := (HAB.out.cell (p := ⟨w.heap.size, 3, none⟩) hnA hne).trans g3
  have g4 : wb.cell? ⟨w.heap.size, 4, none⟩ = some (.int .i64 0) := (HAB.out.cell (p := ⟨w.heap.size, 4, none⟩) hnA hne).trans g4
  have a16 := HXB.out.ex.c16
  have HZB := Lib.hid (show w.heap.size < wb.heap.size from Nat.lt_of_lt_of_le hnA HAB.out.size)
  rw [← hwb]
  clear hwb hne a17 f17 hEA hnA
  go_wp2_with fail
  refine (HCALL.out wb sb HXB.out.st HXB.out.len).mono ?_
  rintro e wc ⟨sb1, rfl, hst1, hc1, hs1⟩
  have HXC := Lib.hid (HXB.out.chosen HC.out hc1 hst1 (HLEN.out HX.out.len) hs1)
  have HCC := Lib.hid (HCB.out.then (foot_chosen (E := E) hc1) (.inl rfl))
  have HS1 := Lib.hid (show sb1 = sb ∨ w.heap.size ≤ sb1 by rcases hs1 with h | h; exact .inl h; have := HZB.out; right; omega)
  have hne2 : ¬ (w.heap.size = nB ∨ w.heap.size = sb) := by rintro (e | e); exact hsbw.out.1 e; exact hsbw.out.2 e
  have g2 : wc.cell? ⟨w.heap.size, 2, none⟩ = some (.int .i64 (x : Int)) := (hc1.cell (p := ⟨w.heap.size, 2, none⟩) HZB.out hne2).trans g2
  have g3 : wc.cell? ⟨w.heap.size, 3, none⟩ = some (.int .i64 (y : Int)) := (hc1.cell (p := ⟨w.heap.size, 3, none⟩) HZB.out hne2).trans g3
  obtain ⟨q, hq⟩ : ∃ q, q = K.1 := ⟨_, rfl⟩
  have hz := HZ.out
  rw [← hq] at hz ⊢
  clear hst1 hc1 hs1 hne2 a16 g1 g4 hq
  by_cases hq0 : q = 0
  · rw [if_pos hq0] at hz
    subst hz
    subst hq0
    go_wp2_with fail
    refine (J1.out _ _ HXC.out).mono ?_
    rintro e wd ⟨rfl, sb2, hx2, hc2, hs2⟩
    have HX2 := Lib.hid hx2
    have HC2 := Lib.hid hc2
    have HS2 := Lib.hid hs2
    have HSZ := Lib.hid HCC.out.size
    clear hx2 hc2 hs2
    go_wp2
    go_end0
    refine ⟨rfl, sb2, by rw [← Nat.add_assoc]; exact HX2.out, HCC.out.then HC2.out HS1.out, ?_⟩
    have h1 := HS1.out
    have h2 := HS2.out
    have h3 := HSZ.out
    rcases h1 with h1 | h1 <;> rcases h2 with h2 | h2 <;> first | (left; omega) | (right; omega)
  · rw [if_neg hq0] at hz
    subst hz
    have hq1 : ((q : Int) == 0) = false := by simp; omega
    go_wp2_with fail
    refine (J1.out _ _ HXC.out).mono ?_
    rintro e wd ⟨rfl, sb2, hx2, hc2, hs2⟩
    have HX2 := Lib.hid hx2
    have HC2 := Lib.hid hc2
    have HS2 := Lib.hid hs2
    have HSZ := Lib.hid HCC.out.size
    clear hx2 hc2 hs2
    go_wp2
    go_end0
    refine ⟨rfl, sb2, by rw [← Nat.add_assoc]; exact HX2.out, HCC.out.then HC2.out HS1.out, ?_⟩
    have h1 := HS1.out
    have h2 := HS2.out
    have h3 := HSZ.out
    rcases h1 with h1 | h1 <;> rcases h2 with h2 | h2 <;> first | (left; omega) | (right; omega)


set_option maxRecDepth 100000 in
set_option maxHeartbeats 4000000 in
/-- (*impl.execution).runLoop. -/
theorem runLoop_any {ps : List N5} {a : Option Addr} {cap B0 E nB fn p1 p2 : Nat} {St : World → Nat → List Int → Prop} {ch : Nat → Nat → List Int → Nat × List Int} {rs : Nat → List Int → Nat × List Int} {Len : List Int → Nat → Prop} (C : Chooser ps a B0 E nB fn p1 p2 St ch rs Len)
    (i c x m : Nat) (hi : i < ps.length) (h : nd8 ps i = (4, (c : Int), (x : Int), 0, (m : Int))) (h1 : 1 ≤ c) (h9 : c ≤ 9) (ha : x < i) (hm : m ≤ 4) (w : World) (sb t : Nat) (s : List Int) (hx : Exs ps a cap E fn p1 p2 nB St Len w sb s t) (ht : t + wc8 true ps i ≤ 600)
    (IH : ∀ j, j < i → wc8 true ps j ≤ 600 → ∀ (w : World) (sb t : Nat) (s : List Int), Exs ps a cap E fn p1 p2 nB St Len w sb s t → t + wc8 true ps j ≤ 600 → Calls Try.prog 56 #[.pointer (some ⟨E, 0, none⟩), .int .i64 (j : Int)] w (RunPost ps a cap E fn p1 p2 nB St Len w sb t (rs j s)))
    : Calls Try.prog 69 #[.pointer (some ⟨E, 0, none⟩), .int .i64 (i : Int)] w (RunPost ps a cap E fn p1 p2 nB St Len w sb t (rs i s)) := by
  have HR := C.r4 i c x m s hi (by omega) h ha hm
  have hwc := wc8_loop (w := true) h ha
  rw [if_pos rfl] at hwc
  have HX := Lib.hid hx
  have HC := Lib.hid C
  have hcl : ∀ (w : World) (sb : Nat), St w sb s → Len s (t + c) → Calls Try.prog fn #[.int .i64 (i : Int), .int .i64 ((m : Int) + 1), .pointer (some ⟨p1, 0, none⟩), .pointer (some ⟨p2, 0, none⟩)] w fun e w' =>
    ∃ sb', e = .returned (.int .i64 ((ch i (m + 1) s).1 : Nat)) ∧ St w' sb' (ch i (m + 1) s).2 ∧ ChgP (fun b => b = nB ∨ b = sb) w w' ∧ (sb' = sb ∨ w.heap.size ≤ sb') := fun w sb hst hlen => C.call w sb s (t + c) i (m + 1) hst hlen (by omega) hi (by omega) (by omega) (by omega)
  have hll := fun hl => C.lenM _ _ (t + c) (C.lenC s t i (m + 1) hl) (by omega)
  have hkm := C.lpk i c x m s h
  have hbi := C.bnd i s hi
  have hbx := fun cs => C.bnd x cs (by omega)
  obtain ⟨r, hr⟩ : ∃ r, r = rs i s := ⟨_, rfl⟩
  rw [← hr] at HR hbi ⊢
  subst HR
  obtain ⟨⟨k, s1⟩, hK⟩ : ∃ K, K = ch i (m + 1) s := ⟨_, rfl⟩
  rw [← hK] at hcl hll hkm hbi ⊢
  simp only at hcl hll hkm hbi ⊢
  have hk4 : k ≤ 4 := by omega
  have HCALL := Lib.hid hcl
  have HLEN := Lib.hid hll
  obtain ⟨S, hS⟩ : ∃ S, S = c + wc8 true ps x := ⟨_, rfl⟩
  have HB := Lib.hid (show ∀ j, j < k → t + (c + j * S) + S ≤ 600 from fun j hj => by
    have h2 : (j + 1) * S ≤ m * S := Nat.mul_le_mul_right _ (by omega)
    rw [Nat.add_mul, Nat.one_mul] at h2
    rw [hwc, ← hS] at ht
    omega)
  have I1 := fun (hk : wc8 true ps x ≤ 600) w sb' T rest hx' hT => IH x ha hk w sb' T rest hx' hT
  obtain ⟨f, hf⟩ : ∃ f, f = rs x := ⟨_, rfl⟩
  rw [← hf] at I1 hbx hbi ⊢
  obtain ⟨W, hW⟩ : ∃ W, W = wc8 true ps x := ⟨_, rfl⟩
  rw [← hW] at I1 hS hbx
  obtain ⟨Z, hZ⟩ : ∃ Z, Z = itr8 f c k (c, s1) := ⟨_, rfl⟩
  rw [← hZ] at hbi ⊢
  have HZ := Lib.hid hZ.symm
  have J1 := Lib.hid I1
  have HBX := Lib.hid hbx
  have HS := Lib.hid hS
  have htc : t + c ≤ 600 := by omega
  have hw : IntKind.i64.wrap ((t : Int) + c) = (t : Int) + c := IntWalk.i64_in _ (by omega)
  obtain ⟨b, off, e, hb, n0, n1, n2, n3, n4⟩ := rowN_at hx.row hi h
  have x0 := hx.ex.c0
  rw [e] at x0
  have eg := C.eg
  obtain ⟨k1, k2, k3, k4⟩ := C.blk _ _ _ hx.st
  have hsbw := Lib.hid (show w.heap.size ≠ nB ∧ w.heap.size ≠ sb by omega)
  have HLT := Lib.hid hx.ex.lt
  have hi0 : (0 : Int) ≤ i := by omega
  have hi1 : (i : Int) < ps.length := by omega
  clear hr hK h IH hwc ht hZ hbi hbx hf hW hS I1 hx C k1 k2 k3 k4 hcl hll hkm
  subst e
  go_enter Try.func69, Try.ntmps69
  go_wp2
  obtain ⟨wa, hwa⟩ : ∃ wa, wa = w.alloc (.cells #[.int .i64 4, .int .i64 (c : Int), .int .i64 (x : Int), .int .i64 0, .int .i64 (m : Int)] 28) := ⟨_, rfl⟩
  have HWA := Lib.hid (show Below w.heap.size w wa by rw [hwa]; exact below_box _ _)
  have HZA := Lib.hid (show wa.heap.size = w.heap.size + 1 by rw [hwa]; simp)
  have g1 : wa.cell? ⟨w.heap.size, 1, none⟩ = some (.int .i64 (c : Int)) := by rw [hwa]; go_simp
  have g2 : wa.cell? ⟨w.heap.size, 2, none⟩ = some (.int .i64 (x : Int)) := by rw [hwa]; go_simp
  have g3 : wa.cell? ⟨w.heap.size, 3, none⟩ = some (.int .i64 0) := by rw [hwa]; go_simp
  have g4 : wa.cell? ⟨w.heap.size, 4, none⟩ = some (.int .i64 (m : Int)) := by rw [hwa]; go_simp
  rw [← hwa]
  have HXA := Lib.hid (HX.out.below HC.out HWA.out)
  have hEA : E < wa.heap.size := HXA.out.ex.lt
  have hnA : w.heap.size < wa.heap.size := by have := HZA.out; omega
  have a17 := HXA.out.ex.c17
  have f17 := HXA.out.ex.f17
  clear hwa x0 n0 n1 n2 n3 n4 hb
  go_region
  obtain ⟨wb, hwb⟩ : ∃ wb, wb = (wa.setCell ⟨E, 17, none⟩ (.int .i64 ((t : Int) + c))).drew := ⟨_, rfl⟩
  have HXB := Lib.hid (show Exs ps (some ⟨b, off, none⟩) cap E fn p1 p2 nB St Len wb sb s (t + c) by rw [hwb]; exact (HXA.out.time HC.out (Nat.le_add_right t c)).below HC.out (Below.refl _ _).drew)
  have HAB := Lib.hid (show ChgP (Foot E nB sb) wa wb by rw [hwb]; exact (foot_time wa _).trans (ChgP.of (P := Foot E nB sb) (Below.refl _ _).drew) (fun _ _ h => h))
  have HCB := Lib.hid (show ChgP (Foot E nB sb) w wb from (ChgP.of (P := Foot E nB sb) HWA.out).trans HAB.out (fun _ _ h => h))
  have hne : ¬ Foot E nB sb w.heap.size := by rintro (e | e | e); have := HLT.out; omega; exact hsbw.out.1 e; exact hsbw.out.2 e
  have HNE := Lib.hid hne
  have g1 : wb.cell? ⟨w.heap.size, 1, none⟩ = some (.int .i64 (c : Int)) := (HAB.out.cell (p := ⟨w.heap.size, 1, none⟩) hnA hne).trans g1
  have g2 : wb.cell? ⟨w.heap.size, 2, none⟩ = some (.int .i64 (x : Int)) := (HAB.out.cell (p := ⟨w.heap.size, 2, none⟩) hnA hne).trans g2
  have g3 : wb.cell? ⟨w.heap.size, 3, none⟩ = some (.int .i64 0) := (HAB.out.cell (p := ⟨w.heap.size, 3, none⟩) hnA hne).trans g3
  have g4 : wb.cell? ⟨w.heap.size, 4, none⟩ = some (.int .i64 (m : Int)) := (HAB.out.cell (p := ⟨w.heap.size, 4, none⟩) hnA hne).trans g4
  have a16 := HXB.out.ex.c16
  have HZB := Lib.hid (show w.heap.size < wb.heap.size from Nat.lt_of_lt_of_le hnA HAB.out.size)
  rw [← hwb]
  clear hwb hne a17 f17 hEA hnA
  have hwm : IntKind.i64.wrap ((m : Int) + 1) = (m : Int) + 1 := IntWalk.i64_in _ (by omega)
  have HG := Lib.hid (And.intro g1 g2)
  have HEE := Lib.hid (And.intro a16 g4)
  go_wp2_with fail
  refine wp_region_held_drew (S := (fun w' => w'.cell? ⟨E, 16, none⟩ = some (.func (.func fn) #[] #[.pointer (some ⟨p1, 0, none⟩), .pointer (some ⟨p2, 0, none⟩)]) ∧ w'.cell? ⟨w.heap.size, 4, none⟩ = some (.int .i64 (m : Int)))) (by kernel_rfl) ?_ (fun hHeld => ?_)
  · (try dsimp only)
    exact ⟨HEE.out.1, HEE.out.2⟩
  refine wpAnyH_take (i := 0) (v := ?_) (toArr_get _ 0 _ rfl) (by kernel_rfl) (by kernel_rfl) (by kernel_rfl) (fun _ _ _ h => h) (Or.inl ⟨by rfl, ?_⟩) (by assumption) ?_
  rotate_left
  · (intro w hSw; (try dsimp only at hSw); go_simp; (try with_reducible rfl))
  (try simp only [Act.put, List.setIfInBounds_toArray, List.set_cons_zero, List.set_cons_succ])
  refine wpAnyH_take (i := 1) (v := ?_) (toArr_get _ 1 _ rfl) (by kernel_rfl) (by kernel_rfl) (by kernel_rfl) (fun _ _ _ h => h) (Or.inl ⟨by rfl, ?_⟩) (by assumption) ?_
  rotate_left
  · (intro w hSw; (try dsimp only at hSw); go_simp; (try with_reducible rfl))
  (try simp only [Act.put, List.setIfInBounds_toArray, List.set_cons_zero, List.set_cons_succ])
  refine wpAnyH_take (i := 2) (v := ?_) (toArr_get _ 2 _ rfl) (by kernel_rfl) (by kernel_rfl) (by kernel_rfl) (fun _ _ _ h => h) (Or.inl ⟨by rfl, ?_⟩) (by assumption) ?_
  rotate_left
  · (intro w hSw; (try dsimp only at hSw); go_simp; (try with_reducible rfl))
  (try simp only [Act.put, List.setIfInBounds_toArray, List.set_cons_zero, List.set_cons_succ])
  refine wpAnyH_take (i := 3) (v := ?_) (toArr_get _ 3 _ rfl) (by kernel_rfl) (by kernel_rfl) (by kernel_rfl) (fun _ _ _ h => h) (Or.inl ⟨by rfl, ?_⟩) (by assumption) ?_
  rotate_left
  · (intro w hSw; (try dsimp only at hSw); go_simp; (try with_reducible rfl))
  (try simp only [Act.put, List.setIfInBounds_toArray, List.set_cons_zero, List.set_cons_succ])
  refine wpAnyH_take (i := 4) (v := ?_) (toArr_get _ 4 _ rfl) (by kernel_rfl) (by kernel_rfl) (by kernel_rfl) (fun _ _ _ h => h) (Or.inl ⟨by rfl, ?_⟩) (by assumption) ?_
  rotate_left
  · (intro w hSw; (try dsimp only at hSw); go_simp; (try with_reducible rfl))
  (try simp only [Act.put, List.setIfInBounds_toArray, List.set_cons_zero, List.set_cons_succ])
  refine wpAnyH_take (i := 5) (v := ?_) (toArr_get _ 5 _ rfl) (by kernel_rfl) (by kernel_rfl) (by kernel_rfl) (fun _ _ _ h => h) (Or.inl ⟨by rfl, ?_⟩) (by assumption) ?_
  rotate_left
  · (intro w hSw; (try dsimp only at hSw); go_simp; (try with_reducible rfl))
  (try simp only [Act.put, List.setIfInBounds_toArray, List.set_cons_zero, List.set_cons_succ])
  refine wpAnyH_take (i := 6) (v := ?_) (toArr_get _ 6 _ rfl) (by kernel_rfl) (by kernel_rfl) (by kernel_rfl) (fun _ _ _ h => h) (Or.inl ⟨by rfl, ?_⟩) (by assumption) ?_
  rotate_left
  · (intro w hSw; (try dsimp only at hSw); go_simp; (try with_reducible rfl))
  (try simp only [Act.put, List.setIfInBounds_toArray, List.set_cons_zero, List.set_cons_succ])
  refine wpAnyH_take (i := 7) (v := ?_) (toArr_get _ 7 _ rfl) (by kernel_rfl) (by kernel_rfl) (by kernel_rfl) (fun _ _ _ h => h) (Or.inl ⟨by rfl, ?_⟩) (by assumption) ?_
  rotate_left
  · (intro w hSw; (try dsimp only at hSw); go_simp; (try with_reducible rfl))
  (try simp only [Act.put, List.setIfInBounds_toArray, List.set_cons_zero, List.set_cons_succ])
  refine wpAnyH_take (i := 9) (v := ?_) (toArr_get _ 9 _ rfl) (by kernel_rfl) (by kernel_rfl) (by kernel_rfl) (fun _ _ _ h => h) (Or.inl ⟨by rfl, ?_⟩) (by assumption) ?_
  rotate_left
  · (intro w hSw; (try dsimp only at hSw); go_simp; (try with_reducible rfl))
  (try simp only [Act.put, List.setIfInBounds_toArray, List.set_cons_zero, List.set_cons_succ])
  refine wpAnyH_ready (rs := [8]) (by kernel_rfl) (by simp) ?_
  refine AllReadyH.cons (toArr_get _ 8 _ rfl) (fun K hK => ?_) ?_
  · go_simp
    refine (HCALL.out _ sb (HXB.out.below HC.out (Below.refl _ wb).drew).st HXB.out.len).mono ?_
    rintro e wc ⟨sb1, rfl, hst1, hc1, hs1⟩
    have HC1 := Lib.hid (show ChgP (fun b => b = nB ∨ b = sb) wb wc from (ChgP.of (P := fun b => b = nB ∨ b = sb) (Below.refl _ wb).drew).trans hc1 (fun _ _ h => h))
    have HXC := Lib.hid (HXB.out.chosen HC.out HC1.out hst1 (HLEN.out HX.out.len) hs1)
    have HS1 := Lib.hid (show sb1 = sb ∨ wb.heap.size ≤ sb1 from hs1)
    have hne2 : ¬ (w.heap.size = nB ∨ w.heap.size = sb) := by rintro (e | e); exact hsbw.out.1 e; exact hsbw.out.2 e
    have HG2 := Lib.hid (show wc.cell? ⟨w.heap.size, 1, none⟩ = some (.int .i64 (c : Int)) ∧ wc.cell? ⟨w.heap.size, 2, none⟩ = some (.int .i64 (x : Int)) ∧ wc.cell? ⟨w.heap.size, 4, none⟩ = some (.int .i64 (m : Int)) from ⟨(HC1.out.cell (p := ⟨w.heap.size, 1, none⟩) HZB.out hne2).trans HG.out.1, (HC1.out.cell (p := ⟨w.heap.size, 2, none⟩) HZB.out hne2).trans HG.out.2, (HC1.out.cell (p := ⟨w.heap.size, 4, none⟩) HZB.out hne2).trans HEE.out.2⟩)
    clear hst1 hc1 hs1 hne2
    go_wp2_with fail
    refine hK.out _ _ ?_ (fun hHeld2 => ?_)
    · (try dsimp only)
      exact ⟨HXC.out.ex.c16, HG2.out.2.2⟩
    clear hK K hHeld
    have hHeld := hHeld2
    clear hHeld2
    (try simp only [Act.put, List.setIfInBounds_toArray, List.set_cons_zero, List.set_cons_succ])
    refine wpAnyH_done (by kernel_rfl) ?_ _
    clear g1 g2 g3 g4 a16
    go_wp2
    go_loopg [30] k (fun q z wr => ∃ j sb' U rest, q + j = k ∧ z = .int .i64 (j : Nat) ∧ itr8 f c q (U, rest) = Z ∧ Exs ps (some ⟨b, off, none⟩) cap E fn p1 p2 nB St Len wr sb' rest (t + U) ∧ U ≤ c + j * S ∧ ChgP (Foot E nB sb) wb wr ∧ (sb' = sb ∨ wb.heap.size ≤ sb'))
    case atStart => exact ⟨0, sb1, c, s1, rfl, rfl, HZ.out, HXC.out, by omega, foot_chosen HC1.out, HS1.out⟩
    case round =>
      obtain ⟨j, sb', U, rest, hq, rfl, hit, hxr, hU, hcr, hsr⟩ := hrel
      have HQ := Lib.hid hq
      have HU := Lib.hid hU
      have HIT := Lib.hid hit
      have HXR := Lib.hid hxr
      have HCR := Lib.hid hcr
      have HSR := Lib.hid hsr
      have g1 : wr.cell? ⟨w.heap.size, 1, none⟩ = some (.int .i64 (c : Int)) := (hcr.cell (p := ⟨w.heap.size, 1, none⟩) HZB.out HNE.out).trans HG.out.1
      have g2 : wr.cell? ⟨w.heap.size, 2, none⟩ = some (.int .i64 (x : Int)) := (hcr.cell (p := ⟨w.heap.size, 2, none⟩) HZB.out HNE.out).trans HG.out.2
      by_cases hlt : j < k
      · have hB := HB.out j hlt
        have hSW := HS.out
        have K1 := Lib.hid (J1.out (by omega) wr sb' (t + U) rest hxr (by omega))
        have hRW := HBX.out rest
        have hit2 : itr8 f c (gk - 1) (U + c + (f rest).1, (f rest).2) = Z := by
          rw [← hit]
          conv => rhs; rw [show gk = (gk - 1) + 1 by omega]
          rfl
        obtain ⟨R, hR⟩ : ∃ R, R = f rest := ⟨_, rfl⟩
        rw [← hR] at K1 hRW hit2
        have HIT2 := Lib.hid hit2
        have hT : t + U + R.1 + c ≤ 600 := by omega
        have HU2 := Lib.hid (show U + c + R.1 ≤ c + (j + 1) * S by rw [Nat.add_mul, Nat.one_mul]; omega)
        have hw5 : IntKind.i64.wrap (((t + U + R.1 : Nat) : Int) + c) = ((t + U + R.1 : Nat) : Int) + c := IntWalk.i64_in _ (by omega)
        have HNR := Lib.hid (show w.heap.size < wr.heap.size from Nat.lt_of_lt_of_le HZB.out hcr.size)
        have HN2 := Lib.hid (show ¬ Foot E nB sb' w.heap.size by
          rintro (e | e | e)
          · exact HNE.out (.inl e)
          · exact HNE.out (.inr (.inl e))
          · rcases hsr with h | h
            · exact HNE.out (.inr (.inr (e.trans h)))
            · have := HZB.out; omega)
        clear hq hU hit hxr hcr hsr hB hSW hRW hit2 hR hw
        go_wp2_with fail
        refine K1.out.mono ?_
        rintro e wd ⟨rfl, sb2, hx2, hc2, hs2⟩
        have HX2 := Lib.hid hx2
        have HC2 := Lib.hid hc2
        have HS2 := Lib.hid hs2
        have e1 : wd.cell? ⟨w.heap.size, 1, none⟩ = some (.int .i64 (c : Int)) := (hc2.cell (p := ⟨w.heap.size, 1, none⟩) HNR.out HN2.out).trans g1
        have d17 := hx2.ex.c17
        have df := hx2.ex.f17
        clear hx2 hc2 hs2 g1 g2
        go_wp2
        go_region
        go_wp2
        have HT3 := Lib.hid (show t + (U + c + R.1) = t + U + R.1 + c by omega)
        have HX3 := (HX2.out.time HC.out (Nat.le_add_right (t + U + R.1) c)).below HC.out (Below.refl _ _).drew
        go_roundg (gk - 1)
        case measure => have := HQ.out; omega
        case rel =>
          refine ⟨j + 1, sb2, U + c + R.1, R.2, by have := HQ.out; omega, by go_num, HIT2.out, by rw [HT3.out]; exact HX3, HU2.out, (HCR.out.then HC2.out HSR.out).then ((foot_time wd _).trans (ChgP.of (P := Foot E nB sb2) (Below.refl _ _).drew) (fun _ _ h => h)) ?_, ?_⟩ <;>
            (have h1 := HSR.out; have h2 := HS2.out; have h3 := HCR.out.size; rcases h1 with h1 | h1 <;> rcases h2 with h2 | h2 <;> first | (left; omega) | (right; omega))
      · have h0 : gk = 0 := by omega
        obtain rfl : j = k := by omega
        have hz := HIT.out
        rw [h0] at hz
        have HZ2 := Lib.hid (show (U, rest) = Z from hz)
        clear hq hU hit hxr hcr hsr hz g1 g2
        go_wp2
        go_end0
        rw [← HZ2.out]
        refine ⟨rfl, sb', HXR.out, HCB.out.then HCR.out (.inl rfl), ?_⟩
        have h1 := HSR.out
        have h3 := HCB.out.size
        rcases h1 with h1 | h1 <;> first | (left; omega) | (right; omega)
  exact AllReadyH.nil

end Go.Proofs.Ytlcdmjcikbgnpaa
