/- The walk of laws.FnInversion: the document's own example of chapter 6, run by the program. Condition: the argument is a slice of bytes. -/
import Derived.Test.YtlagghoohloklaaResRunB
import Derived.Test.YtlagghoohloklaaSame
import Derived.Test.YtlagghoohloklaaRead
namespace Go.Proofs.Ytlagghoohloklaa
open Go.RowKit Go.Deep

def exT : List T3 := [(2, 5, 12), (3, 8, 12), (4, 12, 12)]
def exS : List T3 := [(0, 1, 0), (0, 0, 0), (1, 2, 0)]
def exJ : List J4 := [(2, 0, 12, 4), (0, 2, 7, 2), (1, 2, 10, 3)]
def exW : Nat → Int := fun k => [0, 0, 0, 1, 1, 2, 2, 2, 0, -1].getD k 0
theorem ex_ok : okR exT exS exJ = true := by decide
theorem ex_rf : rfB exT exS = true := by decide
theorem ex_run : ∀ k, k < 10 → srpF exT exS exJ k = exW k := by decide
theorem ex_st : StB exS := fun k hk => by
  match k, hk with
  | 0, _ | 1, _ | 2, _ => decide
theorem ex_rowT (w : World) : Row (w.alloc (.cells #[.int .i64 2, .int .i64 5, .int .i64 12, .int .i64 3, .int .i64 8, .int .i64 12, .int .i64 4, .int .i64 12, .int .i64 12] 48)) (some ⟨w.heap.size, 0, none⟩) exT := by
  intro k t hk
  match k, hk with
  | 0, hk => obtain rfl := Option.some.inj hk; exact ⟨w.heap.size, 0, rfl, by simp, by simp [go_sem], by simp [go_sem], by simp [go_sem]⟩
  | 1, hk => obtain rfl := Option.some.inj hk; exact ⟨w.heap.size, 0, rfl, by simp, by simp [go_sem], by simp [go_sem], by simp [go_sem]⟩
  | 2, hk => obtain rfl := Option.some.inj hk; exact ⟨w.heap.size, 0, rfl, by simp, by simp [go_sem], by simp [go_sem], by simp [go_sem]⟩
  | k + 3, hk => simp [exT] at hk
theorem ex_rowS (w : World) : Row (w.alloc (.cells #[.int .i64 0, .int .i64 1, .int .i64 0, .int .i64 0, .int .i64 0, .int .i64 0, .int .i64 1, .int .i64 2, .int .i64 0] 39)) (some ⟨w.heap.size, 0, none⟩) exS := by
  intro k t hk
  match k, hk with
  | 0, hk => obtain rfl := Option.some.inj hk; exact ⟨w.heap.size, 0, rfl, by simp, by simp [go_sem], by simp [go_sem], by simp [go_sem]⟩
  | 1, hk => obtain rfl := Option.some.inj hk; exact ⟨w.heap.size, 0, rfl, by simp, by simp [go_sem], by simp [go_sem], by simp [go_sem]⟩
  | 2, hk => obtain rfl := Option.some.inj hk; exact ⟨w.heap.size, 0, rfl, by simp, by simp [go_sem], by simp [go_sem], by simp [go_sem]⟩
  | k + 3, hk => simp [exS] at hk
theorem ex_rowJ (w : World) : RowJ (w.alloc (.cells #[.int .i64 2, .int .i64 0, .int .i64 12, .int .i64 4, .int .i64 0, .int .i64 2, .int .i64 7, .int .i64 2, .int .i64 1, .int .i64 2, .int .i64 10, .int .i64 3] 41)) (some ⟨w.heap.size, 0, none⟩) exJ := by
  intro k hk
  match k, hk with
  | 0, _ | 1, _ | 2, _ => exact ⟨w.heap.size, 0, rfl, by simp, by simp [go_sem, exJ, jb], by simp [go_sem, exJ, jb], by simp [go_sem, exJ, jb], by simp [go_sem, exJ, jb]⟩
  | k + 3, hk => simp [exJ] at hk; omega
theorem ex_want (w : World) : IntF (w.alloc (.cells #[.int .i64 0, .int .i64 0, .int .i64 0, .int .i64 1, .int .i64 1, .int .i64 2, .int .i64 2, .int .i64 2, .int .i64 0, .int .i64 (-1)] 3)) (some ⟨w.heap.size, 0, none⟩) 10 exW := by
  intro k hk
  match k, hk with
  | 0, _ | 1, _ | 2, _ | 3, _ | 4, _ | 5, _ | 6, _ | 7, _ | 8, _ | 9, _ => exact ⟨w.heap.size, 0, rfl, by simp, by simp [go_sem, exW]⟩

set_option maxRecDepth 100000 in
set_option maxHeartbeats 2000000 in
/-- laws.FnInversion. -/
theorem fnInversion_walk (a : Option Addr) (len cap : Nat) (w : World) (hb : Byts w a len cap) :
    Calls Try.prog 10 #[.slice a len cap] w fun e w' => e = .returned (.bool true) ∧ Below w.heap.size w w' := by
  have hm : cap ≤ maxLen := hb.2.2
  have hlc : len ≤ cap := hb.2.1
  unfold maxLen at hm
  clear hb
  by_cases hl : 1048576 < len
  · have hl' : (1048576 : Int) < len := by omega
    go_enter Try.func10, Try.ntmps10
    go_wp2
    go_ret
    exact ⟨rfl, Below.refl _ _⟩
  have hl' : ¬ (1048576 : Int) < len := by omega
  go_enter Try.func10, Try.ntmps10
  go_wp2_with fail
  obtain ⟨w1, h1⟩ : ∃ w1, w1 = w.alloc (.cells #[.int .i64 2, .int .i64 5, .int .i64 12, .int .i64 3, .int .i64 8, .int .i64 12, .int .i64 4, .int .i64 12, .int .i64 12] 48) := ⟨_, rfl⟩
  obtain ⟨w2, h2⟩ : ∃ w2, w2 = w1.alloc (.cells #[.int .i64 0, .int .i64 1, .int .i64 0, .int .i64 0, .int .i64 0, .int .i64 0, .int .i64 1, .int .i64 2, .int .i64 0] 39) := ⟨_, rfl⟩
  obtain ⟨w3, h3⟩ : ∃ w3, w3 = w2.alloc (.cells #[.int .i64 2, .int .i64 0, .int .i64 12, .int .i64 4, .int .i64 0, .int .i64 2, .int .i64 7, .int .i64 2, .int .i64 1, .int .i64 2, .int .i64 10, .int .i64 3] 41) := ⟨_, rfl⟩
  have s1 : w1.heap.size = w.heap.size + 1 := by rw [h1]; simp
  have s2 : w2.heap.size = w.heap.size + 1 + 1 := by rw [h2]; simp [s1]
  have s3 : w3.heap.size = w.heap.size + 1 + 1 + 1 := by rw [h3]; simp [s2]
  have B1 : Below w.heap.size w w1 := by rw [h1]; exact below_box _ _
  have B2 : Below w1.heap.size w1 w2 := by rw [h2]; exact below_box _ _
  have B3 : Below w2.heap.size w2 w3 := by rw [h3]; exact below_box _ _
  have RT := Lib.hid (show Row w3 (some ⟨w.heap.size, 0, none⟩) exT from by
    have h := (ex_rowT w).below (w' := w3) (by rw [← h1]; exact B2.trans (B3.mono B2.size))
    exact h)
  have RSS := Lib.hid (show Row w3 (some ⟨w.heap.size + 1, 0, none⟩) exS from by
    have h := (ex_rowS w1).below (w' := w3) (by rw [← h2]; exact B3)
    rw [s1] at h
    exact h)
  have RJ := Lib.hid (show RowJ w3 (some ⟨w.heap.size + 1 + 1, 0, none⟩) exJ from by
    have h := ex_rowJ w2
    rw [← h3, s2] at h
    exact h)
  have BW := Lib.hid (B1.trans ((B2.trans (B3.mono B2.size)).mono B1.size))
  rw [← h1, ← h2, ← h3]
  have HC : Calls Try.prog 13 #[.slice (some ⟨w.heap.size, 0, none⟩) 3 3, .slice (some ⟨w.heap.size + 1, 0, none⟩) 3 3, .slice (some ⟨w.heap.size + 1 + 1, 0, none⟩) 3 3] w3 fun e w' => SrpSched w3.heap.size exT exS exJ e w' ∧ Below w3.heap.size w3 w' :=
    runResources_any (some ⟨w.heap.size, 0, none⟩) (some ⟨w.heap.size + 1, 0, none⟩) (some ⟨w.heap.size + 1 + 1, 0, none⟩) 3 3 3 exT exS exJ w3 RT.out RSS.out RJ.out ex_st (by decide) (by decide) (by decide)
  clear h1 h2 h3 s1 s2 s3 B1 B2 B3
  refine HC.mono ?_
  rintro e w4 ⟨⟨vr, vf, rfl, o1, o2, -⟩, b4⟩
  rw [show lenRR exT exS exJ = 120 from if_pos ex_ok] at o1
  obtain ⟨ra, rc, rfl⟩ := own_shape o1
  obtain ⟨fa, fc, rfl⟩ := own_shape o2
  obtain ⟨gr, rfl⟩ := own_some' o1 (by omega)
  have hcap : 120 ≤ rc := by
    obtain ⟨_, _, e, _, _, h5, _⟩ := o1.at (by omega)
    simp only [Value.slice.injEq] at e
    rw [e.2.2]
    exact h5
  have O1 := Lib.hid o1
  have B4 := Lib.hid (BW.out.trans (b4.mono BW.out.size))
  have RT4 := Lib.hid (RT.out.below b4)
  have RS4 := Lib.hid (RSS.out.below b4)
  clear HC o1 o2 b4 RT RSS RJ BW
  have hc10 : (10 : Int) ≤ rc := by omega
  have I1 := Lib.hid (fun o1 o2 => show IntF ((w4.alloc o1).alloc o2) (some ⟨gr, 0, none⟩) 10 exW from IntF.congr (fun k hk => ((O1.out.alloc o1).alloc o2).intF' k (by omega)) ex_run)
  have I2 := Lib.hid (fun o1 => show IntF ((w4.alloc o1).alloc (.cells #[.int .i64 0, .int .i64 0, .int .i64 0, .int .i64 1, .int .i64 1, .int .i64 2, .int .i64 2, .int .i64 2, .int .i64 0, .int .i64 (-1)] 3)) (some ⟨w4.heap.size + 1, 0, none⟩) 10 exW from by
    have h := ex_want (w4.alloc o1)
    rw [show (w4.alloc o1).heap.size = w4.heap.size + 1 by simp] at h
    exact h)
  have BB := Lib.hid (fun o1 o2 n => show Below w4.heap.size w4 (((w4.alloc o1).alloc o2).drewN n) from below_drewN' ((below_box w4 o1).alloc (by simp) o2) n)
  go_wp2_with fail
  refine (sameInts_same _ _ _ _ 10 exW _ (I1.out _ _) (I2.out _) (by decide)).mono ?_
  rintro e w6 ⟨rfl, m6, hw6⟩
  have b6 : Below w4.heap.size w4 w6 := by rw [hw6]; exact BB.out _ _ _
  have HF : Calls Try.prog 17 #[.slice (some ⟨w.heap.size, 0, none⟩) 3 3, .slice (some ⟨w.heap.size + 1, 0, none⟩) 3 3] w6 fun e w' => e = .returned (.bool (rfB exT exS)) ∧ Below w6.heap.size w6 w' :=
    resourcesFeasible_any (some ⟨w.heap.size, 0, none⟩) (some ⟨w.heap.size + 1, 0, none⟩) 3 3 exT exS w6 (RT4.out.below b6) (RS4.out.below b6) ex_st (by decide) (by decide)
  have B6 := Lib.hid (B4.out.trans (b6.mono B4.out.size))
  have HF := Lib.hid HF
  clear hw6 b6 I1 I2 BB RT4 RS4
  go_wp2_with fail
  refine HF.out.mono ?_
  rintro e w7 ⟨rfl, b7⟩
  rw [ex_rf]
  go_wp2
  go_ret
  exact ⟨rfl, B6.out.trans (b7.mono B6.out.size)⟩

end Go.Proofs.Ytlagghoohloklaa
