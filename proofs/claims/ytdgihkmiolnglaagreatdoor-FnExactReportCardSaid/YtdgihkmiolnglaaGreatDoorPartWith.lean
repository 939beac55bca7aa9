/- Contracts of slices.Grow of nil, slices.Concat of two assignments, and assignment.with. Conditions: the slices hold what is said; at most 1000 entries. -/
import Derived.Test.YtdgihkmiolnglaaGreatDoorPartOn
import Derived.Lib.AppendZeros
import Derived.Laws.AppendOwnNone
namespace Go.Proofs.YtdgihkmiolnglaaGreatDoor
open Go.RowKit Go.Deep

theorem zero_own {w : World} {n g : Nat} (hn : n ≤ 1000) (hg : g = grownCap w n 0 3) (f : Nat → Int) :
    OwnI (w.drew.alloc (.cells (Builtin.zeroCells (Value.int .i64 0).cells n ++ Builtin.zeroCells (Value.int .i64 0).cells (g - n)) 3)) w.heap.size (.slice (some ⟨w.heap.size, 0, none⟩) 0 g) 0 f := by
  have h1 : n ≤ g := by rw [hg]; exact grownCap_ge w _ 0 _
  have h2 : g ≤ maxLen := by rw [hg]; exact grownCap_le_maxLen w _ 0 _ (by unfold maxLen; omega)
  refine ⟨rfl, .inr ⟨w.heap.size, g, _, rfl, Nat.le_refl _, heap_alloc_new w.drew _, Nat.zero_le _, h2, ?_, rfl⟩⟩
  simp [size_zeroCells, Value.cells]
  omega

set_option maxRecDepth 100000 in
set_option maxHeartbeats 1000000 in
/-- slices.Grow of nil: room for n entries. -/
theorem growA_any (n : Nat) (h1 : 1 ≤ n) (hn : n ≤ 1000) (w : World) :
    Calls Tryz.prog 145 #[.slice none 0 0, .int .i64 (n : Int)] w fun e w' => ∃ cap, e = .returned (.slice (some ⟨w.heap.size, 0, none⟩) 0 cap) ∧ (∀ f, OwnI w' w.heap.size (.slice (some ⟨w.heap.size, 0, none⟩) 0 cap) 0 f) ∧ Below w.heap.size w w' := by
  obtain ⟨i0, hi, hz, hsz, hby⟩ := info_parts intInfo
  have happ := Lib.run_append_nil_zeros (P := Tryz.prog) w 92 3 92 3 i0 (.int .i64 0) .i64 .i64 (by kernel_rfl) (by kernel_rfl) hi hz n (by omega) (by omega) (by omega) (by rw [hby]; omega)
  obtain ⟨g, hg⟩ : ∃ g, g = grownCap w n 0 3 := ⟨_, rfl⟩
  rw [← hg] at happ
  have HZ := Lib.hid (zero_own (w := w) hn hg)
  have hge : n ≤ g := by rw [hg]; exact grownCap_ge w _ 0 _
  obtain ⟨Z, hZ⟩ : ∃ Z, Z = Builtin.zeroCells (Value.int .i64 0).cells n ++ Builtin.zeroCells (Value.int .i64 0).cells (g - n) := ⟨_, rfl⟩
  rw [← hZ] at happ HZ
  have HA := Lib.hid happ
  have hn1 : (1 : Int) ≤ n := by omega
  have hn2 : (n : Int) ≤ 1000 := by omega
  clear hi hz hsz hby happ hg hZ
  go_enter Tryz.func145, Tryz.ntmps145
  go_wp2_with (at_builtin; refine Lib.wpList_append_run _ rfl (.tmp 20) (.tmp 21) _ _ rfl _ _ rfl rfl _ _ HA.out ?_)
  go_ret
  exact ⟨g, rfl, HZ.out, ⟨rfl, rfl, rfl, by simp, fun k hk => Below.heap_alloc w _ k hk⟩⟩

/-- The first n entries of f, then c. -/
def snocF (f : Nat → Int) (n : Nat) (c : Int) : Nat → Int := fun k => if k < n then f k else c
theorem vals_snocF (f : Nat → Int) (n : Nat) (c : Int) : vals (snocF f n c) (n + 1) = vals f n ++ [.int .i64 c] := by
  rw [vals_succ]
  congr 1
  · simp only [vals]
    exact List.map_congr_left fun k hk => by simp [snocF, List.mem_range.1 hk]
  · simp [snocF]
theorem valsOne (f : Nat → Int) (n : Nat) : ∀ u ∈ vals f n, u.oneCell' = true := by
  intro u hu
  obtain ⟨k, _, rfl⟩ := List.mem_map.1 hu
  rfl
/-- How many entries are laid once k of the two slices are over. -/
def cntW (n : Nat) : Nat → Nat
  | 0 => 0
  | 1 => n
  | _ => n + 1

theorem news_one {w : World} {b : Nat} {c : Int} (h : w.cell? ⟨b, 0, none⟩ = some (.int .i64 c)) : ∀ (j : Nat) (u : Value), [Value.int .i64 c][j]? = some u → w.cell? ((⟨b, 0, none⟩ : Addr).add j) = some u := by
  intro j u hj
  match j, hj with
  | 0, hj => simp at hj; subst hj; simpa [Addr.add] using h
  | j + 1, hj => simp at hj
theorem vals_snocN (f : Nat → Int) (n : Nat) (c : Int) : vals (snocF f n c) n = vals f n := by
  simp only [vals]
  exact List.map_congr_left fun k hk => by simp [snocF, List.mem_range.1 hk]
theorem owni_news {w : World} {base n cap : Nat} {a : Option Addr} {f : Nat → Int} (h : OwnI w base (.slice a n cap) n f) : (a = none ∧ n = 0 ∧ cap = 0) ∨ ∃ g, a = some ⟨g, 0, none⟩ ∧ ∀ (j : Nat) (u : Value), (vals f n)[j]? = some u → w.cell? ((⟨g, 0, none⟩ : Addr).add j) = some u := by
  rcases h.2 with ⟨e, h0⟩ | ⟨g, c, cur, e, _, hg, _, _, hsz, hx⟩
  · simp only [Value.slice.injEq] at e
    exact .inl ⟨e.1, e.2.1, e.2.2⟩
  · simp only [Value.slice.injEq] at e
    obtain ⟨rfl, _, rfl⟩ := e
    refine .inr ⟨g, rfl, fun j u hj => ?_⟩
    have hjl : j < n := by
      have := (List.getElem?_eq_some_iff.1 hj).1
      rwa [vals_len] at this
    rw [← hx, List.getElem?_take_of_lt (by omega), Array.getElem?_toList] at hj
    rw [Addr.add_lit]
    simp [World.cell?, hg, hj]

set_option maxRecDepth 100000 in
set_option maxHeartbeats 2000000 in
/-- slices.Concat of an assignment and one entry more: new memory. -/
theorem concat_any (B n ocap b2 c2 base : Nat) (oa : Option Addr) (f : Nat → Int) (c : Int) (w : World) (h1 : OwnI w base (.slice oa n ocap) n f) (hn : n ≤ 999) (hB0 : w.cell? ⟨B, 0, none⟩ = some (.slice oa n ocap)) (hB1 : w.cell? ⟨B, 1, none⟩ = some (.slice (some ⟨b2, 0, none⟩) 1 c2)) (hb2 : w.cell? ⟨b2, 0, none⟩ = some (.int .i64 c)) :
    Calls Tryz.prog 124 #[.slice (some ⟨B, 0, none⟩) 2 2] w fun e w' => ∃ v, e = .returned v ∧ OwnI w' w.heap.size v (n + 1) (snocF f n c) ∧ Below w.heap.size w w' := by
  obtain ⟨i0, hi, hz, hsz, hby⟩ := info_parts intInfo
  have HI := Lib.hid (And.intro hi (And.intro hz (And.intro hsz hby)))
  have HO := Lib.hid h1
  have HC := Lib.hid (And.intro hB0 (And.intro hB1 hb2))
  have hBl := World.block_lt_of_cell? w _ hB0
  have hbl := World.block_lt_of_cell? w _ hb2
  have hn0 : (0 : Int) ≤ n := by omega
  have hn9 : (n : Int) ≤ 999 := by omega
  have HU := Lib.hid (show Tryz.prog.underlying 92 = some (.slice 3) by kernel_rfl)
  have hw1 : IntKind.i64.wrap ((n : Int) + 1) = n + 1 := IntWalk.i64_in _ (by omega)
  have hw0 : IntKind.i64.wrap (n : Int) = n := IntWalk.i64_in _ (by omega)
  clear hi hz hsz hby h1 hB0 hB1 hb2
  go_enter Tryz.func124, Tryz.ntmps124
  go_wp2
  go_loopg [3, 11] 2 (fun q s z wr => ∃ k : Nat, q + k = 2 ∧ z = .int .i64 k ∧ s = .int .i64 (cntW n k : Nat) ∧ w = wr)
  case atStart => exact ⟨0, rfl, rfl, rfl, rfl⟩
  case round =>
    obtain ⟨k, hq, rfl, rfl, rfl⟩ := hrel
    have HQ := Lib.hid hq
    obtain ⟨d0, d1, -⟩ := HC.out
    rcases (show k = 0 ∨ k = 1 ∨ k = 2 by omega) with rfl | rfl | rfl
    · clear hq
      simp only [cntW]
      go_wp2
      go_roundg 1
      case measure => have := HQ.out; omega
      case rel => exact ⟨1, rfl, rfl, rfl, rfl⟩
    · clear hq
      simp only [cntW]
      go_wp2
      go_roundg 0
      case measure => have := HQ.out; omega
      case rel => exact ⟨2, rfl, rfl, by simp [cntW], rfl⟩
    · clear hq d0 d1
      simp only [cntW]
      go_wp2_with fail
      refine (growA_any (n + 1) (by omega) (by omega) w).mono ?_
      rintro e w1 ⟨cap, rfl, ho1, b1⟩
      have HB1 := Lib.hid b1
      have HO1 := Lib.hid (ho1 (snocF f n c))
      clear b1 ho1
      go_wp2
      go_loopg [6, 27] 2 (fun q s z wr => ∃ k : Nat, q + k = 2 ∧ z = .int .i64 k ∧ OwnI wr w.heap.size s (cntW n k) (snocF f n c) ∧ Below w.heap.size w wr)
      case atStart => exact ⟨0, rfl, rfl, HO1.out, HB1.out⟩
      case round =>
        obtain ⟨k, hq, rfl, hown, B2⟩ := hrel
        have HQ2 := Lib.hid hq
        have HB2 := Lib.hid B2
        have HW := Lib.hid hown
        obtain ⟨D0, D1, D2⟩ := HC.out
        have d0 := (HB2.out.cell (p := ⟨B, 0, none⟩) hBl).trans D0
        have d1 := (HB2.out.cell (p := ⟨B, 1, none⟩) hBl).trans D1
        have HD2 := Lib.hid ((HB2.out.cell (p := ⟨b2, 0, none⟩) hbl).trans D2)
        clear D0 D1 D2
        rcases (show k = 0 ∨ k = 1 ∨ k = 2 by omega) with rfl | rfl | rfl
        · clear hq hown B2
          rcases owni_news (HO.out.below HB2.out) with ⟨rfl, rfl, rfl⟩ | ⟨g, rfl, hnews⟩
          · go_wp2_with (at_builtin; refine wpList_append_own_none rfl (.tmp 31) (.tmp 32) 92 rfl w.heap.size 3 i0 1 HU.out HI.out.1 _ 0 (vals (snocF f 0 c) 0) rfl HW.out rfl ?_)
            go_roundg 1
            case measure => have := HQ2.out; omega
            case rel => exact ⟨1, rfl, rfl, HW.out, HB2.out⟩
          · have HN := Lib.hid hnews
            clear hnews
            go_wp2_with (at_builtin; refine wpList_append_own _ rfl (.tmp 31) (.tmp 32) 92 rfl w.heap.size 3 i0 _ 1 8 HU.out HI.out.1 HI.out.2.1 HI.out.2.2.1 HI.out.2.2.2 rfl (by decide) _ 0 (vals (snocF f n c) 0) rfl HW.out ⟨g, 0, none⟩ n ocap (vals f n) rfl (by rw [vals_len, Nat.mul_one]) HN.out (valsOne f n) (by unfold maxLen; omega) (by omega) HB2.out.size ?_; intro v' w' hown' hgrow hnil)
            have HB3 := Lib.hid (HB2.out.grown hgrow HB2.out.size (fun k hk => (World.ownsRow.lt HW.out k hk).1))
            have HO3 := Lib.hid (show OwnI w' w.heap.size v' n (snocF f n c) by
              unfold OwnI; rw [vals_snocN]; simpa [vals] using hown')
            clear hown' hgrow hnil
            go_roundg 1
            case measure => have := HQ2.out; omega
            case rel => exact ⟨1, rfl, rfl, HO3.out, HB3.out⟩
        · clear hq hown B2
          go_wp2_with (at_builtin; refine wpList_append_own _ rfl (.tmp 31) (.tmp 32) 92 rfl w.heap.size 3 i0 _ 1 8 HU.out HI.out.1 HI.out.2.1 HI.out.2.2.1 HI.out.2.2.2 rfl (by decide) _ n (vals (snocF f n c) n) rfl HW.out ⟨b2, 0, none⟩ 1 c2 [.int .i64 c] rfl rfl (news_one HD2.out) (one1 c) (by unfold maxLen; omega) (by omega) HB2.out.size ?_; intro v' w' hown' hgrow hnil)
          have HB3 := Lib.hid (HB2.out.grown hgrow HB2.out.size (fun k hk => (World.ownsRow.lt HW.out k hk).1))
          have HO3 := Lib.hid (show OwnI w' w.heap.size v' (n + 1) (snocF f n c) by
            unfold OwnI; rw [vals_snocF]; rw [vals_snocN] at hown'; exact hown')
          clear hown' hgrow hnil
          go_roundg 0
          case measure => have := HQ2.out; omega
          case rel => exact ⟨2, rfl, rfl, HO3.out, HB3.out⟩
        · clear hq d0 d1
          go_wp2
          go_ret
          exact ⟨_, rfl, HW.out, HB2.out⟩

theorem two_cells (w : World) (c x y : Value) (t u : TypeId) : ((w.alloc (.cells #[c] t)).alloc (.cells #[x, y] u)).cell? ⟨w.heap.size + 1, 0, none⟩ = some x ∧ ((w.alloc (.cells #[c] t)).alloc (.cells #[x, y] u)).cell? ⟨w.heap.size + 1, 1, none⟩ = some y ∧ ((w.alloc (.cells #[c] t)).alloc (.cells #[x, y] u)).cell? ⟨w.heap.size, 0, none⟩ = some c := by
  have h1 := heap_alloc_new (w.alloc (.cells #[c] t)) (.cells #[x, y] u)
  rw [World.size_alloc] at h1
  have h2 : ((w.alloc (.cells #[c] t)).alloc (.cells #[x, y] u)).heap[w.heap.size]? = some (.cells #[c] t) := (Below.heap_alloc _ _ _ (by simp)).trans (heap_alloc_new w _)
  refine ⟨?_, ?_, ?_⟩
  · unfold World.cell?; simp only [h1]; rfl
  · unfold World.cell?; simp only [h1]; rfl
  · unfold World.cell?; simp only [h2]; rfl

set_option maxRecDepth 100000 in
set_option maxHeartbeats 1000000 in
/-- impl.assignment.with: new memory. -/
theorem with_any (n ocap base : Nat) (oa : Option Addr) (f : Nat → Int) (c : Int) (w : World) (h1 : OwnI w base (.slice oa n ocap) n f) (hn : n ≤ 999) :
    Calls Tryz.prog 104 #[.slice oa n ocap, .int .i64 c] w fun e w' => ∃ v, e = .returned v ∧ OwnI w' w.heap.size v (n + 1) (snocF f n c) ∧ Below w.heap.size w w' := by
  have HO := Lib.hid h1
  clear h1
  go_enter Tryz.func104, Tryz.ntmps104
  go_wp2_with fail
  have HB := Lib.hid ((below_box w (.cells #[.int .i64 c] 3)).trans ((below_box (w.alloc (.cells #[.int .i64 c] 3)) (.cells #[.slice oa n ocap, .slice (some ⟨w.heap.size, 0, none⟩) 1 1] 92)).mono (by simp)))
  have HT := Lib.hid (two_cells w (.int .i64 c) (.slice oa n ocap) (.slice (some ⟨w.heap.size, 0, none⟩) 1 1) 3 92)
  refine (concat_any (w.heap.size + 1) n ocap w.heap.size 1 base oa f c _ (HO.out.below HB.out) hn HT.out.1 HT.out.2.1 HT.out.2.2).mono ?_
  rintro e w2 ⟨v, rfl, ho2, b2⟩
  have HO2 := Lib.hid (ho2.mono (base' := w.heap.size) (by simp; omega))
  have HB2 := Lib.hid (HB.out.trans (b2.mono (by simp; omega)))
  clear ho2 b2
  obtain ⟨g, cap, rfl, -⟩ := HO2.out.at (Nat.succ_pos n)
  go_wp2
  go_ret
  exact ⟨_, rfl, HO2.out, HB2.out⟩

end Go.Proofs.YtdgihkmiolnglaaGreatDoor
