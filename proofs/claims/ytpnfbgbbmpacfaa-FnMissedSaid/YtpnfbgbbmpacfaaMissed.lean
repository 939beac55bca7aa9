/- Contracts of spec.l3Missed and spec.Missed. Conditions: the slices hold what is said, at most 2^20 jobs. -/
import Derived.Test.YtpnfbgbbmpacfaaRunSpec
namespace Go.Proofs.Ytpnfbgbbmpacfaa
open Go.RowKit Go.Deep

/-- Job k is late: its deadline lies within the simulated time, and it is not finished by then. -/
def lateB (js : List J4) (f : Nat → Int) (k : Nat) : Bool := decide ((jb js k).2.2.1 ≤ 120) && (decide (f k < 0) || decide ((jb js k).2.2.1 < f k))
/-- The late ones among the first n jobs. -/
def lateL (js : List J4) (f : Nat → Int) : Nat → List Int
  | 0 => []
  | n + 1 => if lateB js f n then lateL js f n ++ [(n : Int)] else lateL js f n
theorem lateL_len (js : List J4) (f : Nat → Int) : ∀ n, (lateL js f n).length ≤ n
  | 0 => Nat.le_refl _
  | n + 1 => by
    simp only [lateL]
    have := lateL_len js f n
    split
    · simp; omega
    · omega
/-- A slice of its own that holds this list. -/
def OwnL (w : World) (base : Nat) (v : Value) (l : List Int) : Prop := OwnI w base v l.length (fun k => l.getD k 0)
theorem OwnL.push {w' : World} {base : Nat} {v' : Value} {l : List Int} {x : Int} (ho : w'.ownsRow base 3 1 v' (l.length + 1) (vals (fun k => l.getD k 0) l.length ++ [.int .i64 x])) : OwnL w' base v' (l ++ [x]) := by
  unfold OwnL OwnI
  have e : (l ++ [x]).length = l.length + 1 := by simp
  rw [e, vals_succ]
  have e1 : vals (fun k => (l ++ [x]).getD k 0) l.length = vals (fun k => l.getD k 0) l.length := by
    simp only [vals]
    refine List.map_congr_left fun k hk => ?_
    have hk' := List.mem_range.1 hk
    simp [List.getD, List.getElem?_append_left hk']
  have e2 : (l ++ [x]).getD l.length 0 = x := by simp [List.getD]
  rw [e1, e2]
  exact ho

theorem World.ownsRow_drewN {w : World} {base e size n : Nat} {v : Value} {xs : List Value} (h : w.ownsRow base e size v n xs) (m : Nat) : (w.drewN m).ownsRow base e size v n xs := h
theorem news1N (w : World) (c : Int) (t : TypeId) (m : Nat) : ∀ (j : Nat) (u : Value), [Value.int .i64 c][j]? = some u → ((w.drewN m).alloc (.cells #[.int .i64 c] t)).cell? ((⟨w.heap.size, 0, none⟩ : Addr).add j) = some u := news1 (w.drewN m) c t

set_option maxRecDepth 100000 in
set_option maxHeartbeats 4000000 in
/-- spec.l3Missed. -/
theorem l3Missed_any (ja fa : Option Addr) (jcap fcap : Nat) (js : List J4) (f : Nat → Int) (vr : Value) (hvr : ∃ a n c, vr = .slice a n c) (w : World) (hj : RowJ w ja js) (hf : IntF w fa js.length f) (hn : js.length ≤ 1048576) :
    Calls Try.prog 75 #[.slice ja js.length jcap, .agg #[vr, .slice fa js.length fcap]] w fun e w' =>
      ∃ v, e = .returned v ∧ OwnL w' w.heap.size v (lateL js f js.length) ∧ Below w.heap.size w w' := by
  obtain ⟨ra, rn, rc, rfl⟩ := hvr
  obtain ⟨i0, hi, hz, hsz, hby⟩ := info_parts intInfo
  have HI := Lib.hid (And.intro hi (And.intro hz (And.intro hsz hby)))
  clear hi hz hsz hby
  have HJ := Lib.hid hj
  have HF := Lib.hid hf
  clear hj hf
  go_enter Try.func75, Try.ntmps75
  go_wp2
  go_loopg [5, 6] js.length (fun m s i wr => ∃ k : Nat, m + k = js.length ∧ i = .int .i64 k ∧ OwnL wr (w.heap.size + 1) s (lateL js f k) ∧ wr.cell? ⟨w.heap.size, 1, none⟩ = some (.slice fa js.length fcap) ∧ Below w.heap.size w wr ∧ w.heap.size < wr.heap.size)
  case atStart => exact ⟨0, rfl, rfl, by have h := OwnI.empty (w.alloc (.cells #[.slice ra rn rc, .slice fa js.length fcap] 43)) (fun k => ([] : List Int).getD k 0); simpa [OwnL, lateL] using h, by simp [go_sem], (below_box _ _).alloc (by simp) _, by simp <;> omega⟩
  case round =>
    obtain ⟨k, hk, rfl, ho, c1, B, hs⟩ := hrel
    have HK := Lib.hid hk
    have HO := Lib.hid ho
    have hkk : k ≤ js.length := by omega
    clear hk ho
    by_cases hlt : k < js.length
    · have RJ := Lib.hid (HJ.out.below B)
      have RF := Lib.hid (HF.out.below B)
      obtain ⟨bj, oj, rfl, hbj, _, _, x2, _⟩ := RJ.out k hlt
      obtain ⟨bf, of, rfl, hbf, y0⟩ := RF.out k hlt
      obtain ⟨d, hd⟩ : ∃ d, d = (jb js k).2.2.1 := ⟨_, rfl⟩
      obtain ⟨x, hx⟩ : ∃ x, x = f k := ⟨_, rfl⟩
      rw [← hd] at x2
      rw [← hx] at y0
      have HL := Lib.hid (show lateL js f (k + 1) = if decide (d ≤ 120) && (decide (x < 0) || decide (d < x)) then lateL js f k ++ [(k : Int)] else lateL js f k by rw [hd, hx]; rfl)
      clear hd hx
      have hk0 : (0 : Int) ≤ k := by omega
      have hk1 : (k : Int) < js.length := by omega
      have hlen := lateL_len js f k
      obtain ⟨l, hl⟩ : ∃ l, l = lateL js f k := ⟨_, rfl⟩
      rw [← hl] at hlen
      rw [← hl] at HL HO
      clear hl
      by_cases h1 : d ≤ 120
      · by_cases h2 : x < 0
        · go_wp2
          go_quiet (fail)
          go_wp2_with (at_builtin; refine wpList_append_own _ rfl (.tmp 41) (.tmp 43) 41 rfl (w.heap.size + 1) 3 i0 _ 1 8 Try.underlying41 HI.out.1 HI.out.2.1 HI.out.2.2.1 HI.out.2.2.2 rfl (by decide) _ l.length (vals (fun k => l.getD k 0) l.length) rfl (World.ownsRow.alloc (World.ownsRow_drewN HO.out _) _) ⟨wr.heap.size, 0, none⟩ 1 1 [.int .i64 (k : Int)] rfl rfl (news1N _ _ _ _) (one1 _) (by unfold maxLen; omega) (by omega) (by simp; omega) ?_; intro v' w' hown' hgrow hnil)
          have B0 : Below w.heap.size w ((wr.drewN nq).alloc (.cells #[.int .i64 (k : Int)] 3)) := (below_drewN' B _).alloc B.size _
          have HB1 := Lib.hid (B0.grown hgrow (Nat.le_trans B.size (by simp)) (fun k hk => by have := (HO.out.lt k hk).1; omega))
          have c1' := Lib.hid (show w'.cell? ⟨w.heap.size, 1, none⟩ = some (.slice (some ⟨bf, of, none⟩) js.length fcap) from (hgrow.cell (a := ⟨w.heap.size, 1, none⟩) ((((below_drewN wr nq).alloc (Nat.le_refl _) _).cell (p := ⟨w.heap.size, 1, none⟩) hs).trans c1) (fun e => Nat.not_succ_le_self _ (HO.out.lt _ e.symm).1)))
          have HO1 := Lib.hid (OwnL.push hown')
          have hsz' := hgrow.size
          simp at hsz'
          clear hown' hgrow hnil B0
          go_roundg (gk - 1)
          case measure => have := HK.out; omega
          case rel => exact ⟨k + 1, by have := HK.out; omega, by go_num, by rw [HL.out, if_pos (by simp [*])]; exact HO1.out, c1'.out, HB1.out, by omega⟩
        · by_cases h3 : d < x
          · go_wp2
            go_quiet (fail)
            go_wp2_with (at_builtin; refine wpList_append_own _ rfl (.tmp 41) (.tmp 43) 41 rfl (w.heap.size + 1) 3 i0 _ 1 8 Try.underlying41 HI.out.1 HI.out.2.1 HI.out.2.2.1 HI.out.2.2.2 rfl (by decide) _ l.length (vals (fun k => l.getD k 0) l.length) rfl (World.ownsRow.alloc (World.ownsRow_drewN HO.out _) _) ⟨wr.heap.size, 0, none⟩ 1 1 [.int .i64 (k : Int)] rfl rfl (news1N _ _ _ _) (one1 _) (by unfold maxLen; omega) (by omega) (by simp; omega) ?_; intro v' w' hown' hgrow hnil)
            have B0 : Below w.heap.size w ((wr.drewN nq).alloc (.cells #[.int .i64 (k : Int)] 3)) := (below_drewN' B _).alloc B.size _
            have HB1 := Lib.hid (B0.grown hgrow (Nat.le_trans B.size (by simp)) (fun k hk => by have := (HO.out.lt k hk).1; omega))
            have c1' := Lib.hid (show w'.cell? ⟨w.heap.size, 1, none⟩ = some (.slice (some ⟨bf, of, none⟩) js.length fcap) from (hgrow.cell (a := ⟨w.heap.size, 1, none⟩) ((((below_drewN wr nq).alloc (Nat.le_refl _) _).cell (p := ⟨w.heap.size, 1, none⟩) hs).trans c1) (fun e => Nat.not_succ_le_self _ (HO.out.lt _ e.symm).1)))
            have HO1 := Lib.hid (OwnL.push hown')
            have hsz' := hgrow.size
            simp at hsz'
            clear hown' hgrow hnil B0
            go_roundg (gk - 1)
            case measure => have := HK.out; omega
            case rel => exact ⟨k + 1, by have := HK.out; omega, by go_num, by rw [HL.out, if_pos (by simp [*])]; exact HO1.out, c1'.out, HB1.out, by omega⟩
          · have H2 := Lib.hid h2
            have H3 := Lib.hid h3
            clear h2 h3
            go_wp2
            have h2 : 0 ≤ x := by have := H2.out; omega
            have h3 : x ≤ d := by have := H3.out; omega
            go_quiet (fail)
            go_wp2
            go_roundg (gk - 1)
            case measure => have := HK.out; omega
            case rel => exact ⟨k + 1, by have := HK.out; omega, by go_num, by rw [HL.out, if_neg (by simp [*])]; exact HO.out.below (below_drewN _ _), c1, below_drewN' B _, hs⟩
      · have H1 := Lib.hid h1
        clear h1
        go_wp2
        have h1 : ¬ d ≤ 120 := by have := H1.out; omega
        go_quiet (fail)
        go_wp2
        go_roundg (gk - 1)
        case measure => have := HK.out; omega
        case rel => exact ⟨k + 1, by have := HK.out; omega, by go_num, by rw [HL.out, if_neg (by intro h; simp at h; omega)]; exact HO.out.below (below_drewN _ _), c1, below_drewN' B _, hs⟩
    · obtain rfl : k = js.length := by omega
      go_wp2
      go_ret
      exact ⟨_, rfl, HO.out.mono (by omega), B⟩

/-- spec.Missed. -/
theorem specMissed_any (ja fa : Option Addr) (jcap fcap n : Nat) (js : List J4) (f : Nat → Int) (vr : Value) (hvr : ∃ a n c, vr = .slice a n c) (w : World) (hj : RowJ w ja js) (hf : IntF w fa n f) (hn : js.length ≤ 1048576) (hm : n ≤ 1048576) :
    Calls Try.prog 34 #[.slice ja js.length jcap, .agg #[vr, .slice fa n fcap]] w fun e w' =>
      ∃ v, e = .returned v ∧ OwnL w' w.heap.size v (if n = js.length then lateL js f js.length else []) ∧ Below w.heap.size w w' := by
  obtain ⟨ra, rn, rc, rfl⟩ := hvr
  have b0 := below_box w (.cells #[.slice ra rn rc, .slice fa n fcap] 43)
  have HJ := Lib.hid (hj.below b0)
  have HF := Lib.hid (hf.below b0)
  clear hj hf
  by_cases hl : n = js.length
  · subst hl
    go_enter Try.func34, Try.ntmps34
    go_wp2_with fail
    refine (l3Missed_any _ _ _ _ js f _ ⟨_, _, _, rfl⟩ _ HJ.out HF.out hn).mono ?_
    rintro e w1 ⟨v, rfl, ho, b1⟩
    go_wp2
    go_ret
    try rw [if_pos rfl]
    exact ⟨_, rfl, OwnI.mono ho (by simp), b0.trans (b1.mono (by simp))⟩
  · have hl' : ((n : Int) != js.length) = true := by simp; omega
    have HL := Lib.hid hl
    clear hl
    go_enter Try.func34, Try.ntmps34
    go_wp2
    go_ret
    try rw [if_neg HL.out]
    refine ⟨_, rfl, ?_, b0.alloc (by simp) _⟩
    have h := OwnI.empty (w.alloc (.cells #[.slice ra rn rc, .slice fa n fcap] 43)) (fun k => ([] : List Int).getD k 0)
    exact OwnI.mono (by simpa [OwnL] using h) (by simp)

end Go.Proofs.Ytpnfbgbbmpacfaa
