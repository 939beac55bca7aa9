/- Contracts of the reference's functions of chapter 7. Conditions: the slices hold what is said; their lengths are at most 2^40; what each theorem names. -/
import Derived.Test.YtdgihkmiolnglaaGreatDoorPart
import Derived.Test.YtdgihkmiolnglaaGreatDoorDemSpec
import Derived.Test.YtdgihkmiolnglaaGreatDoorDrawSet
import Derived.Test.YtdgihkmiolnglaaGreatDoorMem
namespace Go.Proofs.YtdgihkmiolnglaaGreatDoor
open Go.RowKit Go.Deep

theorem own_zeroT (w : World) : Own (w.alloc (.cells #[] 29)) w.heap.size (.slice (some ⟨w.heap.size, 0, none⟩) 0 0) [] :=
  ⟨rfl, .inr ⟨w.heap.size, 0, #[], rfl, Nat.le_refl _, blk_alloc_new _ _, Nat.le_refl _, by simp [maxLen], rfl, rfl⟩⟩
theorem own_mono {w : World} {base base' : Nat} {v : Value} {ts : List T3} (h : Own w base v ts) (hb : base' ≤ base) : Own w base' v ts := by
  obtain ⟨h1, h2 | ⟨g, cap, cur, h2, h3, h4⟩⟩ := h
  · exact ⟨h1, .inl h2⟩
  · exact ⟨h1, .inr ⟨g, cap, cur, h2, Nat.le_trans hb h3, h4⟩⟩
theorem own_belowT {w w' : World} {base : Nat} {v : Value} {ts : List T3} (h : Own w base v ts) (hb : Below w.heap.size w w') : Own w' base v ts :=
  World.ownsRow.kept h (gb_of_below hb none) (by cases e : v.ownBlock with
    | none => exact .inl rfl
    | some k => exact .inr (by simp))
theorem KPt {w w' : World} {N b o i : Nat} {C D Q : Int} (h : w.cell? ⟨b, o + i * 3, none⟩ = some (.int .i64 C) ∧ w.cell? ⟨b, o + i * 3 + 1, none⟩ = some (.int .i64 D) ∧ w.cell? ⟨b, o + i * 3 + 2, none⟩ = some (.int .i64 Q)) (hb : b < N) (hB : Below N w w') :
    w'.cell? ⟨b, o + i * 3, none⟩ = some (.int .i64 C) ∧ w'.cell? ⟨b, o + i * 3 + 1, none⟩ = some (.int .i64 D) ∧ w'.cell? ⟨b, o + i * 3 + 2, none⟩ = some (.int .i64 Q) :=
  ⟨(hB.cell (p := ⟨b, _, none⟩) hb).trans h.1, (hB.cell (p := ⟨b, _, none⟩) hb).trans h.2.1, (hB.cell (p := ⟨b, _, none⟩) hb).trans h.2.2⟩
theorem fit_sv {ts : List T3} (hv : svB ts = true) {f : Nat → Int} {c : Int} {i : Nat} (hi : i < ts.length) : svB (onN ts f c i ++ [tk ts i]) = true := by
  have h := onN_sv hv (fun k => if k = i then c else f k) c (k := i + 1) (by omega)
  simp only [onN] at h
  rw [if_pos trivial, if_pos rfl, onN_congr (g := f) fun j hj => if_neg (by omega)] at h
  exact h
theorem av_no1 {ts : List T3} {n : Int} {os : List Int} (h : svB ts = false) : avB ts n os = false := by simp [avB, h]
theorem av_no2 {ts : List T3} {n : Int} {os : List Int} (h : ¬ (1 ≤ n ∧ n ≤ 5)) : avB ts n os = false := by
  cases e : avB ts n os with
  | false => rfl
  | true => exact absurd (avB_iff.1 e).2.1 h
theorem av_no3 {ts : List T3} {n : Int} {os : List Int} (h : os.length ≠ ts.length) : avB ts n os = false := by
  cases e : avB ts n os with
  | false => rfl
  | true => exact absurd (avB_iff.1 e).2.2.1 h

set_option maxRecDepth 100000 in
set_option maxHeartbeats 2000000 in
/-- spec.l7On. -/
theorem l7On_any (a oa : Option Addr) (cap ocap m : Nat) (ts : List T3) (f : Nat → Int) (c : Int) (w : World) (hr : Row w a ts) (ho : IntF w oa m f) (hm : m ≤ ts.length) (hn : ts.length ≤ 1000) :
    Calls Tryz.prog 94 #[.slice a ts.length cap, .slice oa m ocap, .int .i64 c] w fun e w' => ∃ v, e = .returned v ∧ Own w' w.heap.size v (onN ts f c m) ∧ Below w.heap.size w w' := by
  obtain ⟨i0, hi, hz, hsz, hby⟩ := info_parts taskInfo
  have HI := Lib.hid (And.intro hi (And.intro hz (And.intro hsz hby)))
  have HR := Lib.hid hr
  have HO := Lib.hid ho
  clear hr ho hi hz hsz hby
  go_enter Tryz.func94, Tryz.ntmps94
  go_wp2
  go_loopg [7, 8] m (fun q s z wr => ∃ k : Nat, q + k = m ∧ z = .int .i64 k ∧ Own wr w.heap.size s (onN ts f c k) ∧ Below w.heap.size w wr)
  case atStart => exact ⟨0, rfl, rfl, own_zeroT _, below_box _ _⟩
  case round =>
    obtain ⟨k, hk, rfl, hown, B⟩ := hrel
    have HK := Lib.hid hk
    have HW := Lib.hid hown
    have HB := Lib.hid B
    have hkk : k ≤ m := by omega
    have hlen := onN_len ts f c k
    clear hk hown
    by_cases hlt : k < m
    · obtain ⟨b, off, rfl, hbs, x0⟩ := (HO.out.below B) k hlt
      obtain ⟨bt, ot, rfl, hbt, e0, e1, e2⟩ := (HR.out.below B).at (show k < ts.length by omega)
      obtain ⟨y, hy⟩ : ∃ y, y = f k := ⟨_, rfl⟩
      rw [← hy] at x0
      have hk0 : (0 : Int) ≤ k := by omega
      have hk1 : (k : Int) < m := by omega
      have hk2 : (k : Int) < ts.length := by omega
      clear B
      by_cases he : y = c
      · subst he
        have HS := Lib.hid (show onN ts f y (k + 1) = onN ts f y k ++ [tk ts k] from if_pos hy.symm)
        obtain ⟨⟨C, D, Q⟩, ht⟩ : ∃ t, t = tk ts k := ⟨_, rfl⟩
        rw [← ht] at e0 e1 e2 HS
        simp only at e0 e1 e2
        clear hy ht
        go_wp2_with (at_builtin; refine wpList_append_own _ rfl (.tmp 22) (.tmp 27) 27 rfl w.heap.size 29 i0 _ 3 24 Tryz.underlying27 HI.out.1 HI.out.2.1 HI.out.2.2.1 HI.out.2.2.2 rfl (by decide) _ (onN ts f y k).length (flat (onN ts f y k)) rfl (World.ownsRow.alloc HW.out _) ⟨wr.heap.size, 0, none⟩ 1 1 [.int .i64 C, .int .i64 D, .int .i64 Q] rfl rfl (news3 _ _ _ _ _) (one3 _ _ _) (by unfold maxLen; omega) (by omega) (Nat.le_trans HB.out.size (below_box _ _).size) ?_; intro v' w' hown' hgrow hnil)
        have B1 := Lib.hid (show Below w.heap.size w w' from (HB.out.trans ((below_box wr _).mono HB.out.size)).grown hgrow (Nat.le_trans HB.out.size (below_box _ _).size) (fun k hk => (World.ownsRow.lt HW.out k hk).1))
        have HO1 := Lib.hid (show Own w' w.heap.size v' (onN ts f y (k + 1)) by unfold Own; rw [HS.out, flat_snoc, List.length_append]; exact hown')
        clear hown' hgrow hnil
        go_roundg (gk - 1)
        case measure => have := HK.out; omega
        case rel => exact ⟨k + 1, by have := HK.out; omega, by go_num, HO1.out, B1.out⟩
      · have HS := Lib.hid (show onN ts f c (k + 1) = onN ts f c k from if_neg (by rw [← hy]; exact he))
        have he' : (y == c) = false := by simpa using he
        clear hy he
        go_wp2
        go_roundg (gk - 1)
        case measure => have := HK.out; omega
        case rel => exact ⟨k + 1, by have := HK.out; omega, by go_num, by rw [HS.out]; exact HW.out, HB.out⟩
    · obtain rfl : k = m := by omega
      go_wp2
      go_ret
      exact ⟨_, rfl, HW.out, HB.out⟩

/-- What spec.CoreTasks answers. -/
def ctL (ts : List T3) (n : Int) (os : List Int) (c : Int) : List T3 := if avB ts n os = true ∧ 0 ≤ c ∧ c ≤ n - 1 then onN ts (fun k => os.getD k 0) c os.length else []

end Go.Proofs.YtdgihkmiolnglaaGreatDoor
