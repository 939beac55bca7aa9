/- Contracts of the reference's functions of chapter 7. Conditions: the slices hold what is said; their lengths are at most 2^40; what each theorem names. -/
import Derived.Test.YtilfmfhbdafogaaPart
import Derived.Test.YtilfmfhbdafogaaDemSpec
import Derived.Test.YtilfmfhbdafogaaDrawSet
import Derived.Test.YtilfmfhbdafogaaMem
namespace Go.Proofs.Ytilfmfhbdafogaa
open Go.RowKit Go.Deep

theorem own_zeroT (w : World) : Own (w.alloc (.cells #[] 44)) w.heap.size (.slice (some ⟨w.heap.size, 0, none⟩) 0 0) [] :=
  ⟨rfl, .inr ⟨w.heap.size, 0, #[], rfl, Nat.le_refl _, blk_alloc_new _ _, Nat.le_refl _, by simp [maxLen], rfl, rfl⟩⟩
theorem own_mono {w : World} {base base' : Nat} {v : Value} {ts : List T3} (h : Own w base v ts) (hb : base' ≤ base) : Own w base' v ts := by
  obtain ⟨h1, h2 | ⟨g, cap, cur, h2, h3, h4⟩⟩ := h
  · exact ⟨h1, .inl h2⟩
  · exact ⟨h1, .inr ⟨g, cap, cur, h2, Nat.le_trans hb h3, h4⟩⟩
theorem own_belowT {w w' : World} {base : Nat} {v : Value} {ts : List T3} (h : Own w base v ts) (hb : Below w.heap.size w w') : Own w' base v ts :=
  World.ownsRow.kept h (gb_of_below hb none) (by cases e : v.ownBlock with
    | none => exact .inl rfl
    | some k => exact .inr (by simp))
theorem KPt {w w' : World} {N b o i : Nat} {C D Q : Int} (h : w.cell? ⟨b, o + i * 3, none⟩ = some (.int .i64 C) ∧ w.cell? ⟨b, o + i * 3 + 1, none⟩ = some (.int .i64 D) ∧ w.cell? ⟨b, o + i * 3 + 2, none⟩ = some (.int .i64 Q)) (hb : b < N) (hB : Below N w w') :
    w'.cell? ⟨b, o + i * 3, none⟩ = some (.int .i64 C) ∧ w'.cell? ⟨b, o + i * 3 + 1, none⟩ = some (.int .i64 D) ∧ w'.cell? ⟨b, o + i * 3 + 2, none⟩ = some (.int .i64 Q) :=
  ⟨(hB.cell (p := ⟨b, _, none⟩) hb).trans h.1, (hB.cell (p := ⟨b, _, none⟩) hb).trans h.2.1, (hB.cell (p := ⟨b, _, none⟩) hb).trans h.2.2⟩
theorem fit_sv {ts : List T3} (hv : svB ts = true) {f : Nat → Int} {c : Int} {i : Nat} (hi : i < ts.length) : svB (onN ts f c i ++ [tk ts i]) = true := by
  have h := onN_sv hv (fun k => if k = i then c else f k) c (k := i + 1) (by omega)
  simp only [onN] at h
  rw [if_pos trivial, if_pos rfl, onN_congr (g := f) fun j hj => if_neg (by omega)] at h
  exact h
theorem av_no1 {ts : List T3} {n : Int} {os : List Int} (h : svB ts = false) : avB ts n os = false := by simp [avB, h]
theorem av_no2 {ts : List T3} {n : Int} {os : List Int} (h : ¬ (1 ≤ n ∧ n ≤ 5)) : avB ts n os = false := by
  cases e : avB ts n os with
  | false => rfl
  | true => exact absurd (avB_iff.1 e).2.1 h
theorem av_no3 {ts : List T3} {n : Int} {os : List Int} (h : os.length ≠ ts.length) : avB ts n os = false := by
  cases e : avB ts n os with
  | false => rfl
  | true => exact absurd (avB_iff.1 e).2.2.1 h

set_option maxRecDepth 100000 in
set_option maxHeartbeats 2000000 in
/-- spec.AssignmentValid. -/
theorem specAssignmentValid_any (a oa : Option Addr) (cap ocap : Nat) (ts : List T3) (n : Int) (os : List Int) (w : World) (hr : Row w a ts) (ho : IntF w oa os.length fun k => os.getD k 0) (hn : ts.length ≤ 1099511627776) (_ : os.length ≤ 1099511627776) :
    Calls Try.prog 10 #[.slice a ts.length cap, .int .i64 n, .slice oa os.length ocap] w fun e w' => e = .returned (.bool (avB ts n os)) ∧ Below w.heap.size w w' := by
  have HR := Lib.hid hr
  have HO := Lib.hid ho
  clear hr ho
  go_enter Try.func10, Try.ntmps10
  go_wp2_with fail
  refine (specSetValid_any _ _ ts _ HR.out hn).mono ?_
  rintro e w1 ⟨rfl, b1⟩
  have HO1 := Lib.hid (HO.out.below b1)
  cases hs : svB ts with
  | false =>
    have hno := Lib.hid (av_no1 (n := n) (os := os) hs)
    go_wp2
    go_ret
    exact ⟨ret_bool hno.out.symm, b1⟩
  | true =>
    have HS := Lib.hid hs
    clear hs
    go_wp2_with fail
    refine (l1In_any n 1 5 _).mono ?_
    rintro e w' ⟨rfl, rfl⟩
    by_cases hc : 1 ≤ n ∧ n ≤ 5
    · rw [show inB n 1 5 = true from decide_eq_true hc]
      by_cases hl : os.length = ts.length
      · have HL := Lib.hid hl
        have HV := Lib.hid (show avB ts n os = true ↔ ∀ k, k < ts.length → 0 ≤ os.getD k 0 ∧ os.getD k 0 < n from ⟨fun h k hk => (avB_iff.1 h).2.2.2 k (by omega), fun h => avB_iff.2 ⟨HS.out, hc, hl, fun k hk => h k (by omega)⟩⟩)
        obtain ⟨f, hf⟩ : ∃ f : Nat → Int, f = fun k => os.getD k 0 := ⟨_, rfl⟩
        have HF := Lib.hid (show IntF w1 oa ts.length f by have := HO1.out; rw [hl, ← hf] at this; exact this)
        have HFK := Lib.hid (fun k => show os.getD k 0 = f k by rw [hf])
        obtain ⟨hc1, hc2⟩ := hc
        have hw : IntKind.i64.wrap (n - 1) = n - 1 := IntWalk.i64_in _ (by omega)
        rw [hl]
        clear hf HO HO1 hl HR
        go_wp2
        go_loopg [7] ts.length (fun m z wr => ∃ k : Nat, m + k = ts.length ∧ z = .int .i64 k ∧ (∀ j, j < k → 0 ≤ f j ∧ f j < n) ∧ w1 = wr)
        case atStart => exact ⟨0, rfl, rfl, fun j hj => absurd hj (Nat.not_lt_zero _), rfl⟩
        case round =>
          obtain ⟨k, hk, rfl, hall, rfl⟩ := hrel
          have HK := Lib.hid hk
          have HA := Lib.hid hall
          have hkk : k ≤ ts.length := by omega
          clear hk hall
          by_cases hlt : k < ts.length
          · obtain ⟨b, off, rfl, hbs, c0⟩ := HF.out k hlt
            obtain ⟨y, hy⟩ : ∃ y, y = f k := ⟨_, rfl⟩
            rw [← hy] at c0
            have HY := Lib.hid hy
            have hk0 : (0 : Int) ≤ k := by omega
            have hk1 : (k : Int) < ts.length := by omega
            clear hy
            go_wp2_with fail
            refine (l1In_any y 0 (n - 1) _).mono ?_
            rintro e w' ⟨rfl, rfl⟩
            by_cases hv : 0 ≤ y ∧ y ≤ n - 1
            · rw [show inB y 0 (n - 1) = true from decide_eq_true hv]
              have HW := Lib.hid hv
              clear hv
              go_wp2
              go_roundg (gk - 1)
              case measure => have := HK.out; omega
              case rel => exact ⟨k + 1, by have := HK.out; omega, by go_num, fun j hj => by
                  by_cases e : j = k
                  · subst e; rw [← HY.out]; have := HW.out; omega
                  · exact HA.out j (by omega), rfl⟩
            · rw [show inB y 0 (n - 1) = false from decide_eq_false hv]
              have hno : avB ts n os = false := by
                rw [← Bool.not_eq_true, HV.out]
                intro h
                have := h k hlt
                rw [HFK.out k, ← HY.out] at this
                omega
              have HN := Lib.hid hno
              clear hv hno
              go_wp2
              go_ret
              exact ⟨ret_bool HN.out.symm, b1⟩
          · obtain rfl : k = ts.length := by omega
            have HT := Lib.hid (HV.out.2 fun k hk => by rw [HFK.out k]; exact HA.out k hk)
            go_wp2
            go_ret
            exact ⟨ret_bool HT.out.symm, b1⟩
      · have HN := Lib.hid (av_no3 (ts := ts) (n := n) hl)
        have hl' : ¬ (os.length : Int) = ts.length := by omega
        have hl2 : ((os.length : Int) == (ts.length : Int)) = false := by simpa using hl'
        clear hl'
        go_wp2
        go_ret
        exact ⟨ret_bool HN.out.symm, b1⟩
    · rw [show inB n 1 5 = false from decide_eq_false hc]
      have HN := Lib.hid (av_no2 (ts := ts) (os := os) hc)
      clear hc
      go_wp2
      go_ret
      exact ⟨ret_bool HN.out.symm, b1⟩

set_option maxRecDepth 100000 in
set_option maxHeartbeats 2000000 in
/-- spec.l7On. -/
theorem l7On_any (a oa : Option Addr) (cap ocap m : Nat) (ts : List T3) (f : Nat → Int) (c : Int) (w : World) (hr : Row w a ts) (ho : IntF w oa m f) (hm : m ≤ ts.length) (hn : ts.length ≤ 1000) :
    Calls Try.prog 36 #[.slice a ts.length cap, .slice oa m ocap, .int .i64 c] w fun e w' => ∃ v, e = .returned v ∧ Own w' w.heap.size v (onN ts f c m) ∧ Below w.heap.size w w' := by
  obtain ⟨i0, hi, hz, hsz, hby⟩ := info_parts taskInfo
  have HI := Lib.hid (And.intro hi (And.intro hz (And.intro hsz hby)))
  have HR := Lib.hid hr
  have HO := Lib.hid ho
  clear hr ho hi hz hsz hby
  go_enter Try.func36, Try.ntmps36
  go_wp2
  go_loopg [7, 8] m (fun q s z wr => ∃ k : Nat, q + k = m ∧ z = .int .i64 k ∧ Own wr w.heap.size s (onN ts f c k) ∧ Below w.heap.size w wr)
  case atStart => exact ⟨0, rfl, rfl, own_zeroT _, below_box _ _⟩
  case round =>
    obtain ⟨k, hk, rfl, hown, B⟩ := hrel
    have HK := Lib.hid hk
    have HW := Lib.hid hown
    have HB := Lib.hid B
    have hkk : k ≤ m := by omega
    have hlen := onN_len ts f c k
    clear hk hown
    by_cases hlt : k < m
    · obtain ⟨b, off, rfl, hbs, x0⟩ := (HO.out.below B) k hlt
      obtain ⟨bt, ot, rfl, hbt, e0, e1, e2⟩ := (HR.out.below B).at (show k < ts.length by omega)
      obtain ⟨y, hy⟩ : ∃ y, y = f k := ⟨_, rfl⟩
      rw [← hy] at x0
      have hk0 : (0 : Int) ≤ k := by omega
      have hk1 : (k : Int) < m := by omega
      have hk2 : (k : Int) < ts.length := by omega
      clear B
      by_cases he : y = c
      · subst he
        have HS := Lib.hid (show onN ts f y (k + 1) = onN ts f y k ++ [tk ts k] from if_pos hy.symm)
        obtain ⟨⟨C, D, Q⟩, ht⟩ : ∃ t, t = tk ts k := ⟨_, rfl⟩
        rw [← ht] at e0 e1 e2 HS
        simp only at e0 e1 e2
        clear hy ht
        go_wp2_with (at_builtin; refine wpList_append_own _ rfl (.tmp 22) (.tmp 27) 26 rfl w.heap.size 44 i0 _ 3 24 Try.underlying26 HI.out.1 HI.out.2.1 HI.out.2.2.1 HI.out.2.2.2 rfl (by decide) _ (onN ts f y k).length (flat (onN ts f y k)) rfl (World.ownsRow.alloc HW.out _) ⟨wr.heap.size, 0, none⟩ 1 1 [.int .i64 C, .int .i64 D, .int .i64 Q] rfl rfl (news3 _ _ _ _ _) (one3 _ _ _) (by unfold maxLen; omega) (by omega) (Nat.le_trans HB.out.size (below_box _ _).size) ?_; intro v' w' hown' hgrow hnil)
        have B1 := Lib.hid (show Below w.heap.size w w' from (HB.out.trans ((below_box wr _).mono HB.out.size)).grown hgrow (Nat.le_trans HB.out.size (below_box _ _).size) (fun k hk => (World.ownsRow.lt HW.out k hk).1))
        have HO1 := Lib.hid (show Own w' w.heap.size v' (onN ts f y (k + 1)) by unfold Own; rw [HS.out, flat_snoc, List.length_append]; exact hown')
        clear hown' hgrow hnil
        go_roundg (gk - 1)
        case measure => have := HK.out; omega
        case rel => exact ⟨k + 1, by have := HK.out; omega, by go_num, HO1.out, B1.out⟩
      · have HS := Lib.hid (show onN ts f c (k + 1) = onN ts f c k from if_neg (by rw [← hy]; exact he))
        have he' : (y == c) = false := by simpa using he
        clear hy he
        go_wp2
        go_roundg (gk - 1)
        case measure => have := HK.out; omega
        case rel => exact ⟨k + 1, by have := HK.out; omega, by go_num, by rw [HS.out]; exact HW.out, HB.out⟩
    · obtain rfl : k = m := by omega
      go_wp2
      go_ret
      exact ⟨_, rfl, HW.out, HB.out⟩

/-- What spec.CoreTasks answers. -/
def ctL (ts : List T3) (n : Int) (os : List Int) (c : Int) : List T3 := if avB ts n os = true ∧ 0 ≤ c ∧ c ≤ n - 1 then onN ts (fun k => os.getD k 0) c os.length else []

set_option maxRecDepth 100000 in
set_option maxHeartbeats 2000000 in
/-- spec.CoreTasks. -/
theorem specCoreTasks_any (a oa : Option Addr) (cap ocap : Nat) (ts : List T3) (n : Int) (os : List Int) (c : Int) (w : World) (hr : Row w a ts) (ho : IntF w oa os.length fun k => os.getD k 0) (hn : ts.length ≤ 1099511627776) (hon : os.length ≤ 1099511627776) :
    Calls Try.prog 16 #[.slice a ts.length cap, .int .i64 n, .slice oa os.length ocap, .int .i64 c] w fun e w' => ∃ v, e = .returned v ∧ Own w' w.heap.size v (ctL ts n os c) ∧ Below w.heap.size w w' := by
  have HR := Lib.hid hr
  have HO := Lib.hid ho
  clear hr ho
  go_enter Try.func16, Try.ntmps16
  go_wp2_with fail
  refine (specAssignmentValid_any _ _ _ _ ts n os _ HR.out HO.out hn hon).mono ?_
  rintro e w1 ⟨rfl, b1⟩
  have B1 := Lib.hid b1
  have HR1 := Lib.hid (HR.out.below b1)
  have HO1 := Lib.hid (HO.out.below b1)
  clear b1 HR HO
  cases hv : avB ts n os with
  | false =>
    have HN := Lib.hid (show ctL ts n os c = [] from if_neg (by rw [hv]; simp))
    clear hv
    go_wp2
    go_ret
    exact ⟨_, rfl, by rw [HN.out]; exact own_mono (own_zeroT _) B1.out.size, B1.out.alloc B1.out.size _⟩
  | true =>
    have hav := avB_iff.1 hv
    have hl5 : ts.length ≤ 5 := (sv_all hav.1).2
    have hwn : IntKind.i64.wrap (n - 1) = n - 1 := IntWalk.i64_in _ (by omega)
    have HV := Lib.hid hv
    have HL := Lib.hid hav.2.2.1
    clear hv hav
    go_wp2_with fail
    refine (l1In_any c 0 (n - 1) _).mono ?_
    rintro e w' ⟨rfl, rfl⟩
    by_cases hc : 0 ≤ c ∧ c ≤ n - 1
    · rw [show inB c 0 (n - 1) = true from decide_eq_true hc]
      have HN := Lib.hid (show ctL ts n os c = onN ts (fun k => os.getD k 0) c os.length from if_pos ⟨HV.out, hc⟩)
      clear hc
      go_wp2_with fail
      refine (l7On_any _ _ _ _ os.length ts (fun k => os.getD k 0) c _ HR1.out HO1.out (by have := HL.out; omega) (by omega)).mono ?_
      rintro e w2 ⟨v, rfl, ho2, b2⟩
      have HO2 := Lib.hid ho2
      clear ho2
      go_wp2
      go_ret
      exact ⟨v, rfl, by rw [HN.out]; exact own_mono HO2.out B1.out.size, B1.out.trans (b2.mono B1.out.size)⟩
    · rw [show inB c 0 (n - 1) = false from decide_eq_false hc]
      have HN := Lib.hid (show ctL ts n os c = [] from if_neg (fun h => hc h.2))
      clear hc
      go_wp2
      go_ret
      exact ⟨_, rfl, by rw [HN.out]; exact own_mono (own_zeroT _) B1.out.size, B1.out.alloc B1.out.size _⟩

set_option maxRecDepth 100000 in
set_option maxHeartbeats 2000000 in
/-- spec.AssignmentFeasible. -/
theorem specAssignmentFeasible_any (a oa : Option Addr) (cap ocap : Nat) (ts : List T3) (n : Int) (os : List Int) (w : World) (hr : Row w a ts) (ho : IntF w oa os.length fun k => os.getD k 0) (hn : ts.length ≤ 1099511627776) (hon : os.length ≤ 1099511627776) :
    Calls Try.prog 21 #[.slice a ts.length cap, .int .i64 n, .slice oa os.length ocap] w fun e w' => e = .returned (.bool (afB ts n os)) ∧ Below w.heap.size w w' := by
  have HR := Lib.hid hr
  have HO := Lib.hid ho
  clear hr ho
  go_enter Try.func21, Try.ntmps21
  go_wp2_with fail
  refine (specAssignmentValid_any _ _ _ _ ts n os _ HR.out HO.out hn hon).mono ?_
  rintro e w1 ⟨rfl, b1⟩
  have B1 := Lib.hid b1
  have HR1 := Lib.hid (HR.out.below b1)
  have HO1 := Lib.hid (HO.out.below b1)
  clear b1 HR HO
  cases hv : avB ts n os with
  | false =>
    have HN := Lib.hid (show afB ts n os = false by unfold afB; rw [hv]; rfl)
    clear hv
    go_wp2
    go_ret
    exact ⟨ret_bool HN.out.symm, B1.out⟩
  | true =>
    have hav := avB_iff.1 hv
    have hl5 : ts.length ≤ 5 := (sv_all hav.1).2
    obtain ⟨N, hN⟩ : ∃ N : Nat, n = (N : Int) := ⟨n.toNat, by omega⟩
    subst hN
    have hN5 : N ≤ 5 := by omega
    have HL := Lib.hid hav.2.2.1
    have HSV := Lib.hid (fun c : Int => onN_sv hav.1 (fun k => os.getD k 0) c (k := os.length) (by omega))
    have HAF := Lib.hid (show afB ts (N : Int) os = true ↔ Fea ts N (fun k => os.getD k 0) os.length from by rw [afB_iff]; exact ⟨fun h => h.2, fun h => ⟨hv, h⟩⟩)
    clear hv hav
    go_wp2
    go_loopg [7] N (fun q z wr => ∃ c : Nat, q + c = N ∧ z = .int .i64 c ∧ (∀ d, d < c → edf (onN ts (fun k => os.getD k 0) (d : Nat) os.length) = true) ∧ Below w1.heap.size w1 wr)
    case atStart => exact ⟨0, by omega, rfl, fun d hd => absurd hd (Nat.not_lt_zero _), Below.refl _ _⟩
    case round =>
      obtain ⟨c, hq, rfl, hall, B⟩ := hrel
      have HQ := Lib.hid hq
      have HA := Lib.hid hall
      have HB := Lib.hid B
      have hcN : c ≤ N := by omega
      clear hq hall B
      by_cases hlt : c < N
      · have hc1 : (c : Int) < N := by omega
        have hc0 : (0 : Int) ≤ c := by omega
        go_wp2_with fail
        refine (l7On_any _ _ _ _ os.length ts (fun k => os.getD k 0) (c : Int) _ (HR1.out.below HB.out) (HO1.out.below HB.out) (by have := HL.out; omega) (by omega)).mono ?_
        rintro e w2 ⟨v, rfl, ho2, b2⟩
        obtain ⟨a2, c2, rfl, hr2, -, -⟩ := ho2.row
        have HR2 := Lib.hid hr2
        have HB2 := Lib.hid (HB.out.trans (b2.mono HB.out.size))
        clear ho2 hr2 b2
        go_wp2_with fail
        refine (l2Edf_any _ _ _ _ HR2.out (HSV.out _)).mono ?_
        rintro e w3 ⟨rfl, b3⟩
        have HB3 := Lib.hid (HB2.out.trans (b3.mono HB2.out.size))
        clear b3
        cases he : edf (onN ts (fun k => os.getD k 0) (c : Int) os.length) with
        | true =>
          have HE := Lib.hid he
          clear he
          go_wp2
          go_roundg (gk - 1)
          case measure => have := HQ.out; omega
          case rel => exact ⟨c + 1, by have := HQ.out; omega, by go_num, fun d hd => by
              by_cases e : d = c
              · subst e; exact HE.out
              · exact HA.out d (by omega), HB3.out⟩
        | false =>
          have HN := Lib.hid (show afB ts (N : Int) os = false by
            rw [← Bool.not_eq_true, HAF.out]
            intro h
            have := h c hlt
            rw [he] at this
            simp at this)
          clear he
          go_wp2
          go_ret
          exact ⟨ret_bool HN.out.symm, B1.out.trans (HB3.out.mono B1.out.size)⟩
      · obtain rfl : c = N := by omega
        have HT := Lib.hid (HAF.out.2 fun d hd => HA.out d hd)
        go_wp2
        go_ret
        exact ⟨ret_bool HT.out.symm, B1.out.trans (HB.out.mono B1.out.size)⟩

end Go.Proofs.Ytilfmfhbdafogaa
