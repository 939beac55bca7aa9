/- Contracts of the program's functions of chapter 7 that hold no range over a function: coresValid, AssignmentValid, assignment.tasks, CoreTasks, AssignmentFeasible. Conditions: the slices hold what is said; their lengths are at most 2^40; what each theorem names. -/
import Derived.Test.YtilfmfhbdafogaaPartMin
import Derived.Test.YtilfmfhbdafogaaDemImpl
namespace Go.Proofs.Ytilfmfhbdafogaa
open Go.RowKit Go.Deep

/-- impl.coresValid. -/
theorem coresValid_any (n : Int) (w : World) : Calls Try.prog 34 #[.int .i64 n] w fun e w' => e = .returned (.bool (decide (1 ≤ n ∧ n ≤ 5))) ∧ w = w' := by
  go_enter Try.func34, Try.ntmps34
  by_cases h1 : 1 ≤ n
  · by_cases h2 : n ≤ 5
    · go_wp2
      go_ret
      exact ⟨ret_bool (decide_eq_true ⟨h1, h2⟩).symm, rfl⟩
    · go_wp2
      go_ret
      exact ⟨ret_bool (by rw [eq_comm]; simp; omega), rfl⟩
  · go_wp2
    go_ret
    exact ⟨ret_bool (by rw [eq_comm]; simp; omega), rfl⟩

set_option maxRecDepth 100000 in
set_option maxHeartbeats 2000000 in
/-- impl.AssignmentValid. -/
theorem assignmentValid_any (a oa : Option Addr) (cap ocap : Nat) (ts : List T3) (n : Int) (os : List Int) (w : World) (hr : Row w a ts) (ho : IntF w oa os.length fun k => os.getD k 0) (hn : ts.length ≤ 1099511627776) (_ : os.length ≤ 1099511627776) :
    Calls Try.prog 13 #[.slice a ts.length cap, .int .i64 n, .slice oa os.length ocap] w fun e w' => e = .returned (.bool (avB ts n os)) ∧ Below w.heap.size w w' := by
  have HR := Lib.hid hr
  have HO := Lib.hid ho
  clear hr ho
  go_enter Try.func13, Try.ntmps13
  go_wp2_with fail
  refine (setValid_any _ _ ts _ HR.out hn).mono ?_
  rintro e w1 ⟨rfl, b1⟩
  have HO1 := Lib.hid (HO.out.below b1)
  cases hs : svB ts with
  | false =>
    have hno := Lib.hid (av_no1 (n := n) (os := os) hs)
    go_wp2
    go_ret
    exact ⟨ret_bool hno.out.symm, b1⟩
  | true =>
    have HS := Lib.hid hs
    clear hs
    go_wp2_with fail
    refine (coresValid_any n _).mono ?_
    rintro e w' ⟨rfl, rfl⟩
    by_cases hc : 1 ≤ n ∧ n ≤ 5
    · rw [decide_eq_true hc]
      by_cases hl : os.length = ts.length
      · have HL := Lib.hid hl
        have HV := Lib.hid (show avB ts n os = true ↔ ∀ k, k < ts.length → 0 ≤ os.getD k 0 ∧ os.getD k 0 < n from ⟨fun h k hk => (avB_iff.1 h).2.2.2 k (by omega), fun h => avB_iff.2 ⟨HS.out, hc, hl, fun k hk => h k (by omega)⟩⟩)
        obtain ⟨f, hf⟩ : ∃ f : Nat → Int, f = fun k => os.getD k 0 := ⟨_, rfl⟩
        have HF := Lib.hid (show IntF w1 oa ts.length f by have := HO1.out; rw [hl, ← hf] at this; exact this)
        have HFK := Lib.hid (fun k => show os.getD k 0 = f k by rw [hf])
        obtain ⟨hc1, hc2⟩ := hc
        rw [hl]
        clear hf HO HO1 hl HR
        go_wp2
        go_loopg [26] ts.length (fun m z wr => ∃ k : Nat, m + k = ts.length ∧ z = .int .i64 k ∧ (∀ j, j < k → 0 ≤ f j ∧ f j < n) ∧ w1 = wr)
        case atStart => exact ⟨0, rfl, rfl, fun j hj => absurd hj (Nat.not_lt_zero _), rfl⟩
        case round =>
          obtain ⟨k, hk, rfl, hall, rfl⟩ := hrel
          have HK := Lib.hid hk
          have HA := Lib.hid hall
          have hkk : k ≤ ts.length := by omega
          clear hk hall
          by_cases hlt : k < ts.length
          · obtain ⟨b, off, rfl, hbs, c0⟩ := HF.out k hlt
            obtain ⟨y, hy⟩ : ∃ y, y = f k := ⟨_, rfl⟩
            rw [← hy] at c0
            have HY := Lib.hid hy
            have hk0 : (0 : Int) ≤ k := by omega
            have hk1 : (k : Int) < ts.length := by omega
            clear hy
            have no : ¬ (0 ≤ y ∧ y < n) → avB ts n os = false := fun hv => by
              rw [← Bool.not_eq_true, HV.out]
              intro h
              have := h k hlt
              rw [HFK.out k, ← HY.out] at this
              exact hv this
            by_cases hv0 : y < 0
            · have HN := Lib.hid (no (by omega))
              clear no
              go_wp2
              go_ret
              exact ⟨ret_bool HN.out.symm, b1⟩
            · by_cases hv1 : n ≤ y
              · have HN := Lib.hid (no (by omega))
                clear no
                go_wp2
                go_ret
                exact ⟨ret_bool HN.out.symm, b1⟩
              · clear no
                have HW := Lib.hid (show 0 ≤ y ∧ y < n by omega)
                go_wp2
                go_roundg (gk - 1)
                case measure => have := HK.out; omega
                case rel => exact ⟨k + 1, by have := HK.out; omega, by go_num, fun j hj => by
                    by_cases e : j = k
                    · subst e; rw [← HY.out]; exact HW.out
                    · exact HA.out j (by omega), rfl⟩
          · obtain rfl : k = ts.length := by omega
            have HT := Lib.hid (HV.out.2 fun k hk => by rw [HFK.out k]; exact HA.out k hk)
            go_wp2
            go_ret
            exact ⟨ret_bool HT.out.symm, b1⟩
      · have HN := Lib.hid (av_no3 (ts := ts) (n := n) hl)
        have hl' : ¬ (os.length : Int) = ts.length := by omega
        have hl2 : ((os.length : Int) == (ts.length : Int)) = false := by simpa using hl'
        clear hl'
        go_wp2
        go_ret
        exact ⟨ret_bool HN.out.symm, b1⟩
    · rw [decide_eq_false hc]
      have HN := Lib.hid (av_no2 (ts := ts) (os := os) hc)
      clear hc
      go_wp2
      go_ret
      exact ⟨ret_bool HN.out.symm, b1⟩

set_option maxRecDepth 100000 in
set_option maxHeartbeats 2000000 in
/-- impl.assignment.tasks: those of the first m tasks that are on processor c. -/
theorem tasks_any (a oa : Option Addr) (cap ocap m : Nat) (ts : List T3) (f : Nat → Int) (c : Int) (w : World) (hr : Row w a ts) (ho : IntF w oa m f) (hm : m ≤ ts.length) (hn : ts.length ≤ 1000) :
    Calls Try.prog 37 #[.slice oa m ocap, .slice a ts.length cap, .int .i64 c] w fun e w' => ∃ v, e = .returned v ∧ Own w' w.heap.size v (onN ts f c m) ∧ Below w.heap.size w w' := by
  obtain ⟨i0, hi, hz, hsz, hby⟩ := info_parts taskInfo
  have HI := Lib.hid (And.intro hi (And.intro hz (And.intro hsz hby)))
  have HR := Lib.hid hr
  have HO := Lib.hid ho
  clear hr ho hi hz hsz hby
  go_enter Try.func37, Try.ntmps37
  go_wp2
  go_loopg [7, 12] m (fun q s z wr => ∃ k : Nat, q + k = m ∧ z = .int .i64 k ∧ Own wr w.heap.size s (onN ts f c k) ∧ Below w.heap.size w wr)
  case atStart => exact ⟨0, rfl, rfl, ⟨rfl, .inl ⟨rfl, rfl⟩⟩, Below.refl _ _⟩
  case round =>
    obtain ⟨k, hk, rfl, hown, B⟩ := hrel
    have HK := Lib.hid hk
    have HW := Lib.hid hown
    have HB := Lib.hid B
    have hkk : k ≤ m := by omega
    have hlen := onN_len ts f c k
    clear hk hown
    by_cases hlt : k < m
    · obtain ⟨b, off, rfl, hbs, x0⟩ := (HO.out.below B) k hlt
      obtain ⟨bt, ot, rfl, hbt, e0, e1, e2⟩ := (HR.out.below B).at (show k < ts.length by omega)
      obtain ⟨y, hy⟩ : ∃ y, y = f k := ⟨_, rfl⟩
      rw [← hy] at x0
      have hk0 : (0 : Int) ≤ k := by omega
      have hk1 : (k : Int) < m := by omega
      have hk2 : (k : Int) < ts.length := by omega
      clear B
      by_cases he : y = c
      · subst he
        have HS := Lib.hid (show onN ts f y (k + 1) = onN ts f y k ++ [tk ts k] from if_pos hy.symm)
        obtain ⟨⟨C, D, Q⟩, ht⟩ : ∃ t, t = tk ts k := ⟨_, rfl⟩
        rw [← ht] at e0 e1 e2 HS
        simp only at e0 e1 e2
        clear hy ht
        go_wp2_with (at_builtin; refine wpList_append_own _ rfl (.tmp 20) (.tmp 25) 26 rfl w.heap.size 44 i0 _ 3 24 Try.underlying26 HI.out.1 HI.out.2.1 HI.out.2.2.1 HI.out.2.2.2 rfl (by decide) _ (onN ts f y k).length (flat (onN ts f y k)) rfl (World.ownsRow.alloc HW.out _) ⟨wr.heap.size, 0, none⟩ 1 1 [.int .i64 C, .int .i64 D, .int .i64 Q] rfl rfl (news3 _ _ _ _ _) (one3 _ _ _) (by unfold maxLen; omega) (by omega) (Nat.le_trans HB.out.size (below_box _ _).size) ?_; intro v' w' hown' hgrow hnil)
        have B1 := Lib.hid (show Below w.heap.size w w' from (HB.out.trans ((below_box wr _).mono HB.out.size)).grown hgrow (Nat.le_trans HB.out.size (below_box _ _).size) (fun k hk => (World.ownsRow.lt HW.out k hk).1))
        have HO1 := Lib.hid (show Own w' w.heap.size v' (onN ts f y (k + 1)) by unfold Own; rw [HS.out, flat_snoc, List.length_append]; exact hown')
        clear hown' hgrow hnil
        go_roundg (gk - 1)
        case measure => have := HK.out; omega
        case rel => exact ⟨k + 1, by have := HK.out; omega, by go_num, HO1.out, B1.out⟩
      · have HS := Lib.hid (show onN ts f c (k + 1) = onN ts f c k from if_neg (by rw [← hy]; exact he))
        have he' : (y == c) = false := by simpa using he
        clear hy he
        go_wp2
        go_roundg (gk - 1)
        case measure => have := HK.out; omega
        case rel => exact ⟨k + 1, by have := HK.out; omega, by go_num, by rw [HS.out]; exact HW.out, HB.out⟩
    · obtain rfl : k = m := by omega
      go_wp2
      go_ret
      exact ⟨_, rfl, HW.out, HB.out⟩

set_option maxRecDepth 100000 in
set_option maxHeartbeats 2000000 in
/-- impl.CoreTasks. -/
theorem coreTasks_any (a oa : Option Addr) (cap ocap : Nat) (ts : List T3) (n : Int) (os : List Int) (c : Int) (w : World) (hr : Row w a ts) (ho : IntF w oa os.length fun k => os.getD k 0) (hn : ts.length ≤ 1099511627776) (hon : os.length ≤ 1099511627776) :
    Calls Try.prog 17 #[.slice a ts.length cap, .int .i64 n, .slice oa os.length ocap, .int .i64 c] w fun e w' => ∃ v, e = .returned v ∧ Own w' w.heap.size v (ctL ts n os c) ∧ Below w.heap.size w w' := by
  have HR := Lib.hid hr
  have HO := Lib.hid ho
  clear hr ho
  go_enter Try.func17, Try.ntmps17
  go_wp2_with fail
  refine (assignmentValid_any _ _ _ _ ts n os _ HR.out HO.out hn hon).mono ?_
  rintro e w1 ⟨rfl, b1⟩
  have B1 := Lib.hid b1
  have HR1 := Lib.hid (HR.out.below b1)
  have HO1 := Lib.hid (HO.out.below b1)
  clear b1 HR HO
  have NO : ∀ {w' : World} (base : Nat), ctL ts n os c = [] → Own w' base (.slice none 0 0) (ctL ts n os c) := fun base h => by rw [h]; exact ⟨rfl, .inl ⟨rfl, rfl⟩⟩
  cases hv : avB ts n os with
  | false =>
    have HN := Lib.hid (show ctL ts n os c = [] from if_neg (by rw [hv]; simp))
    clear hv
    go_wp2
    go_ret
    exact ⟨_, rfl, NO _ HN.out, B1.out⟩
  | true =>
    have hav := avB_iff.1 hv
    have hl5 : ts.length ≤ 5 := (sv_all hav.1).2
    have HV := Lib.hid hv
    have HL := Lib.hid hav.2.2.1
    clear hv hav
    by_cases hc0 : c < 0
    · have HN := Lib.hid (show ctL ts n os c = [] from if_neg (fun h => by omega))
      go_wp2
      go_ret
      exact ⟨_, rfl, NO _ HN.out, B1.out⟩
    · by_cases hc1 : n ≤ c
      · have HN := Lib.hid (show ctL ts n os c = [] from if_neg (fun h => by omega))
        go_wp2
        go_ret
        exact ⟨_, rfl, NO _ HN.out, B1.out⟩
      · have HN := Lib.hid (show ctL ts n os c = onN ts (fun k => os.getD k 0) c os.length from if_pos ⟨HV.out, by omega, by omega⟩)
        clear NO
        go_wp2_with fail
        refine (tasks_any _ _ _ _ os.length ts (fun k => os.getD k 0) c _ HR1.out HO1.out (by have := HL.out; omega) (by omega)).mono ?_
        rintro e w2 ⟨v, rfl, ho2, b2⟩
        have HO2 := Lib.hid ho2
        clear ho2
        go_wp2
        go_ret
        exact ⟨v, rfl, by rw [HN.out]; exact own_mono HO2.out B1.out.size, B1.out.trans (b2.mono B1.out.size)⟩

set_option maxRecDepth 100000 in
set_option maxHeartbeats 2000000 in
/-- impl.AssignmentFeasible. -/
theorem assignmentFeasible_any (a oa : Option Addr) (cap ocap : Nat) (ts : List T3) (n : Int) (os : List Int) (w : World) (hr : Row w a ts) (ho : IntF w oa os.length fun k => os.getD k 0) (hn : ts.length ≤ 1099511627776) (hon : os.length ≤ 1099511627776) :
    Calls Try.prog 22 #[.slice a ts.length cap, .int .i64 n, .slice oa os.length ocap] w fun e w' => e = .returned (.bool (afB ts n os)) ∧ Below w.heap.size w w' := by
  have HR := Lib.hid hr
  have HO := Lib.hid ho
  clear hr ho
  go_enter Try.func22, Try.ntmps22
  go_wp2_with fail
  refine (assignmentValid_any _ _ _ _ ts n os _ HR.out HO.out hn hon).mono ?_
  rintro e w1 ⟨rfl, b1⟩
  have B1 := Lib.hid b1
  have HR1 := Lib.hid (HR.out.below b1)
  have HO1 := Lib.hid (HO.out.below b1)
  clear b1 HR HO
  cases hv : avB ts n os with
  | false =>
    have HN := Lib.hid (show afB ts n os = false by unfold afB; rw [hv]; rfl)
    clear hv
    go_wp2
    go_ret
    exact ⟨ret_bool HN.out.symm, B1.out⟩
  | true =>
    have hav := avB_iff.1 hv
    have hl5 : ts.length ≤ 5 := (sv_all hav.1).2
    obtain ⟨N, hN⟩ : ∃ N : Nat, n = (N : Int) := ⟨n.toNat, by omega⟩
    subst hN
    have hN5 : N ≤ 5 := by omega
    have HL := Lib.hid hav.2.2.1
    have HLE := Lib.hid (fun c : Int => Nat.le_trans (onN_len ts (fun k => os.getD k 0) c os.length) (show os.length ≤ 1099511627776 from hon))
    have HAF := Lib.hid (show afB ts (N : Int) os = true ↔ Fea ts N (fun k => os.getD k 0) os.length from by rw [afB_iff]; exact ⟨fun h => h.2, fun h => ⟨hv, h⟩⟩)
    clear hv hav
    go_wp2
    go_loopg [14] N (fun q z wr => ∃ c : Nat, q + c = N ∧ z = .int .i64 c ∧ (∀ d, d < c → edf (onN ts (fun k => os.getD k 0) (d : Nat) os.length) = true) ∧ Below w1.heap.size w1 wr)
    case atStart => exact ⟨0, by omega, rfl, fun d hd => absurd hd (Nat.not_lt_zero _), Below.refl _ _⟩
    case round =>
      obtain ⟨c, hq, rfl, hall, B⟩ := hrel
      have HQ := Lib.hid hq
      have HA := Lib.hid hall
      have HB := Lib.hid B
      have hcN : c ≤ N := by omega
      clear hq hall B
      by_cases hlt : c < N
      · have hc1 : (c : Int) < N := by omega
        have hc0 : (0 : Int) ≤ c := by omega
        go_wp2_with fail
        refine (tasks_any _ _ _ _ os.length ts (fun k => os.getD k 0) (c : Int) _ (HR1.out.below HB.out) (HO1.out.below HB.out) (by have := HL.out; omega) (by omega)).mono ?_
        rintro e w2 ⟨v, rfl, ho2, b2⟩
        obtain ⟨a2, c2, rfl, hr2, -, -⟩ := ho2.row
        have HR2 := Lib.hid hr2
        have HB2 := Lib.hid (HB.out.trans (b2.mono HB.out.size))
        clear ho2 hr2 b2
        go_wp2_with fail
        refine (edfFeasible_any _ _ _ _ HR2.out (HLE.out _)).mono ?_
        rintro e w3 ⟨rfl, b3⟩
        have HB3 := Lib.hid (HB2.out.trans (b3.mono HB2.out.size))
        clear b3
        cases he : edf (onN ts (fun k => os.getD k 0) (c : Int) os.length) with
        | true =>
          have HE := Lib.hid he
          clear he
          go_wp2
          go_roundg (gk - 1)
          case measure => have := HQ.out; omega
          case rel => exact ⟨c + 1, by have := HQ.out; omega, by go_num, fun d hd => by
              by_cases e : d = c
              · subst e; exact HE.out
              · exact HA.out d (by omega), HB3.out⟩
        | false =>
          have HN := Lib.hid (show afB ts (N : Int) os = false by
            rw [← Bool.not_eq_true, HAF.out]
            intro h
            have := h c hlt
            rw [he] at this
            simp at this)
          clear he
          go_wp2
          go_ret
          exact ⟨ret_bool HN.out.symm, B1.out.trans (HB3.out.mono B1.out.size)⟩
      · obtain rfl : c = N := by omega
        have HT := Lib.hid (HAF.out.2 fun d hd => HA.out d hd)
        go_wp2
        go_ret
        exact ⟨ret_bool HT.out.symm, B1.out.trans (HB.out.mono B1.out.size)⟩

end Go.Proofs.Ytilfmfhbdafogaa
