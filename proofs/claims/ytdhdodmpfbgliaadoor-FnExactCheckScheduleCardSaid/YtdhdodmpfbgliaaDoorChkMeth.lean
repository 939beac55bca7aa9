/- Contracts of slices.Index, slices.Contains, slices.IndexFunc and slices.ContainsFunc as the checker calls them, and of the methods ready, anyBefore and anyLate of impl.replay. Conditions: the slices hold what is said, at most 60 jobs. -/
import Derived.Test.YtdhdodmpfbgliaaDoorChkCon
import Derived.StillTailTactics
namespace Go.Proofs.YtdhdodmpfbgliaaDoor
open Go.RowKit Go.Deep

/-- Whether one of the first n values is x. -/
def hasF (f : Nat → Int) (x : Int) (n : Nat) : Bool := decide (∃ k, k < n ∧ f k = x)
/-- A released, unfinished job. -/
def rd9 (js : List J4) (left : Nat → Nat) (now i : Nat) : Bool := decide (jrel js i ≤ now) && decide (0 < left i)
/-- The released, unfinished jobs among the first n. -/
def rdL (js : List J4) (left : Nat → Nat) (now : Nat) : Nat → List Int
  | 0 => []
  | n + 1 => if rd9 js left now n then rdL js left now n ++ [(n : Int)] else rdL js left now n
theorem rdL_len (js : List J4) (left : Nat → Nat) (now : Nat) : ∀ n, (rdL js left now n).length ≤ n
  | 0 => Nat.le_refl _
  | n + 1 => by
    simp only [rdL]
    have := rdL_len js left now n
    split
    · simp; omega
    · omega
theorem rdL_mem (js : List J4) (left : Nat → Nat) (now : Nat) (x : Int) : ∀ n, x ∈ rdL js left now n ↔ ∃ q : Nat, x = q ∧ q < n ∧ rd9 js left now q = true
  | 0 => by simp [rdL]
  | n + 1 => by
    have ih := rdL_mem js left now x n
    simp only [rdL]
    split
    · rename_i h
      rw [List.mem_append, ih, List.mem_singleton]
      constructor
      · rintro (⟨q, h1, h2, h3⟩ | h1)
        · exact ⟨q, h1, by omega, h3⟩
        · exact ⟨n, h1, by omega, h⟩
      · rintro ⟨q, h1, h2, h3⟩
        by_cases e : q = n
        · subst e; exact .inr h1
        · exact .inl ⟨q, h1, by omega, h3⟩
    · rename_i h
      rw [ih]
      constructor
      · rintro ⟨q, h1, h2, h3⟩; exact ⟨q, h1, by omega, h3⟩
      · rintro ⟨q, h1, h2, h3⟩
        by_cases e : q = n
        · subst e; exact absurd h3 h
        · exact ⟨q, h1, by omega, h3⟩
theorem getD_mem {l : List Int} {x : Int} : (∃ k, k < l.length ∧ l.getD k 0 = x) ↔ x ∈ l := by
  rw [List.mem_iff_getElem]
  constructor
  · rintro ⟨k, hk, h⟩
    exact ⟨k, hk, by rw [List.getD_eq_getElem?_getD, List.getElem?_eq_getElem hk] at h; exact h⟩
  · rintro ⟨k, hk, h⟩
    exact ⟨k, hk, by rw [List.getD_eq_getElem?_getD, List.getElem?_eq_getElem hk]; exact h⟩
/-- A slice of its own that holds this list. -/
def OwnL9 (w : World) (base : Nat) (v : Value) (l : List Int) : Prop := OwnI w base v l.length (fun k => l.getD k 0)
theorem OwnL9.push {w' : World} {base : Nat} {v' : Value} {l : List Int} {x : Int} (ho : w'.ownsRow base 3 1 v' (l.length + 1) (vals (fun k => l.getD k 0) l.length ++ [.int .i64 x])) : OwnL9 w' base v' (l ++ [x]) := by
  unfold OwnL9 OwnI
  have e : (l ++ [x]).length = l.length + 1 := by simp
  rw [e, vals_succ]
  have e1 : vals (fun k => (l ++ [x]).getD k 0) l.length = vals (fun k => l.getD k 0) l.length := by
    simp only [vals]
    refine List.map_congr_left fun k hk => ?_
    have hk' := List.mem_range.1 hk
    simp [List.getD, List.getElem?_append_left hk']
  have e2 : (l ++ [x]).getD l.length 0 = x := by simp [List.getD]
  rw [e1, e2]
  exact ho

/-- slices.Index[[]int,int]. -/
theorem index9_any (a : Option Addr) (cap n : Nat) (f : Nat → Int) (x : Int) (w : World) (hf : IntF w a n f) (hn : n ≤ 1048576) :
    Calls Tryd.prog 83 #[.slice a n cap, .int .i64 x] w fun e w' =>
      ∃ i : Int, e = .returned (.int .i64 i) ∧ (decide (0 ≤ i) = hasF f x n) ∧ w = w' := by
  have HF := Lib.hid hf
  clear hf
  go_enter Tryd.func83, Tryd.ntmps83
  go_wp2
  go_loopg [8] n (fun m i wr => ∃ k : Nat, m + k = n ∧ i = .int .i64 k ∧ (∀ j, j < k → f j ≠ x) ∧ w = wr)
  case atStart => exact ⟨0, rfl, rfl, fun j hj => by omega, rfl⟩
  case round =>
    obtain ⟨k, hk, rfl, hno, rfl⟩ := hrel
    have HK := Lib.hid hk
    have HN := Lib.hid hno
    have hk' : k ≤ n := by omega
    clear hk hno
    by_cases hlt : k < n
    · obtain ⟨b, off, rfl, hbs, c0⟩ := HF.out k hlt
      obtain ⟨y, hy⟩ : ∃ y, y = f k := ⟨_, rfl⟩
      rw [← hy] at c0
      have HY := Lib.hid hy
      clear hy
      by_cases hv : x = y
      · subst hv
        go_wp2
        go_ret
        exact ⟨_, rfl, by unfold hasF; exact decide_eq_decide.2 ⟨fun _ => ⟨k, hlt, HY.out.symm⟩, fun _ => by omega⟩, rfl⟩
      · have HV := Lib.hid hv
        go_wp2
        go_roundg (gk - 1)
        case measure => have := HK.out; omega
        case rel => exact ⟨k + 1, by have := HK.out; omega, by go_num, fun j hj => by
          by_cases e : j = k
          · subst e; rw [← HY.out]; exact fun h => HV.out h.symm
          · exact HN.out j (by omega), rfl⟩
    · obtain rfl : k = n := by omega
      go_wp2
      go_ret
      exact ⟨_, rfl, by unfold hasF; exact decide_eq_decide.2 ⟨fun h => by omega, fun ⟨j, hj, h⟩ => absurd h (HN.out j hj)⟩, rfl⟩

/-- slices.Contains[[]int,int]. -/
theorem contains9_any (a : Option Addr) (cap n : Nat) (f : Nat → Int) (x : Int) (w : World) (hf : IntF w a n f) (hn : n ≤ 1048576) :
    Calls Tryd.prog 76 #[.slice a n cap, .int .i64 x] w fun e w' =>
      e = .returned (.bool (hasF f x n)) ∧ w = w' := by
  have HF := Lib.hid hf
  clear hf
  go_enter Tryd.func76, Tryd.ntmps76
  go_wp2_with fail
  refine (index9_any _ _ _ _ _ _ HF.out hn).mono ?_
  rintro e w1 ⟨i, rfl, hi, rfl⟩
  have HI := Lib.hid hi
  clear hi
  go_wp2
  go_ret
  exact ⟨ret_bool HI.out, rfl⟩

set_option maxRecDepth 100000 in
set_option maxHeartbeats 4000000 in
/-- (replay).ready. -/
theorem ready9_any (ja la : Option Addr) (jcap lcap : Nat) (js : List J4) (left : Nat → Nat) (now : Nat) (w : World) (hj : RowJ w ja js) (hl : IntF w la js.length fun i => left i) (hN : NatJ js) (hn : js.length ≤ 60) (_ : now ≤ 119) :
    Calls Tryd.prog 75 #[.agg #[.slice ja js.length jcap, .slice la js.length lcap], .int .i64 (now : Int)] w fun e w' =>
      ∃ v, e = .returned v ∧ OwnL9 w' w.heap.size v (rdL js left now js.length) ∧ Below w.heap.size w w' := by
  obtain ⟨i0, hi, hz, hsz, hby⟩ := info_parts intInfo
  have HI := Lib.hid (And.intro hi (And.intro hz (And.intro hsz hby)))
  clear hi hz hsz hby
  have b0 := below_box w (.cells #[.slice ja js.length jcap, .slice la js.length lcap] 103)
  have HJ := Lib.hid hj
  have HL := Lib.hid hl
  have HN := Lib.hid hN
  clear hj hl hN
  go_enter Tryd.func75, Tryd.ntmps75
  go_wp2
  go_loopg [5, 11] js.length (fun m s i wr => ∃ k : Nat, m + k = js.length ∧ i = .int .i64 k ∧ OwnL9 wr (w.heap.size + 1) s (rdL js left now k) ∧ wr.cell? ⟨w.heap.size, 1, none⟩ = some (.slice la js.length lcap) ∧ Below w.heap.size w wr ∧ w.heap.size < wr.heap.size)
  case atStart => exact ⟨0, rfl, rfl, OwnI.nil _ _ _, by simp [go_sem], b0, by simp⟩
  case round =>
    obtain ⟨k, hk, rfl, ho, c1, B, hs⟩ := hrel
    have HK := Lib.hid hk
    have HO := Lib.hid ho
    have hkk : k ≤ js.length := by omega
    clear hk ho
    by_cases hlt : k < js.length
    · have RJ := Lib.hid (HJ.out.below B)
      have RL := Lib.hid (HL.out.below B)
      obtain ⟨bj, oj, rfl, hbj, x0, x1, x2, x3⟩ := RJ.out k hlt
      obtain ⟨bl, ol, rfl, hbl, y0⟩ := RL.out k hlt
      obtain ⟨⟨id, r, d, ex⟩, hJ⟩ : ∃ j, j = jb js k := ⟨_, rfl⟩
      have hr := (HN.out k hlt).1
      rw [← hJ] at x0 x1 x2 x3 hr
      simp only at x0 x1 x2 x3 y0 hr
      subst hr
      obtain ⟨R, hR⟩ : ∃ R, R = jrel js k := ⟨_, rfl⟩
      obtain ⟨Q, hQ⟩ : ∃ Q, Q = left k := ⟨_, rfl⟩
      rw [← hR] at x1
      rw [← hQ] at y0
      have HRQ := Lib.hid (And.intro hR hQ)
      clear hJ hR hQ
      have hk0 : (0 : Int) ≤ k := by omega
      have hk1 : (k : Int) < js.length := by omega
      have hlen := rdL_len js left now k
      have hbl2 : bl < wr.heap.size := hbl
      obtain ⟨l, hl⟩ : ∃ l, l = rdL js left now k := ⟨_, rfl⟩
      rw [← hl] at hlen HO
      have HLL := Lib.hid hl
      clear hl
      by_cases h1 : R ≤ now
      · by_cases h2 : 0 < Q
        · have h2' : (0 : Int) < Q := by omega
          go_wp2_with (at_builtin; refine wpList_append_own _ rfl (.tmp 28) (.tmp 30) 27 rfl (w.heap.size + 1) 3 i0 _ 1 8 Tryd.underlying27 HI.out.1 HI.out.2.1 HI.out.2.2.1 HI.out.2.2.2 rfl (by decide) _ l.length (vals (fun k => l.getD k 0) l.length) rfl (World.ownsRow.alloc (World.ownsRow.alloc HO.out _) _) ⟨wr.heap.size + 1, 0, none⟩ 1 1 [.int .i64 (k : Int)] rfl rfl (by simpa using news1 (wr.alloc (.cells #[.int .i64 id, .int .i64 R, .int .i64 d, .int .i64 ex] 41)) k 3) (one1 _) (by unfold maxLen; omega) (by omega) (by simp; omega) ?_; intro v' w' hown' hgrow hnil)
          have B0 : Below w.heap.size w ((wr.alloc (.cells #[.int .i64 id, .int .i64 R, .int .i64 d, .int .i64 ex] 41)).alloc (.cells #[.int .i64 (k : Int)] 3)) := (B.alloc B.size _).alloc (by have := B.size; simp; omega) _
          have BB0 : Below wr.heap.size wr ((wr.alloc (.cells #[.int .i64 id, .int .i64 R, .int .i64 d, .int .i64 ex] 41)).alloc (.cells #[.int .i64 (k : Int)] 3)) := (below_box _ _).alloc (by simp) _
          have HB4 := Lib.hid (B0.grown hgrow (by have := B.size; simp; omega) (fun k hk => by have := (HO.out.lt k hk).1; omega))
          have c4 := Lib.hid (show w'.cell? ⟨w.heap.size, 1, none⟩ = some (.slice (some ⟨bl, ol, none⟩) js.length lcap) from hgrow.cell (a := ⟨w.heap.size, 1, none⟩) ((BB0.cell (p := ⟨w.heap.size, 1, none⟩) hs).trans c1) (fun e => Nat.not_succ_le_self _ (HO.out.lt _ e.symm).1))
          have HO4 := Lib.hid (OwnL9.push hown')
          have hsz' := hgrow.size
          simp at hsz'
          clear hown' hgrow hnil B0 BB0
          have HR9 := Lib.hid (show rd9 js left now k = true by unfold rd9; rw [← HRQ.out.1, ← HRQ.out.2, decide_eq_true h1, decide_eq_true h2]; rfl)
          go_roundg (gk - 1)
          case measure => have := HK.out; omega
          case rel => exact ⟨k + 1, by have := HK.out; omega, by go_num, by rw [rdL, if_pos HR9.out, ← HLL.out]; exact HO4.out, c4.out, HB4.out, by omega⟩
        · obtain rfl : Q = 0 := by omega
          have HR9 := Lib.hid (show ¬ rd9 js left now k = true by unfold rd9; rw [← HRQ.out.2]; simp)
          go_wp2
          go_roundg (gk - 1)
          case measure => have := HK.out; omega
          case rel => exact ⟨k + 1, by have := HK.out; omega, by go_num, by rw [rdL, if_neg HR9.out, ← HLL.out]; exact HO.out.alloc _, ((below_box wr _).cell (p := ⟨w.heap.size, 1, none⟩) hs).trans c1, B.alloc B.size _, by simp; omega⟩
      · have HR9 := Lib.hid (show ¬ rd9 js left now k = true by unfold rd9; rw [← HRQ.out.1, decide_eq_false h1]; simp)
        go_wp2
        go_roundg (gk - 1)
        case measure => have := HK.out; omega
        case rel => exact ⟨k + 1, by have := HK.out; omega, by go_num, by rw [rdL, if_neg HR9.out, ← HLL.out]; exact HO.out.alloc _, ((below_box wr _).cell (p := ⟨w.heap.size, 1, none⟩) hs).trans c1, B.alloc B.size _, by simp; omega⟩
    · obtain rfl : k = js.length := by omega
      go_wp2
      go_ret
      exact ⟨_, rfl, OwnI.mono HO.out (by omega), B⟩

set_option maxRecDepth 100000 in
set_option maxHeartbeats 4000000 in
/-- (replay).anyLate. -/
theorem anyLate9_any (ja la : Option Addr) (jcap lcap : Nat) (js : List J4) (left : Nat → Nat) (D : Nat) (w : World) (hj : RowJ w ja js) (hl : IntF w la js.length fun i => left i) (hN : NatJ js) (hn : js.length ≤ 60) (_ : D ≤ 120) :
    Calls Tryd.prog 78 #[.agg #[.slice ja js.length jcap, .slice la js.length lcap], .int .i64 (D : Int)] w fun e w' =>
      e = .returned (.bool (decide (∃ i, i < js.length ∧ jdl js i = D ∧ 0 < left i))) ∧ Below w.heap.size w w' := by
  have b0 := below_box w (.cells #[.slice ja js.length jcap, .slice la js.length lcap] 103)
  have HJ := Lib.hid hj
  have HL := Lib.hid hl
  have HN := Lib.hid hN
  clear hj hl hN
  go_enter Tryd.func78, Tryd.ntmps78
  go_wp2
  go_loopg [10] js.length (fun m i wr => ∃ k : Nat, m + k = js.length ∧ i = .int .i64 k ∧ (∀ j, j < k → ¬ (jdl js j = D ∧ 0 < left j)) ∧ wr.cell? ⟨w.heap.size, 1, none⟩ = some (.slice la js.length lcap) ∧ Below w.heap.size w wr ∧ w.heap.size < wr.heap.size)
  case atStart => exact ⟨0, rfl, rfl, fun j hj => absurd hj (Nat.not_lt_zero _), by simp [go_sem], b0, by simp⟩
  case round =>
    obtain ⟨k, hk, rfl, hno, c1, B, hs⟩ := hrel
    have HK := Lib.hid hk
    have HNO := Lib.hid hno
    have hkk : k ≤ js.length := by omega
    clear hk hno
    by_cases hlt : k < js.length
    · have RJ := Lib.hid (HJ.out.below B)
      have RL := Lib.hid (HL.out.below B)
      obtain ⟨bj, oj, rfl, hbj, x0, x1, x2, x3⟩ := RJ.out k hlt
      obtain ⟨bl, ol, rfl, hbl, y0⟩ := RL.out k hlt
      obtain ⟨⟨id, r, d, ex⟩, hJ⟩ : ∃ j, j = jb js k := ⟨_, rfl⟩
      have hr := (HN.out k hlt).2
      rw [← hJ] at x0 x1 x2 x3 hr
      simp only at x0 x1 x2 x3 y0 hr
      subst hr
      obtain ⟨R, hR⟩ : ∃ R, R = jdl js k := ⟨_, rfl⟩
      obtain ⟨Q, hQ⟩ : ∃ Q, Q = left k := ⟨_, rfl⟩
      rw [← hR] at x2
      rw [← hQ] at y0
      have HRQ := Lib.hid (And.intro hR hQ)
      clear hJ hR hQ
      have hk0 : (0 : Int) ≤ k := by omega
      have hk1 : (k : Int) < js.length := by omega
      by_cases h1 : R = D
      · by_cases h2 : 0 < Q
        · have h2' : (0 : Int) < Q := by omega
          have HT := Lib.hid (show decide (∃ i, i < js.length ∧ jdl js i = D ∧ 0 < left i) = true from decide_eq_true ⟨k, hlt, by rw [← HRQ.out.1]; exact h1, by rw [← HRQ.out.2]; exact h2⟩)
          subst h1
          go_wp2
          go_ret
          exact ⟨ret_bool HT.out.symm, B.alloc B.size _⟩
        · obtain rfl : Q = 0 := by omega
          have HR9 := Lib.hid (show ¬ (jdl js k = D ∧ 0 < left k) by rw [← HRQ.out.2]; omega)
          subst h1
          go_wp2
          go_roundg (gk - 1)
          case measure => have := HK.out; omega
          case rel => exact ⟨k + 1, by have := HK.out; omega, by go_num, fun j hj => by
            by_cases e : j = k
            · subst e; exact HR9.out
            · exact HNO.out j (by omega), ((below_box wr _).cell (p := ⟨w.heap.size, 1, none⟩) hs).trans c1, B.alloc B.size _, by simp; omega⟩
      · have HR9 := Lib.hid (show ¬ (jdl js k = D ∧ 0 < left k) by rw [← HRQ.out.1]; omega)
        have h1' : ((R : Int) == D) = false := by simp; omega
        go_wp2
        go_roundg (gk - 1)
        case measure => have := HK.out; omega
        case rel => exact ⟨k + 1, by have := HK.out; omega, by go_num, fun j hj => by
          by_cases e : j = k
          · subst e; exact HR9.out
          · exact HNO.out j (by omega), ((below_box wr _).cell (p := ⟨w.heap.size, 1, none⟩) hs).trans c1, B.alloc B.size _, by simp; omega⟩
    · obtain rfl : k = js.length := by omega
      have HT := Lib.hid (show decide (∃ i, i < js.length ∧ jdl js i = D ∧ 0 < left i) = false from decide_eq_false (by rintro ⟨i, h1, h2, h3⟩; exact HNO.out i h1 ⟨h2, h3⟩))
      go_wp2
      go_ret
      exact ⟨ret_bool HT.out.symm, B⟩

/-- The comparison of (replay).anyBefore. -/
theorem before9_any (cb cd : Nat) (ja : Option Addr) (jcap : Nat) (js : List J4) (q D : Nat) (w : World) (hc : w.cell? ⟨cb, 0, none⟩ = some (.slice ja js.length jcap)) (hd : w.cell? ⟨cd, 0, none⟩ = some (.int .i64 (D : Int))) (hj : RowJ w ja js) (hN : NatJ js) (hq : q < js.length) :
    Calls Tryd.prog 85 #[.int .i64 (q : Int), .pointer (some ⟨cb, 0, none⟩), .pointer (some ⟨cd, 0, none⟩)] w fun e w' =>
      e = .returned (.bool (decide (jdl js q < D))) ∧ Below w.heap.size w w' := by
  obtain ⟨bj, oj, rfl, hbj, _, _, x2, _⟩ := hj q hq
  rw [(hN q hq).2] at x2
  clear hj hN
  obtain ⟨R, hR⟩ : ∃ R, R = jdl js q := ⟨_, rfl⟩
  rw [← hR] at x2 ⊢
  clear hR
  have hx0 : (0 : Int) ≤ q := by omega
  have hx1 : (q : Int) < js.length := by omega
  by_cases h1 : R < D
  · have d1 : decide (R < D) = true := decide_eq_true h1
    go_enter Tryd.func85, Tryd.ntmps85
    go_wp2
    go_quiet (fail)
    go_wp2
    go_ret
    exact ⟨ret_bool d1.symm, below_drewN' (Below.refl _ _) _⟩
  · have d1 : decide (R < D) = false := decide_eq_false h1
    go_enter Tryd.func85, Tryd.ntmps85
    go_wp2
    go_quiet (fail)
    go_wp2
    go_ret
    exact ⟨ret_bool d1.symm, below_drewN' (Below.refl _ _) _⟩

/-- The entries name jobs. -/
def Ent (js : List J4) (f : Nat → Int) (m : Nat) : Prop := ∀ k, k < m → ∃ q : Nat, f k = (q : Int) ∧ q < js.length

set_option maxRecDepth 100000 in
set_option maxHeartbeats 4000000 in
/-- slices.IndexFunc[[]int,int] with that comparison. -/
theorem indexFunc9_any (ra : Option Addr) (rcap m : Nat) (f : Nat → Int) (cb cd : Nat) (ja : Option Addr) (jcap : Nat) (js : List J4) (D : Nat) (w : World) (hf : IntF w ra m f) (hm : m ≤ 60) (he : Ent js f m)
    (hc : w.cell? ⟨cb, 0, none⟩ = some (.slice ja js.length jcap)) (hd : w.cell? ⟨cd, 0, none⟩ = some (.int .i64 (D : Int))) (hj : RowJ w ja js) (hN : NatJ js) :
    Calls Tryd.prog 88 #[.slice ra m rcap, .func (.func 85) #[] #[.pointer (some ⟨cb, 0, none⟩), .pointer (some ⟨cd, 0, none⟩)]] w fun e w' =>
      ∃ i : Int, e = .returned (.int .i64 i) ∧ (decide (0 ≤ i) = decide (∃ k, k < m ∧ jdl js (f k).toNat < D)) ∧ Below w.heap.size w w' := by
  have HF := Lib.hid hf
  have HE := Lib.hid he
  have HJ := Lib.hid hj
  have HN := Lib.hid hN
  have HC := Lib.hid hc
  have HD := Lib.hid hd
  clear hf he hj hN hc hd
  go_enter Tryd.func88, Tryd.ntmps88
  go_wp2
  go_loopg [8] m (fun q i wr => ∃ k : Nat, q + k = m ∧ i = .int .i64 k ∧ (∀ j, j < k → ¬ jdl js (f j).toNat < D) ∧ Below w.heap.size w wr)
  case atStart => exact ⟨0, rfl, rfl, fun j hj => by omega, Below.refl _ _⟩
  case round =>
    obtain ⟨k, hk, rfl, hno, B⟩ := hrel
    have HK := Lib.hid hk
    have HNO := Lib.hid hno
    have HB := Lib.hid B
    have hk' : k ≤ m := by omega
    clear hk hno B
    by_cases hlt : k < m
    · have RF := Lib.hid (HF.out.below HB.out)
      obtain ⟨b, off, rfl, hbs, c0⟩ := RF.out k hlt
      obtain ⟨q, hq, hql⟩ := HE.out k hlt
      rw [hq] at c0
      have HQ := Lib.hid hq
      clear hq
      go_wp2_with fail
      refine (before9_any cb cd ja jcap js q D wr ((HB.out.cell (p := ⟨cb, 0, none⟩) (World.block_lt_of_cell? w _ HC.out)).trans HC.out) ((HB.out.cell (p := ⟨cd, 0, none⟩) (World.block_lt_of_cell? w _ HD.out)).trans HD.out) (HJ.out.below HB.out) HN.out hql).mono ?_
      rintro e w1 ⟨rfl, b1⟩
      have HB1 := Lib.hid (HB.out.trans (b1.mono HB.out.size))
      clear b1
      by_cases h1 : jdl js q < D
      · rw [decide_eq_true h1]
        have HT := Lib.hid (show ∃ k, k < m ∧ jdl js (f k).toNat < D from ⟨k, hlt, by rw [HQ.out]; exact h1⟩)
        clear h1
        go_wp2
        go_ret
        exact ⟨_, rfl, decide_eq_decide.2 ⟨fun _ => HT.out, fun _ => by omega⟩, HB1.out⟩
      · rw [decide_eq_false h1]
        have HT := Lib.hid (show ¬ jdl js (f k).toNat < D by rw [HQ.out]; exact h1)
        clear h1
        go_wp2
        go_roundg (gk - 1)
        case measure => have := HK.out; omega
        case rel => exact ⟨k + 1, by have := HK.out; omega, by go_num, fun j hj => by
          by_cases e : j = k
          · subst e; exact HT.out
          · exact HNO.out j (by omega), HB1.out⟩
    · obtain rfl : k = m := by omega
      go_wp2
      go_ret
      exact ⟨_, rfl, decide_eq_decide.2 ⟨fun h => by omega, fun ⟨j, hj, h⟩ => absurd h (HNO.out j hj)⟩, HB.out⟩

/-- slices.ContainsFunc[[]int,int] with that comparison. -/
theorem containsFunc9_any (ra : Option Addr) (rcap m : Nat) (f : Nat → Int) (cb cd : Nat) (ja : Option Addr) (jcap : Nat) (js : List J4) (D : Nat) (w : World) (hf : IntF w ra m f) (hm : m ≤ 60) (he : Ent js f m)
    (hc : w.cell? ⟨cb, 0, none⟩ = some (.slice ja js.length jcap)) (hd : w.cell? ⟨cd, 0, none⟩ = some (.int .i64 (D : Int))) (hj : RowJ w ja js) (hN : NatJ js) :
    Calls Tryd.prog 84 #[.slice ra m rcap, .func (.func 85) #[] #[.pointer (some ⟨cb, 0, none⟩), .pointer (some ⟨cd, 0, none⟩)]] w fun e w' =>
      e = .returned (.bool (decide (∃ k, k < m ∧ jdl js (f k).toNat < D))) ∧ Below w.heap.size w w' := by
  have HH := Lib.hid (And.intro hf (And.intro he (And.intro hc (And.intro hd (And.intro hj hN)))))
  clear hf he hj hN hc hd
  go_enter Tryd.func84, Tryd.ntmps84
  go_wp2_with fail
  refine (indexFunc9_any _ _ _ _ _ _ _ _ _ _ _ HH.out.1 hm HH.out.2.1 HH.out.2.2.1 HH.out.2.2.2.1 HH.out.2.2.2.2.1 HH.out.2.2.2.2.2).mono ?_
  rintro e w1 ⟨i, rfl, hi, b1⟩
  have HI := Lib.hid hi
  clear hi
  go_wp2
  go_ret
  exact ⟨ret_bool HI.out, b1⟩

set_option maxRecDepth 100000 in
/-- (replay).anyBefore. -/
theorem anyBefore9_any (ja la ra : Option Addr) (jcap lcap rcap m n : Nat) (f : Nat → Int) (js : List J4) (D : Nat) (w : World) (hj : RowJ w ja js) (hf : IntF w ra m f) (hm : m ≤ 60) (he : Ent js f m) (hN : NatJ js) :
    Calls Tryd.prog 77 #[.agg #[.slice ja js.length jcap, .slice la n lcap], .slice ra m rcap, .int .i64 (D : Int)] w fun e w' =>
      e = .returned (.bool (decide (∃ k, k < m ∧ jdl js (f k).toNat < D))) ∧ Below w.heap.size w w' := by
  have b1 : Below w.heap.size w ((w.alloc (.cells #[.slice ja js.length jcap, .slice la n lcap] 103)).alloc (.cells #[.int .i64 (D : Int)] 3)) := (below_box _ _).alloc (by simp) _
  have HH := Lib.hid (And.intro hf (And.intro he (And.intro hj (And.intro hN b1))))
  clear hf he hj hN b1
  go_enter Tryd.func77, Tryd.ntmps77
  go_wp2_with fail
  refine (containsFunc9_any ra rcap m f w.heap.size (w.heap.size + 1) ja jcap js D _ (HH.out.1.below HH.out.2.2.2.2) hm HH.out.2.1 (by simp [go_sem]) (by simp [go_sem]) (HH.out.2.2.1.below HH.out.2.2.2.2) HH.out.2.2.2.1).mono ?_
  rintro e w2 ⟨rfl, b2⟩
  obtain ⟨c, hc⟩ : ∃ c, c = decide (∃ k, k < m ∧ jdl js (f k).toNat < D) := ⟨_, rfl⟩
  rw [← hc]
  go_wp2
  go_ret
  exact ⟨rfl, HH.out.2.2.2.2.trans (b2.mono HH.out.2.2.2.2.size)⟩

end Go.Proofs.YtdhdodmpfbgliaaDoor
