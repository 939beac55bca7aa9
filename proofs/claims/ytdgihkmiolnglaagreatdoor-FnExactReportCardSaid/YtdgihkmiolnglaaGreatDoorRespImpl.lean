/- Contracts of the program's leastFixedPoint (over the closure of permutation.response), of permutation.response, ResponseTimes and FixedFeasible. Conditions: the slices hold what is said. -/
import Derived.Test.YtdgihkmiolnglaaGreatDoorOrdImpl
import Derived.Test.YtdgihkmiolnglaaGreatDoorFixSpec
import Derived.Test.YtdgihkmiolnglaaGreatDoorDemImpl
import Derived.Test.YtdgihkmiolnglaaGreatDoorRepeat
import Derived.Laws.EntriesVeiled
namespace Go.Proofs.YtdgihkmiolnglaaGreatDoor
open Go.RowKit Go.Deep

/-- The tasks above place k. -/
def abvT (ts : List T3) (os : List Int) (k : Nat) : List T3 := (abv os k).map (tk ts)
theorem abvT_len {ts : List T3} {os : List Int} {k : Nat} (h : k ≤ os.length) : (abvT ts os k).length = k := by rw [abvT, List.length_map, abv_len h]
theorem abvT_succ {ts : List T3} {os : List Int} {k : Nat} (h : k < os.length) : abvT ts os (k + 1) = abvT ts os k ++ [tk ts (os.getD k 0).toNat] := by
  have e : os.getD k 0 = os[k] := by simp [List.getD, List.getElem?_eq_getElem h]
  rw [abvT, abv, List.take_succ_eq_append_getElem h, e, List.map_append, List.map_append]
  rfl
theorem abvT_sv {ts : List T3} {os : List Int} {k : Nat} (h : ordB ts os = true) (hk : k ≤ os.length) : svB (abvT ts os k) = true := by
  have h1 := ordB_iff.1 h
  have h2 := sv_all h1.1
  simp only [svB, Bool.and_eq_true, List.all_eq_true, decide_eq_true_eq]
  refine ⟨fun t ht => ?_, by rw [abvT_len hk]; omega⟩
  obtain ⟨j, hj, rfl⟩ := List.mem_map.1 ht
  exact tk_tv h2.1 (abv_lt h j hj)
theorem abvT_wk (ts : List T3) (x : Nat) : ∀ hs : List Nat, wk (hs.map (tk ts)) x = wkL ts hs x := by
  intro hs
  have key : ∀ (hs : List Nat) (a : Nat), (hs.map (tk ts)).foldl (fun s t => s + wk1 t x) a = a + (hs.map fun h => cl ts h x).sum := by
    intro hs
    induction hs with
    | nil => intro a; simp
    | cons h hs ih => intro a; simp only [List.map_cons, List.foldl_cons, List.sum_cons]; rw [ih]; unfold wk1 cl; omega
  unfold wk wkL
  rw [key]
  omega

/-- What permutation.response keeps: the task in block b1, the work of the tasks above in the variable b2. -/
structure RS (b1 b2 lo : Nat) (w : World) (t : T3) (v : Value) (hs : List T3) : Prop where
  c0 : w.cell? ⟨b1, 0, none⟩ = some (.int .i64 t.1)
  c1 : w.cell? ⟨b1, 1, none⟩ = some (.int .i64 t.2.1)
  cv : w.cell? ⟨b2, 0, none⟩ = some v
  sm : Summed 131 lo w v hs
theorem RS.below {b1 b2 lo : Nat} {w w' : World} {t : T3} {v : Value} {hs : List T3} (h : RS b1 b2 lo w t v hs) (hb : Below w.heap.size w w') : RS b1 b2 lo w' t v hs :=
  ⟨(hb.cell (p := ⟨b1, 0, none⟩) (World.block_lt_of_cell? w ⟨b1, 0, none⟩ h.c0)).trans h.c0, (hb.cell (p := ⟨b1, 1, none⟩) (World.block_lt_of_cell? w ⟨b1, 1, none⟩ h.c1)).trans h.c1, (hb.cell (p := ⟨b2, 0, none⟩) (World.block_lt_of_cell? w ⟨b2, 0, none⟩ h.cv)).trans h.cv, h.sm.below hb⟩
/-- The two variables are laid, in whatever order; v is what summed returned. -/
structure MidR (b1 b2 lo : Nat) (w W : World) (v : Value) (hs : List T3) : Prop where
  x0 : W.cell? ⟨b1, 0, none⟩ = some (.int .i64 0)
  x1 : W.cell? ⟨b1, 1, none⟩ = some (.int .i64 0)
  x2 : W.cell? ⟨b1, 2, none⟩ = some (.int .i64 0)
  y0 : W.cell? ⟨b2, 0, none⟩ = some .nilFunc
  f0 : ∀ k, W.frozen? ⟨b1, k, none⟩ = false
  f1 : ∀ k, W.frozen? ⟨b2, k, none⟩ = false
  ne : b1 ≠ b2
  l1 : w.heap.size ≤ b1
  l2 : w.heap.size ≤ b2
  sm : ∀ W' : World, W.heap.size ≤ W'.heap.size → (∀ k, k ≠ b1 → k ≠ b2 → W'.heap[k]? = W.heap[k]?) → Summed 131 lo W' v hs
  bl : Below w.heap.size w W
theorem mid_mk {b1 b2 lo : Nat} {w w8 W0 : World} {v : Value} {hs : List T3} {t1 t2 : TypeId} (hS : Summed 131 lo w8 v hs) (hK : Below w8.heap.size w8 W0)
    (hne : b1 ≠ b2) (h1 : b1 < lo ∨ w8.heap.size ≤ b1) (h2 : b2 < lo ∨ w8.heap.size ≤ b2) (z1 : W0.heap[b1]? = some (.cells #[.int .i64 0, .int .i64 0, .int .i64 0] t1 (0, 0))) (z2 : W0.heap[b2]? = some (.cells #[.nilFunc] t2 (0, 0)))
    (hB : Below w.heap.size w W0) (l1 : w.heap.size ≤ b1) (l2 : w.heap.size ≤ b2) : MidR b1 b2 lo w W0 v hs :=
  ⟨by simp [World.cell?, z1], by simp [World.cell?, z1], by simp [World.cell?, z1], by simp [World.cell?, z2], fun k => by simp [World.frozen?, z1], fun k => by simp [World.frozen?, z2], hne, l1, l2,
    fun W' hs hk => hS.keep (Nat.le_trans hK.size hs) fun k hk1 hk2 => (hk k (by omega) (by omega)).trans (hK.block k hk2), hB⟩
theorem rs_end {b1 b2 lo : Nat} {w W : World} {c d p : Int} {v : Value} {hs : List T3} (h : MidR b1 b2 lo w W v hs) :
    RS b1 b2 lo ((((W.setCell ⟨b1, 0, none⟩ (.int .i64 c)).setCell ⟨b1, 1, none⟩ (.int .i64 d)).setCell ⟨b1, 2, none⟩ (.int .i64 p)).setCell ⟨b2, 0, none⟩ v) (c, d, p) v hs ∧
    Below w.heap.size w ((((W.setCell ⟨b1, 0, none⟩ (.int .i64 c)).setCell ⟨b1, 1, none⟩ (.int .i64 d)).setCell ⟨b1, 2, none⟩ (.int .i64 p)).setCell ⟨b2, 0, none⟩ v) := by
  have hne := h.ne
  refine ⟨⟨?_, ?_, ?_, h.sm _ (by simp [World.setCell]) fun k e1 e2 => ?_⟩, (((h.bl.setCell h.l1 _).setCell h.l1 _).setCell h.l1 _).setCell h.l2 _⟩
  · simp [go_sem, h.x0]
  · simp [go_sem, h.x1]
  · simp [go_sem, h.y0]
  · rw [Below.heap_setCell _ _ _ k e2, Below.heap_setCell _ _ _ k e1, Below.heap_setCell _ _ _ k e1, Below.heap_setCell _ _ _ k e1]
theorem blk_new' (w : World) (o : Obj) (b : Nat) (hb : b = w.heap.size) : (w.alloc o).heap[b]? = some o := by subst hb; exact blk_alloc_new _ _
theorem at_world {P R : World → Prop} {W : World} (h : R W) (k : ∀ W, R W → P W) : P W := k W h
theorem wk_bd {hs : List T3} (hv : svB hs = true) {x : Nat} (hx : x ≤ 12) : wk hs x ≤ 10000000 := by
  have := wk_take_le hv x hs.length (by omega)
  rw [List.take_length] at this
  omega

set_option maxHeartbeats 1000000 in
/-- The closure of permutation.response. -/
theorem response1_any {b1 b2 lo : Nat} {t : T3} {v : Value} {hs : List T3} (x : Nat) (w : World) (h : RS b1 b2 lo w t v hs) (hv : svB hs = true) (ht : tv t = true) (hx : x ≤ 12) :
    Calls Tryz.prog 112 #[.int .i64 x, .pointer (some ⟨b1, 0, none⟩), .pointer (some ⟨b2, 0, none⟩)] w fun e w' =>
      e = .returned (.int .i64 (cst t + wk hs x : Nat)) ∧ ∃ n, w' = w.drewN n := by
  have hb := tv_bd ht
  obtain ⟨c, hc⟩ : ∃ c, c = cst t := ⟨_, rfl⟩
  obtain ⟨S, hS⟩ : ∃ S, S = wk hs x := ⟨_, rfl⟩
  have hSb := wk_bd hv hx
  rw [← hS] at hSb
  have c0 := h.c0
  have cv := h.cv
  rw [← hc] at hb
  rw [← hb.2.2.2.2.2.1] at c0
  have hcb : c ≤ 8 := hb.2.2.2.2.1
  obtain ⟨pb, hpb, _⟩ := summed1_released v hs x w h.sm hv (by omega)
  have CC := Lib.hid (fun n => by
    obtain ⟨pb', e, h'⟩ := summed1_released v hs x (w.drewN n) (h.sm.below (below_drewN _ _)) hv (by omega)
    rw [hpb] at e
    simp only [Value.func.injEq, true_and, Array.mk.injEq, List.cons.injEq, and_true, Value.pointer.injEq, Option.some.injEq, Addr.mk.injEq] at e
    subst e
    exact h')
  rw [hpb] at cv
  simp only [← hS] at CC
  rw [← hc, ← hS]
  clear hpb hb hc hS h
  go_enter Tryz.func112, Tryz.ntmps112
  go_wp2
  go_quiet ((go_at_call 99; exact Calls.quiet_of (CC.out _)))
  go_wp2
  go_ret
  exact ⟨ret_int (by omega), nq, rfl⟩

/-- What leastFixedPoint returns. -/
def lfpV : Option Nat → Value
  | some r => .tuple #[.int .i64 (r : Int), .bool true]
  | none => .tuple #[.int .i64 0, .bool false]

set_option maxHeartbeats 1000000 in
/-- impl.leastFixedPoint[int], over the closure of permutation.response. -/
theorem lfpResponse_any {b1 b2 lo : Nat} {t : T3} {v : Value} {hs : List T3} (w : World) (h : RS b1 b2 lo w t v hs) (hv : svB hs = true) (ht : tv t = true) :
    Calls Tryz.prog 111 #[.int .i64 (cst t : Nat), .int .i64 (dln t : Nat), .func (.func 112) #[] #[.pointer (some ⟨b1, 0, none⟩), .pointer (some ⟨b2, 0, none⟩)]] w fun e w' =>
      e = .returned (lfpV (lfp (fun x => cst t + wk hs x) (dln t))) ∧ Below w.heap.size w w' := by
  have hb := tv_bd ht
  have HM := Lib.hid (show ∀ x y, x ≤ y → (fun x => cst t + wk hs x) x ≤ (fun x => cst t + wk hs x) y from fun x y hxy => Nat.add_le_add_left (wk_mono hs hxy) _)
  have HI := Lib.hid (show Iter (fun x => cst t + wk hs x) (cst t) from Iter.start hb.1 fun x => Nat.le_add_right _ _)
  have CC := Lib.hid (fun x W (hx : x ≤ 12) (B : Below w.heap.size w W) => response1_any x W (h.below B) hv ht hx)
  have HS := Lib.hid (fun x (hx : x ≤ 12) => wk_bd hv hx)
  obtain ⟨F, hF⟩ : ∃ F : Nat → Nat, F = fun x => cst t + wk hs x := ⟨_, rfl⟩
  have HE := Lib.hid (show ∀ x, cst t + wk hs x = F x from fun x => by rw [hF])
  obtain ⟨C, hC⟩ : ∃ C, C = cst t := ⟨_, rfl⟩
  obtain ⟨D, hD⟩ : ∃ D, D = dln t := ⟨_, rfl⟩
  rw [← hF] at HM HI
  rw [← hF, ← hC, ← hD]
  simp only [HE.out] at CC
  have HB := Lib.hid (show ∀ x, x ≤ 12 → F x ≤ 10000008 from fun x hx => by have := HS.out x hx; have := HE.out x; have := hb.2.2.2.2.1; omega)
  rw [← hC] at HI
  have hC2 : C ≤ 8 := by rw [hC]; exact hb.2.2.2.2.1
  have hD2 : D ≤ 12 := by rw [hD]; omega
  clear hF hC hD hb HS HE h hv ht
  go_enter Tryz.func111, Tryz.ntmps111
  go_wp2
  go_loopg [8] (D + 1 - C) (fun m s wr => ∃ r : Nat, m = D + 1 - r ∧ s = .int .i64 r ∧ Iter F r ∧ r ≤ 11000000 ∧ Below w.heap.size w wr)
  case atStart => exact ⟨C, rfl, rfl, HI.out, by omega, Below.refl _ _⟩
  case round =>
    obtain ⟨r, hk, rfl, hit, hr2, hb⟩ := hrel
    have HK := Lib.hid hk
    have HT := Lib.hid hit
    clear hk hit
    by_cases hlt : r ≤ D
    · have hlt' : (r : Int) ≤ D := by omega
      have C1 := Lib.hid (CC.out r wr (by omega) hb)
      have hFb := HB.out r (by omega)
      obtain ⟨S, hS⟩ : ∃ S, S = F r := ⟨_, rfl⟩
      rw [← hS] at C1 hFb
      have HS := Lib.hid hS
      clear hS
      by_cases hx : S = r
      · subst hx
        go_wp2_with (go_at_call 112; refine C1.out.mono ?_; rintro e w1 ⟨rfl, n1, hw1⟩)
        go_ret2
        refine ⟨?_, below_drewN' hb _⟩
        rw [HT.out.done HS.out.symm hlt]
        rfl
      · have hx' : ((S : Int) == (r : Int)) = false := by simp; omega
        have HX := Lib.hid hx
        clear hx
        go_wp2_with (go_at_call 112; refine C1.out.mono ?_; rintro e w1 ⟨rfl, n1, hw1⟩)
        go_roundg (D + 1 - S)
        case measure => have h1 := HK.out; have h2 := HT.out.up; have h4 := HS.out; have h5 := HX.out; omega
        case rel => exact ⟨S, rfl, rfl, by rw [HS.out]; exact HT.out.step HM.out, by omega, below_drewN' hb _⟩
    · have hlt' : ¬ (r : Int) ≤ D := by omega
      go_wp2
      go_ret2
      refine ⟨?_, hb⟩
      rw [HT.out.over (by omega)]
      rfl

theorem own_nilT (w : World) (base : Nat) : Own w base (.slice none 0 0) [] := ⟨rfl, .inl ⟨rfl, rfl⟩⟩
theorem KPresp {w' W : World} {b off k y bt ot : Nat} {C D q : Int} (h : w'.cell? ⟨b, off + k, none⟩ = some (.int .i64 (y : Int)) ∧ w'.cell? ⟨bt, ot + y * 3, none⟩ = some (.int .i64 C) ∧ w'.cell? ⟨bt, ot + y * 3 + 1, none⟩ = some (.int .i64 D) ∧ w'.cell? ⟨bt, ot + y * 3 + 2, none⟩ = some (.int .i64 q)) (N : Nat) (hb : b < N) (hbt : bt < N) (B : Below N w' W) :
    W.cell? ⟨b, off + k, none⟩ = some (.int .i64 (y : Int)) ∧ W.cell? ⟨bt, ot + y * 3, none⟩ = some (.int .i64 C) ∧ W.cell? ⟨bt, ot + y * 3 + 1, none⟩ = some (.int .i64 D) ∧ W.cell? ⟨bt, ot + y * 3 + 2, none⟩ = some (.int .i64 q) :=
  ⟨(B.cell (p := ⟨b, off + k, none⟩) hb).trans h.1, (B.cell (p := ⟨bt, ot + y * 3, none⟩) hbt).trans h.2.1, (B.cell (p := ⟨bt, ot + y * 3 + 1, none⟩) hbt).trans h.2.2.1, (B.cell (p := ⟨bt, ot + y * 3 + 2, none⟩) hbt).trans h.2.2.2⟩
theorem rsp_lfp {ts : List T3} {os : List Int} (h : ordB ts os = true) (k : Nat) : lfp (fun x => cst (tk ts (os.getD k 0).toNat) + wk (abvT ts os k) x) (dln (tk ts (os.getD k 0).toNat)) = rspO ts os k := by
  rw [← rsp_list h k]
  congr 1
  funext x
  rw [abvT, abvT_wk]
  rfl

set_option maxRecDepth 100000 in
set_option maxHeartbeats 4000000 in
/-- impl.permutation.response, of the task at place k of a valid order. -/
theorem response_any (ta oa : Option Addr) (tcap ocap : Nat) (ts : List T3) (os : List Int) (k : Nat) (w : World) (hr : Row w ta ts) (ho : IntF w oa os.length fun k => os.getD k 0) (hc : os.length ≤ ocap) (hv : ordB ts os = true) (hk : k < os.length) :
    Calls Tryz.prog 85 #[.slice oa os.length ocap, .slice ta ts.length tcap, .int .i64 k] w fun e w' =>
      e = .returned (lfpV (rspO ts os k)) ∧ Below w.heap.size w w' := by
  obtain ⟨i0, hi, hz, hsz, hby⟩ := info_parts taskInfo
  have HI := Lib.hid (And.intro hi (And.intro hz (And.intro hsz hby)))
  clear hi hz hsz hby
  have HR := Lib.hid hr
  have HO := Lib.hid ho
  have HV := Lib.hid hv
  have hn5 : os.length ≤ 5 := by have h1 := ordB_iff.1 hv; have := (sv_all h1.1).2; omega
  clear hr ho hv
  have hk0 : (0 : Int) ≤ k := by omega
  have hk1 : (k : Int) < os.length := by omega
  have hk2 : (k : Int) ≤ ocap := by omega
  obtain ⟨b, off, rfl, hbs, d0⟩ := HO.out k hk
  go_enter Tryz.func85, Tryz.ntmps85
  go_wp2
  clear d0
  go_loopg [8, 17] k (fun m s z wr => ∃ i : Nat, m + i = k ∧ z = .int .i64 i ∧ Own wr w.heap.size s (abvT ts os i) ∧ Below w.heap.size w wr)
  case atStart => exact ⟨0, rfl, rfl, own_nilT _ _, Below.refl _ _⟩
  case round =>
    obtain ⟨i, hi, rfl, hown, B⟩ := hrel
    have HK := Lib.hid hi
    have hik : i ≤ k := by omega
    have HW := Lib.hid hown
    have hlen : (abvT ts os i).length = i := abvT_len (by omega)
    clear hi hown
    by_cases hlt : i < k
    · obtain ⟨b', off', e, _, x0⟩ := HO.out.below B i (by omega)
      simp only [Option.some.injEq, Addr.mk.injEq, and_true] at e
      obtain ⟨rfl, rfl⟩ := e
      have hyb := ord_at HV.out (show i < os.length by omega)
      have HS := Lib.hid (abvT_succ (ts := ts) (show i < os.length by omega))
      obtain ⟨y, hy⟩ : ∃ y, y = (os.getD i 0).toNat := ⟨_, rfl⟩
      rw [← hy] at HS
      have hy' : os.getD i 0 = (y : Int) := by omega
      simp only [hy'] at x0
      have hyl : y < ts.length := by omega
      have hy0 : (0 : Int) ≤ y := by omega
      have hy1 : (y : Int) < ts.length := by omega
      have hi0 : (0 : Int) ≤ i := by omega
      have hi1 : (i : Int) < k := by omega
      obtain ⟨bt, ot, rfl, hbt, e0, e1, e2⟩ := (HR.out.below B).at hyl
      obtain ⟨⟨c, d, q⟩, ht⟩ : ∃ t, t = tk ts y := ⟨_, rfl⟩
      rw [← ht] at e0 e1 e2 HS
      simp only at e0 e1 e2
      clear hy hyb hy' ht
      have OW := Lib.hid (show wr.ownsRow w.heap.size 29 3 _ i (flat (abvT ts os i)) by have := HW.out; unfold Own at this; rw [hlen] at this; exact this)
      go_wp2_with (at_builtin; refine wpList_append_own _ rfl (.tmp 21) (.tmp 26) 27 rfl w.heap.size 29 i0 _ 3 24 Tryz.underlying27 HI.out.1 HI.out.2.1 HI.out.2.2.1 HI.out.2.2.2 rfl (by decide) _ i (flat (abvT ts os i)) rfl (World.ownsRow.alloc OW.out _) ⟨wr.heap.size, 0, none⟩ 1 1 [.int .i64 c, .int .i64 d, .int .i64 q] rfl rfl (news3 _ _ _ _ _) (one3 _ _ _) (by unfold maxLen; omega) (by omega) (Nat.le_trans B.size (below_box _ _).size) ?_; intro v' w' hown' hgrow hnil)
      have B1 : Below w.heap.size w w' := (B.trans ((below_box wr _).mono B.size)).grown hgrow (Nat.le_trans B.size (below_box _ _).size) (fun k hk => (World.ownsRow.lt OW.out k hk).1)
      have HO1 := Lib.hid (show Own w' w.heap.size v' (abvT ts os (i + 1)) by unfold Own; rw [abvT_len (by omega), HS.out, flat_snoc]; exact hown')
      clear hown' hgrow hnil
      go_roundg (gk - 1)
      case measure => have := HK.out; omega
      case rel => exact ⟨i + 1, by have := HK.out; omega, by go_num, HO1.out, B1⟩
    · obtain rfl : i = k := by omega
      obtain ⟨b', off', e, _, d0⟩ := HO.out.below B i (by omega)
      simp only [Option.some.injEq, Addr.mk.injEq, and_true] at e
      obtain ⟨rfl, rfl⟩ := e
      have hyb := ord_at HV.out hk
      have HL := Lib.hid (rsp_lfp HV.out i)
      obtain ⟨y, hy⟩ : ∃ y, y = (os.getD i 0).toNat := ⟨_, rfl⟩
      have hy' : os.getD i 0 = (y : Int) := by omega
      rw [← hy] at HL
      simp only [hy'] at d0
      have hyl : y < ts.length := by omega
      have hy0 : (0 : Int) ≤ y := by omega
      have hy1 : (y : Int) < ts.length := by omega
      have htv := tk_tv (sv_all (ordB_iff.1 HV.out).1).1 hyl
      obtain ⟨bt, ot, rfl, hbt, _⟩ := HR.out.at hyl
      obtain ⟨bt', ot', e, _, e0, e1, e2⟩ := (HR.out.below B).at hyl
      simp only [Option.some.injEq, Addr.mk.injEq, and_true] at e
      obtain ⟨rfl, rfl⟩ := e
      have hbd := tv_bd htv
      rw [← hbd.2.2.2.2.2.1] at e0
      rw [← hbd.2.2.2.2.2.2.1] at e1
      rw [← hbd.2.2.2.2.2.2.2] at e2
      have HT := Lib.hid htv
      have TT := Lib.hid (show tk ts y = ((cst (tk ts y) : Int), (dln (tk ts y) : Int), (per (tk ts y) : Int)) from by rw [hbd.2.2.2.2.2.1, hbd.2.2.2.2.2.2.1, hbd.2.2.2.2.2.2.2])
      have hsv := abvT_sv HV.out (Nat.le_of_lt hk)
      have h5 := (sv_all hsv).2
      obtain ⟨ha, hcap, rfl, hrow, _, _⟩ := HW.out.row
      obtain ⟨hl, hhl⟩ : ∃ hl, hl = abvT ts os i := ⟨_, rfl⟩
      rw [← hhl] at hrow hsv h5 HL
      have HH := Lib.hid hrow
      have HSV := Lib.hid hsv
      have CL := Lib.hid (fun b1 b2 lo v W (h : RS b1 b2 lo W (tk ts y) v hl) => lfpResponse_any W h hsv htv)
      rw [← hhl]
      rw [HL.out] at CL
      obtain ⟨C, hC⟩ : ∃ C, C = cst (tk ts y) := ⟨_, rfl⟩
      obtain ⟨D, hD⟩ : ∃ D, D = dln (tk ts y) := ⟨_, rfl⟩
      obtain ⟨q, hq⟩ : ∃ q, q = per (tk ts y) := ⟨_, rfl⟩
      rw [← hC, ← hD] at CL
      rw [← hC] at e0
      rw [← hD] at e1
      rw [← hq] at e2
      rw [← hC, ← hD, ← hq] at TT
      rw [TT.out] at CL
      clear hy hyb hy' hbd htv hC hD hq hhl HW hlen hsv hrow HL
      have hsw := B.size
      go_wp2
      refine wp_region_held_drew (S := fun w' => w'.cell? ⟨b, off + i, none⟩ = some (.int .i64 (y : Int)) ∧ w'.cell? ⟨bt, ot + y * 3, none⟩ = some (.int .i64 (C : Int)) ∧ w'.cell? ⟨bt, ot + y * 3 + 1, none⟩ = some (.int .i64 (D : Int)) ∧ w'.cell? ⟨bt, ot + y * 3 + 2, none⟩ = some (.int .i64 (q : Int))) (by kernel_rfl) ?_ (fun hHeld => ?_)
      · (try dsimp only)
        exact KPresp (w' := wr) ⟨d0, e0, e1, e2⟩ w.heap.size hbs hbt (Below.refl _ _).drew
      refine wpAnyH_take (i := 0) (v := ?_) (toArr_get _ 0 _ rfl) (by kernel_rfl) (by kernel_rfl) (by kernel_rfl) (fun _ _ _ h => h) (Or.inl ⟨by rfl, ?_⟩) (by assumption) ?_
      rotate_left
      · (intro w hSw; (try dsimp only at hSw); go_simp; (try with_reducible rfl))
      (try simp only [Act.put, List.setIfInBounds_toArray, List.set_cons_zero, List.set_cons_succ])
      refine wpAnyH_take (i := 1) (v := ?_) (toArr_get _ 1 _ rfl) (by kernel_rfl) (by kernel_rfl) (by kernel_rfl) (fun _ _ _ h => h) (Or.inl ⟨by rfl, ?_⟩) (by assumption) ?_
      rotate_left
      · (intro w hSw; (try dsimp only at hSw); go_simp; (try with_reducible rfl))
      (try simp only [Act.put, List.setIfInBounds_toArray, List.set_cons_zero, List.set_cons_succ])
      refine wpAnyH_take (i := 2) (v := ?_) (toArr_get _ 2 _ rfl) (by kernel_rfl) (by kernel_rfl) (by kernel_rfl) (fun _ _ _ h => h) (Or.inl ⟨by rfl, ?_⟩) (by assumption) ?_
      rotate_left
      · (intro w hSw; (try dsimp only at hSw); go_simp; (try with_reducible rfl))
      (try simp only [Act.put, List.setIfInBounds_toArray, List.set_cons_zero, List.set_cons_succ])
      refine wpAnyH_take (i := 3) (v := ?_) (toArr_get _ 3 _ rfl) (by kernel_rfl) (by kernel_rfl) (by kernel_rfl) (fun _ _ _ h => h) (Or.inl ⟨by rfl, ?_⟩) (by assumption) ?_
      rotate_left
      · (intro w hSw; (try dsimp only at hSw); go_simp; (try with_reducible rfl))
      (try simp only [Act.put, List.setIfInBounds_toArray, List.set_cons_zero, List.set_cons_succ])
      refine wpAnyH_take (i := 4) (v := ?_) (toArr_get _ 4 _ rfl) (by kernel_rfl) (by kernel_rfl) (by kernel_rfl) (fun _ _ _ h => h) (Or.inl ⟨by rfl, ?_⟩) (by assumption) ?_
      rotate_left
      · (intro w hSw; (try dsimp only at hSw); go_simp; (try with_reducible rfl))
      (try simp only [Act.put, List.setIfInBounds_toArray, List.set_cons_zero, List.set_cons_succ])
      refine wpAnyH_take (i := 5) (v := ?_) (toArr_get _ 5 _ rfl) (by kernel_rfl) (by kernel_rfl) (by kernel_rfl) (fun _ _ _ h => h) (Or.inl ⟨by rfl, ?_⟩) (by assumption) ?_
      rotate_left
      · (intro w hSw; (try dsimp only at hSw); go_simp; (try with_reducible rfl))
      (try simp only [Act.put, List.setIfInBounds_toArray, List.set_cons_zero, List.set_cons_succ])
      refine wpAnyH_take (i := 6) (v := ?_) (toArr_get _ 6 _ rfl) (by kernel_rfl) (by kernel_rfl) (by kernel_rfl) (fun _ _ _ h => h) (Or.inl ⟨by rfl, ?_⟩) (by assumption) ?_
      rotate_left
      · (intro w hSw; (try dsimp only at hSw); go_simp; (try with_reducible rfl))
      (try simp only [Act.put, List.setIfInBounds_toArray, List.set_cons_zero, List.set_cons_succ])
      refine wpAnyH_take (i := 7) (v := ?_) (toArr_get _ 7 _ rfl) (by kernel_rfl) (by kernel_rfl) (by kernel_rfl) (fun _ _ _ h => h) (Or.inl ⟨by rfl, ?_⟩) (by assumption) ?_
      rotate_left
      · (intro w hSw; (try dsimp only at hSw); go_simp; (try with_reducible rfl))
      (try simp only [Act.put, List.setIfInBounds_toArray, List.set_cons_zero, List.set_cons_succ])
      refine wpAnyH_ready (rs := [8, 9, 10]) (by kernel_rfl) (by simp) ?_
      refine AllReadyH.cons (toArr_get _ 8 _ rfl) (fun K hK => ?_) ?_
      · go_simp
        refine (summed_released _ _ hl _ (HH.out.below ((Below.refl _ _).drew)) h5).mono ?_
        rintro e w8 ⟨v8, rfl, hs8, b8⟩
        have hz8 := b8.size
        simp at hz8
        obtain ⟨pb8, hpb8, _⟩ := summed1_released v8 hl 0 w8 hs8 HSV.out (by omega)
        subst hpb8
        go_wp2_with fail
        refine hK.out _ _ ?_ (fun hHeld2 => ?_)
        · (try dsimp only)
          exact KPresp hHeld w.heap.size hbs hbt (b8.mono (by first | omega | (simp; omega) | simp))
        clear hK K hHeld
        have hHeld := hHeld2
        clear hHeld2
        (try simp only [Act.put, List.setIfInBounds_toArray, List.set_cons_zero, List.set_cons_succ])
        refine wpAnyH_ready (rs := [9, 10]) (by kernel_rfl) (by simp) ?_
        refine AllReadyH.cons (toArr_get _ 9 _ rfl) (fun K hK => ?_) ?_
        · go_simp
          refine hK.out _ _ ?_ (fun hHeld2 => ?_)
          · (try dsimp only)
            exact KPresp hHeld w.heap.size hbs hbt ((below_box _ _).mono (by first | omega | (simp; omega) | simp))
          clear hK K hHeld
          have hHeld := hHeld2
          clear hHeld2
          (try simp only [Act.put, List.setIfInBounds_toArray, List.set_cons_zero, List.set_cons_succ])
          refine wpAnyH_ready (rs := [10]) (by kernel_rfl) (by simp) ?_
          refine AllReadyH.cons (toArr_get _ 10 _ rfl) (fun K hK => ?_) ?_
          · go_simp
            refine hK.out _ _ ?_ (fun hHeld2 => ?_)
            · (try dsimp only)
              exact KPresp hHeld w.heap.size hbs hbt ((below_box _ _).mono (by first | omega | (simp; omega) | simp))
            clear hK K hHeld
            have hHeld := hHeld2
            clear hHeld2
            (try simp only [Act.put, List.setIfInBounds_toArray, List.set_cons_zero, List.set_cons_succ])
            refine at_world (R := fun W => MidR w8.heap.size (w8.heap.size + 1) _ w W _ hl ∧ (W.cell? ⟨b, off + i, none⟩ = some (.int .i64 (y : Int)) ∧ W.cell? ⟨bt, ot + y * 3, none⟩ = some (.int .i64 (C : Int)) ∧ W.cell? ⟨bt, ot + y * 3 + 1, none⟩ = some (.int .i64 (D : Int)) ∧ W.cell? ⟨bt, ot + y * 3 + 2, none⟩ = some (.int .i64 (q : Int)))) ⟨mid_mk hs8 (((((Below.refl _ _).alloc (by first | omega | (simp; omega) | simp) _)).alloc (by first | omega | (simp; omega) | simp) _)) (by first | omega | (simp; omega) | simp) (.inr (by first | omega | (simp; omega) | simp)) (.inr (by first | omega | (simp; omega) | simp)) (((below_box _ _).block _ (by first | omega | (simp; omega) | simp)).trans (blk_new' _ _ _ (by first | rfl | simp))) (blk_new' _ _ _ (by first | rfl | simp)) ((((((B.drew).trans (b8.mono (by first | omega | (simp; omega) | simp))).alloc (by first | omega | (simp; omega) | simp) _)).alloc (by first | omega | (simp; omega) | simp) _)) (by first | omega | (simp; omega) | simp) (by first | omega | (simp; omega) | simp), hHeld⟩ ?_
            clear hHeld hs8 b8
            rintro W ⟨hMid, hHeld⟩
            have HM := Lib.hid hMid
            have x0 := hMid.x0
            have x1 := hMid.x1
            have x2 := hMid.x2
            have y0 := hMid.y0
            have fz0 := hMid.f0 0
            have fz1 := hMid.f0 1
            have fz2 := hMid.f0 2
            have fy0 := hMid.f1 0
            have hl1 := hMid.l1
            have hl2 := hMid.l2
            have hne : ¬ (w8.heap.size = (w8.heap.size + 1)) := hMid.ne
            have hne2 : ¬ ((w8.heap.size + 1) = w8.heap.size) := hMid.ne.symm
            clear hMid
            refine wpAnyH_ready (rs := [11]) (by kernel_rfl) (by simp) ?_
            refine AllReadyH.cons (toArr_get _ 11 _ rfl) (fun K hK => ?_) ?_
            · go_simp
              refine hK.out _ _ ?_ (fun hHeld2 => ?_)
              · (try dsimp only)
                exact KPresp hHeld w.heap.size hbs hbt ((((Below.refl _ _).setCell hl1 _).setCell hl1 _).setCell hl1 _)
              clear hK K hHeld
              have hHeld := hHeld2
              clear hHeld2
              (try simp only [Act.put, List.setIfInBounds_toArray, List.set_cons_zero, List.set_cons_succ])
              refine wpAnyH_ready (rs := [12]) (by kernel_rfl) (by simp) ?_
              refine AllReadyH.cons (toArr_get _ 12 _ rfl) (fun K hK => ?_) ?_
              · go_simp
                refine hK.out _ _ ?_ (fun hHeld2 => ?_)
                · (try dsimp only)
                  exact KPresp hHeld w.heap.size hbs hbt ((Below.refl _ _).setCell hl2 _)
                clear hK K hHeld
                have hHeld := hHeld2
                clear hHeld2
                (try simp only [Act.put, List.setIfInBounds_toArray, List.set_cons_zero, List.set_cons_succ])
                refine wpAnyH_done (by kernel_rfl) ?_ _
                refine at_world (R := fun W => RS _ _ _ W ((C : Int), (D : Int), (q : Int)) _ hl ∧ Below w.heap.size w W) (rs_end HM.out) ?_
                clear x0 x1 x2 y0 fz0 fz1 fz2 fy0 hl1 hl2 HM hHeld
                rintro W ⟨hRS, hBB⟩
                have f0 := hRS.c0
                have f1 := hRS.c1
                have HRS := Lib.hid hRS
                have HBB := Lib.hid hBB
                clear hRS hBB
                go_wp2_with fail
                refine (CL.out _ _ _ _ _ HRS.out).mono ?_
                rintro e w9 ⟨rfl, b9⟩
                obtain ⟨z, hz⟩ : ∃ z, z = rspO ts os i := ⟨_, rfl⟩
                rw [← hz]
                have HZ := Lib.hid hz
                clear hz
                cases z with
                | none =>
                  unfold lfpV
                  go_wp2
                  go_ret2
                  exact ⟨by rw [← HZ.out]; rfl, HBB.out.trans (b9.mono HBB.out.size)⟩
                | some z =>
                  unfold lfpV
                  go_wp2
                  go_ret2
                  exact ⟨by rw [← HZ.out]; rfl, HBB.out.trans (b9.mono HBB.out.size)⟩
              exact AllReadyH.nil
            exact AllReadyH.nil
          exact AllReadyH.nil
        refine AllReadyH.cons (toArr_get _ 10 _ rfl) (fun K hK => ?_) ?_
        · go_simp
          refine hK.out _ _ ?_ (fun hHeld2 => ?_)
          · (try dsimp only)
            exact KPresp hHeld w.heap.size hbs hbt ((below_box _ _).mono (by first | omega | (simp; omega) | simp))
          clear hK K hHeld
          have hHeld := hHeld2
          clear hHeld2
          (try simp only [Act.put, List.setIfInBounds_toArray, List.set_cons_zero, List.set_cons_succ])
          refine wpAnyH_ready (rs := [9]) (by kernel_rfl) (by simp) ?_
          refine AllReadyH.cons (toArr_get _ 9 _ rfl) (fun K hK => ?_) ?_
          · go_simp
            refine hK.out _ _ ?_ (fun hHeld2 => ?_)
            · (try dsimp only)
              exact KPresp hHeld w.heap.size hbs hbt ((below_box _ _).mono (by first | omega | (simp; omega) | simp))
            clear hK K hHeld
            have hHeld := hHeld2
            clear hHeld2
            (try simp only [Act.put, List.setIfInBounds_toArray, List.set_cons_zero, List.set_cons_succ])
            refine at_world (R := fun W => MidR (w8.heap.size + 1) w8.heap.size _ w W _ hl ∧ (W.cell? ⟨b, off + i, none⟩ = some (.int .i64 (y : Int)) ∧ W.cell? ⟨bt, ot + y * 3, none⟩ = some (.int .i64 (C : Int)) ∧ W.cell? ⟨bt, ot + y * 3 + 1, none⟩ = some (.int .i64 (D : Int)) ∧ W.cell? ⟨bt, ot + y * 3 + 2, none⟩ = some (.int .i64 (q : Int)))) ⟨mid_mk hs8 (((((Below.refl _ _).alloc (by first | omega | (simp; omega) | simp) _)).alloc (by first | omega | (simp; omega) | simp) _)) (by first | omega | (simp; omega) | simp) (.inr (by first | omega | (simp; omega) | simp)) (.inr (by first | omega | (simp; omega) | simp)) (blk_new' _ _ _ (by first | rfl | simp)) (((below_box _ _).block _ (by first | omega | (simp; omega) | simp)).trans (blk_new' _ _ _ (by first | rfl | simp))) ((((((B.drew).trans (b8.mono (by first | omega | (simp; omega) | simp))).alloc (by first | omega | (simp; omega) | simp) _)).alloc (by first | omega | (simp; omega) | simp) _)) (by first | omega | (simp; omega) | simp) (by first | omega | (simp; omega) | simp), hHeld⟩ ?_
            clear hHeld hs8 b8
            rintro W ⟨hMid, hHeld⟩
            have HM := Lib.hid hMid
            have x0 := hMid.x0
            have x1 := hMid.x1
            have x2 := hMid.x2
            have y0 := hMid.y0
            have fz0 := hMid.f0 0
            have fz1 := hMid.f0 1
            have fz2 := hMid.f0 2
            have fy0 := hMid.f1 0
            have hl1 := hMid.l1
            have hl2 := hMid.l2
            have hne : ¬ ((w8.heap.size + 1) = w8.heap.size) := hMid.ne
            have hne2 : ¬ (w8.heap.size = (w8.heap.size + 1)) := hMid.ne.symm
            clear hMid
            refine wpAnyH_ready (rs := [11]) (by kernel_rfl) (by simp) ?_
            refine AllReadyH.cons (toArr_get _ 11 _ rfl) (fun K hK => ?_) ?_
            · go_simp
              refine hK.out _ _ ?_ (fun hHeld2 => ?_)
              · (try dsimp only)
                exact KPresp hHeld w.heap.size hbs hbt ((((Below.refl _ _).setCell hl1 _).setCell hl1 _).setCell hl1 _)
              clear hK K hHeld
              have hHeld := hHeld2
              clear hHeld2
              (try simp only [Act.put, List.setIfInBounds_toArray, List.set_cons_zero, List.set_cons_succ])
              refine wpAnyH_ready (rs := [12]) (by kernel_rfl) (by simp) ?_
              refine AllReadyH.cons (toArr_get _ 12 _ rfl) (fun K hK => ?_) ?_
              · go_simp
                refine hK.out _ _ ?_ (fun hHeld2 => ?_)
                · (try dsimp only)
                  exact KPresp hHeld w.heap.size hbs hbt ((Below.refl _ _).setCell hl2 _)
                clear hK K hHeld
                have hHeld := hHeld2
                clear hHeld2
                (try simp only [Act.put, List.setIfInBounds_toArray, List.set_cons_zero, List.set_cons_succ])
                refine wpAnyH_done (by kernel_rfl) ?_ _
                refine at_world (R := fun W => RS _ _ _ W ((C : Int), (D : Int), (q : Int)) _ hl ∧ Below w.heap.size w W) (rs_end HM.out) ?_
                clear x0 x1 x2 y0 fz0 fz1 fz2 fy0 hl1 hl2 HM hHeld
                rintro W ⟨hRS, hBB⟩
                have f0 := hRS.c0
                have f1 := hRS.c1
                have HRS := Lib.hid hRS
                have HBB := Lib.hid hBB
                clear hRS hBB
                go_wp2_with fail
                refine (CL.out _ _ _ _ _ HRS.out).mono ?_
                rintro e w9 ⟨rfl, b9⟩
                obtain ⟨z, hz⟩ : ∃ z, z = rspO ts os i := ⟨_, rfl⟩
                rw [← hz]
                have HZ := Lib.hid hz
                clear hz
                cases z with
                | none =>
                  unfold lfpV
                  go_wp2
                  go_ret2
                  exact ⟨by rw [← HZ.out]; rfl, HBB.out.trans (b9.mono HBB.out.size)⟩
                | some z =>
                  unfold lfpV
                  go_wp2
                  go_ret2
                  exact ⟨by rw [← HZ.out]; rfl, HBB.out.trans (b9.mono HBB.out.size)⟩
              exact AllReadyH.nil
            exact AllReadyH.nil
          exact AllReadyH.nil
        exact AllReadyH.nil
      refine AllReadyH.cons (toArr_get _ 9 _ rfl) (fun K hK => ?_) ?_
      · go_simp
        refine hK.out _ _ ?_ (fun hHeld2 => ?_)
        · (try dsimp only)
          exact KPresp hHeld w.heap.size hbs hbt ((below_box _ _).mono (by first | omega | (simp; omega) | simp))
        clear hK K hHeld
        have hHeld := hHeld2
        clear hHeld2
        (try simp only [Act.put, List.setIfInBounds_toArray, List.set_cons_zero, List.set_cons_succ])
        refine wpAnyH_ready (rs := [8, 10]) (by kernel_rfl) (by simp) ?_
        refine AllReadyH.cons (toArr_get _ 8 _ rfl) (fun K hK => ?_) ?_
        · go_simp
          refine (summed_released _ _ hl _ (HH.out.below ((((Below.refl _ _).drew).alloc (by first | omega | (simp; omega) | simp) _))) h5).mono ?_
          rintro e w8 ⟨v8, rfl, hs8, b8⟩
          have hz8 := b8.size
          simp at hz8
          obtain ⟨pb8, hpb8, _⟩ := summed1_released v8 hl 0 w8 hs8 HSV.out (by omega)
          subst hpb8
          go_wp2_with fail
          refine hK.out _ _ ?_ (fun hHeld2 => ?_)
          · (try dsimp only)
            exact KPresp hHeld w.heap.size hbs hbt (b8.mono (by first | omega | (simp; omega) | simp))
          clear hK K hHeld
          have hHeld := hHeld2
          clear hHeld2
          (try simp only [Act.put, List.setIfInBounds_toArray, List.set_cons_zero, List.set_cons_succ])
          refine wpAnyH_ready (rs := [10]) (by kernel_rfl) (by simp) ?_
          refine AllReadyH.cons (toArr_get _ 10 _ rfl) (fun K hK => ?_) ?_
          · go_simp
            refine hK.out _ _ ?_ (fun hHeld2 => ?_)
            · (try dsimp only)
              exact KPresp hHeld w.heap.size hbs hbt ((below_box _ _).mono (by first | omega | (simp; omega) | simp))
            clear hK K hHeld
            have hHeld := hHeld2
            clear hHeld2
            (try simp only [Act.put, List.setIfInBounds_toArray, List.set_cons_zero, List.set_cons_succ])
            refine at_world (R := fun W => MidR wr.heap.size w8.heap.size _ w W _ hl ∧ (W.cell? ⟨b, off + i, none⟩ = some (.int .i64 (y : Int)) ∧ W.cell? ⟨bt, ot + y * 3, none⟩ = some (.int .i64 (C : Int)) ∧ W.cell? ⟨bt, ot + y * 3 + 1, none⟩ = some (.int .i64 (D : Int)) ∧ W.cell? ⟨bt, ot + y * 3 + 2, none⟩ = some (.int .i64 (q : Int)))) ⟨mid_mk hs8 (((Below.refl _ _).alloc (by first | omega | (simp; omega) | simp) _)) (by first | omega | (simp; omega) | simp) (.inl (by first | omega | (simp; omega) | simp)) (.inr (by first | omega | (simp; omega) | simp)) (((below_box _ _).block _ (by first | omega | (simp; omega) | simp)).trans ((b8.block _ (by first | omega | (simp; omega) | simp)).trans (blk_new' _ _ _ (by first | rfl | simp)))) (blk_new' _ _ _ (by first | rfl | simp)) ((((((B.drew).alloc (by first | omega | (simp; omega) | simp) _)).trans (b8.mono (by first | omega | (simp; omega) | simp))).alloc (by first | omega | (simp; omega) | simp) _)) (by first | omega | (simp; omega) | simp) (by first | omega | (simp; omega) | simp), hHeld⟩ ?_
            clear hHeld hs8 b8
            rintro W ⟨hMid, hHeld⟩
            have HM := Lib.hid hMid
            have x0 := hMid.x0
            have x1 := hMid.x1
            have x2 := hMid.x2
            have y0 := hMid.y0
            have fz0 := hMid.f0 0
            have fz1 := hMid.f0 1
            have fz2 := hMid.f0 2
            have fy0 := hMid.f1 0
            have hl1 := hMid.l1
            have hl2 := hMid.l2
            have hne : ¬ (wr.heap.size = w8.heap.size) := hMid.ne
            have hne2 : ¬ (w8.heap.size = wr.heap.size) := hMid.ne.symm
            clear hMid
            refine wpAnyH_ready (rs := [11]) (by kernel_rfl) (by simp) ?_
            refine AllReadyH.cons (toArr_get _ 11 _ rfl) (fun K hK => ?_) ?_
            · go_simp
              refine hK.out _ _ ?_ (fun hHeld2 => ?_)
              · (try dsimp only)
                exact KPresp hHeld w.heap.size hbs hbt ((((Below.refl _ _).setCell hl1 _).setCell hl1 _).setCell hl1 _)
              clear hK K hHeld
              have hHeld := hHeld2
              clear hHeld2
              (try simp only [Act.put, List.setIfInBounds_toArray, List.set_cons_zero, List.set_cons_succ])
              refine wpAnyH_ready (rs := [12]) (by kernel_rfl) (by simp) ?_
              refine AllReadyH.cons (toArr_get _ 12 _ rfl) (fun K hK => ?_) ?_
              · go_simp
                refine hK.out _ _ ?_ (fun hHeld2 => ?_)
                · (try dsimp only)
                  exact KPresp hHeld w.heap.size hbs hbt ((Below.refl _ _).setCell hl2 _)
                clear hK K hHeld
                have hHeld := hHeld2
                clear hHeld2
                (try simp only [Act.put, List.setIfInBounds_toArray, List.set_cons_zero, List.set_cons_succ])
                refine wpAnyH_done (by kernel_rfl) ?_ _
                refine at_world (R := fun W => RS _ _ _ W ((C : Int), (D : Int), (q : Int)) _ hl ∧ Below w.heap.size w W) (rs_end HM.out) ?_
                clear x0 x1 x2 y0 fz0 fz1 fz2 fy0 hl1 hl2 HM hHeld
                rintro W ⟨hRS, hBB⟩
                have f0 := hRS.c0
                have f1 := hRS.c1
                have HRS := Lib.hid hRS
                have HBB := Lib.hid hBB
                clear hRS hBB
                go_wp2_with fail
                refine (CL.out _ _ _ _ _ HRS.out).mono ?_
                rintro e w9 ⟨rfl, b9⟩
                obtain ⟨z, hz⟩ : ∃ z, z = rspO ts os i := ⟨_, rfl⟩
                rw [← hz]
                have HZ := Lib.hid hz
                clear hz
                cases z with
                | none =>
                  unfold lfpV
                  go_wp2
                  go_ret2
                  exact ⟨by rw [← HZ.out]; rfl, HBB.out.trans (b9.mono HBB.out.size)⟩
                | some z =>
                  unfold lfpV
                  go_wp2
                  go_ret2
                  exact ⟨by rw [← HZ.out]; rfl, HBB.out.trans (b9.mono HBB.out.size)⟩
              exact AllReadyH.nil
            exact AllReadyH.nil
          exact AllReadyH.nil
        refine AllReadyH.cons (toArr_get _ 10 _ rfl) (fun K hK => ?_) ?_
        · go_simp
          refine hK.out _ _ ?_ (fun hHeld2 => ?_)
          · (try dsimp only)
            exact KPresp hHeld w.heap.size hbs hbt ((below_box _ _).mono (by first | omega | (simp; omega) | simp))
          clear hK K hHeld
          have hHeld := hHeld2
          clear hHeld2
          (try simp only [Act.put, List.setIfInBounds_toArray, List.set_cons_zero, List.set_cons_succ])
          refine wpAnyH_ready (rs := [8]) (by kernel_rfl) (by simp) ?_
          refine AllReadyH.cons (toArr_get _ 8 _ rfl) (fun K hK => ?_) ?_
          · go_simp
            refine (summed_released _ _ hl _ (HH.out.below ((((((Below.refl _ _).drew).alloc (by first | omega | (simp; omega) | simp) _)).alloc (by first | omega | (simp; omega) | simp) _))) h5).mono ?_
            rintro e w8 ⟨v8, rfl, hs8, b8⟩
            have hz8 := b8.size
            simp at hz8
            obtain ⟨pb8, hpb8, _⟩ := summed1_released v8 hl 0 w8 hs8 HSV.out (by omega)
            subst hpb8
            go_wp2_with fail
            refine hK.out _ _ ?_ (fun hHeld2 => ?_)
            · (try dsimp only)
              exact KPresp hHeld w.heap.size hbs hbt (b8.mono (by first | omega | (simp; omega) | simp))
            clear hK K hHeld
            have hHeld := hHeld2
            clear hHeld2
            (try simp only [Act.put, List.setIfInBounds_toArray, List.set_cons_zero, List.set_cons_succ])
            refine at_world (R := fun W => MidR wr.heap.size (wr.heap.size + 1) _ w W _ hl ∧ (W.cell? ⟨b, off + i, none⟩ = some (.int .i64 (y : Int)) ∧ W.cell? ⟨bt, ot + y * 3, none⟩ = some (.int .i64 (C : Int)) ∧ W.cell? ⟨bt, ot + y * 3 + 1, none⟩ = some (.int .i64 (D : Int)) ∧ W.cell? ⟨bt, ot + y * 3 + 2, none⟩ = some (.int .i64 (q : Int)))) ⟨mid_mk hs8 (Below.refl _ _) (by first | omega | (simp; omega) | simp) (.inl (by first | omega | (simp; omega) | simp)) (.inl (by first | omega | (simp; omega) | simp)) ((b8.block _ (by first | omega | (simp; omega) | simp)).trans (((below_box _ _).block _ (by first | omega | (simp; omega) | simp)).trans (blk_new' _ _ _ (by first | rfl | simp)))) ((b8.block _ (by first | omega | (simp; omega) | simp)).trans (blk_new' _ _ _ (by first | rfl | simp))) ((((((B.drew).alloc (by first | omega | (simp; omega) | simp) _)).alloc (by first | omega | (simp; omega) | simp) _)).trans (b8.mono (by first | omega | (simp; omega) | simp))) (by first | omega | (simp; omega) | simp) (by first | omega | (simp; omega) | simp), hHeld⟩ ?_
            clear hHeld hs8 b8
            rintro W ⟨hMid, hHeld⟩
            have HM := Lib.hid hMid
            have x0 := hMid.x0
            have x1 := hMid.x1
            have x2 := hMid.x2
            have y0 := hMid.y0
            have fz0 := hMid.f0 0
            have fz1 := hMid.f0 1
            have fz2 := hMid.f0 2
            have fy0 := hMid.f1 0
            have hl1 := hMid.l1
            have hl2 := hMid.l2
            have hne : ¬ (wr.heap.size = (wr.heap.size + 1)) := hMid.ne
            have hne2 : ¬ ((wr.heap.size + 1) = wr.heap.size) := hMid.ne.symm
            clear hMid
            refine wpAnyH_ready (rs := [11]) (by kernel_rfl) (by simp) ?_
            refine AllReadyH.cons (toArr_get _ 11 _ rfl) (fun K hK => ?_) ?_
            · go_simp
              refine hK.out _ _ ?_ (fun hHeld2 => ?_)
              · (try dsimp only)
                exact KPresp hHeld w.heap.size hbs hbt ((((Below.refl _ _).setCell hl1 _).setCell hl1 _).setCell hl1 _)
              clear hK K hHeld
              have hHeld := hHeld2
              clear hHeld2
              (try simp only [Act.put, List.setIfInBounds_toArray, List.set_cons_zero, List.set_cons_succ])
              refine wpAnyH_ready (rs := [12]) (by kernel_rfl) (by simp) ?_
              refine AllReadyH.cons (toArr_get _ 12 _ rfl) (fun K hK => ?_) ?_
              · go_simp
                refine hK.out _ _ ?_ (fun hHeld2 => ?_)
                · (try dsimp only)
                  exact KPresp hHeld w.heap.size hbs hbt ((Below.refl _ _).setCell hl2 _)
                clear hK K hHeld
                have hHeld := hHeld2
                clear hHeld2
                (try simp only [Act.put, List.setIfInBounds_toArray, List.set_cons_zero, List.set_cons_succ])
                refine wpAnyH_done (by kernel_rfl) ?_ _
                refine at_world (R := fun W => RS _ _ _ W ((C : Int), (D : Int), (q : Int)) _ hl ∧ Below w.heap.size w W) (rs_end HM.out) ?_
                clear x0 x1 x2 y0 fz0 fz1 fz2 fy0 hl1 hl2 HM hHeld
                rintro W ⟨hRS, hBB⟩
                have f0 := hRS.c0
                have f1 := hRS.c1
                have HRS := Lib.hid hRS
                have HBB := Lib.hid hBB
                clear hRS hBB
                go_wp2_with fail
                refine (CL.out _ _ _ _ _ HRS.out).mono ?_
                rintro e w9 ⟨rfl, b9⟩
                obtain ⟨z, hz⟩ : ∃ z, z = rspO ts os i := ⟨_, rfl⟩
                rw [← hz]
                have HZ := Lib.hid hz
                clear hz
                cases z with
                | none =>
                  unfold lfpV
                  go_wp2
                  go_ret2
                  exact ⟨by rw [← HZ.out]; rfl, HBB.out.trans (b9.mono HBB.out.size)⟩
                | some z =>
                  unfold lfpV
                  go_wp2
                  go_ret2
                  exact ⟨by rw [← HZ.out]; rfl, HBB.out.trans (b9.mono HBB.out.size)⟩
              exact AllReadyH.nil
            exact AllReadyH.nil
          exact AllReadyH.nil
        exact AllReadyH.nil
      refine AllReadyH.cons (toArr_get _ 10 _ rfl) (fun K hK => ?_) ?_
      · go_simp
        refine hK.out _ _ ?_ (fun hHeld2 => ?_)
        · (try dsimp only)
          exact KPresp hHeld w.heap.size hbs hbt ((below_box _ _).mono (by first | omega | (simp; omega) | simp))
        clear hK K hHeld
        have hHeld := hHeld2
        clear hHeld2
        (try simp only [Act.put, List.setIfInBounds_toArray, List.set_cons_zero, List.set_cons_succ])
        refine wpAnyH_ready (rs := [8, 9]) (by kernel_rfl) (by simp) ?_
        refine AllReadyH.cons (toArr_get _ 8 _ rfl) (fun K hK => ?_) ?_
        · go_simp
          refine (summed_released _ _ hl _ (HH.out.below ((((Below.refl _ _).drew).alloc (by first | omega | (simp; omega) | simp) _))) h5).mono ?_
          rintro e w8 ⟨v8, rfl, hs8, b8⟩
          have hz8 := b8.size
          simp at hz8
          obtain ⟨pb8, hpb8, _⟩ := summed1_released v8 hl 0 w8 hs8 HSV.out (by omega)
          subst hpb8
          go_wp2_with fail
          refine hK.out _ _ ?_ (fun hHeld2 => ?_)
          · (try dsimp only)
            exact KPresp hHeld w.heap.size hbs hbt (b8.mono (by first | omega | (simp; omega) | simp))
          clear hK K hHeld
          have hHeld := hHeld2
          clear hHeld2
          (try simp only [Act.put, List.setIfInBounds_toArray, List.set_cons_zero, List.set_cons_succ])
          refine wpAnyH_ready (rs := [9]) (by kernel_rfl) (by simp) ?_
          refine AllReadyH.cons (toArr_get _ 9 _ rfl) (fun K hK => ?_) ?_
          · go_simp
            refine hK.out _ _ ?_ (fun hHeld2 => ?_)
            · (try dsimp only)
              exact KPresp hHeld w.heap.size hbs hbt ((below_box _ _).mono (by first | omega | (simp; omega) | simp))
            clear hK K hHeld
            have hHeld := hHeld2
            clear hHeld2
            (try simp only [Act.put, List.setIfInBounds_toArray, List.set_cons_zero, List.set_cons_succ])
            refine at_world (R := fun W => MidR w8.heap.size wr.heap.size _ w W _ hl ∧ (W.cell? ⟨b, off + i, none⟩ = some (.int .i64 (y : Int)) ∧ W.cell? ⟨bt, ot + y * 3, none⟩ = some (.int .i64 (C : Int)) ∧ W.cell? ⟨bt, ot + y * 3 + 1, none⟩ = some (.int .i64 (D : Int)) ∧ W.cell? ⟨bt, ot + y * 3 + 2, none⟩ = some (.int .i64 (q : Int)))) ⟨mid_mk hs8 (((Below.refl _ _).alloc (by first | omega | (simp; omega) | simp) _)) (by first | omega | (simp; omega) | simp) (.inr (by first | omega | (simp; omega) | simp)) (.inl (by first | omega | (simp; omega) | simp)) (blk_new' _ _ _ (by first | rfl | simp)) (((below_box _ _).block _ (by first | omega | (simp; omega) | simp)).trans ((b8.block _ (by first | omega | (simp; omega) | simp)).trans (blk_new' _ _ _ (by first | rfl | simp)))) ((((((B.drew).alloc (by first | omega | (simp; omega) | simp) _)).trans (b8.mono (by first | omega | (simp; omega) | simp))).alloc (by first | omega | (simp; omega) | simp) _)) (by first | omega | (simp; omega) | simp) (by first | omega | (simp; omega) | simp), hHeld⟩ ?_
            clear hHeld hs8 b8
            rintro W ⟨hMid, hHeld⟩
            have HM := Lib.hid hMid
            have x0 := hMid.x0
            have x1 := hMid.x1
            have x2 := hMid.x2
            have y0 := hMid.y0
            have fz0 := hMid.f0 0
            have fz1 := hMid.f0 1
            have fz2 := hMid.f0 2
            have fy0 := hMid.f1 0
            have hl1 := hMid.l1
            have hl2 := hMid.l2
            have hne : ¬ (w8.heap.size = wr.heap.size) := hMid.ne
            have hne2 : ¬ (wr.heap.size = w8.heap.size) := hMid.ne.symm
            clear hMid
            refine wpAnyH_ready (rs := [11]) (by kernel_rfl) (by simp) ?_
            refine AllReadyH.cons (toArr_get _ 11 _ rfl) (fun K hK => ?_) ?_
            · go_simp
              refine hK.out _ _ ?_ (fun hHeld2 => ?_)
              · (try dsimp only)
                exact KPresp hHeld w.heap.size hbs hbt ((((Below.refl _ _).setCell hl1 _).setCell hl1 _).setCell hl1 _)
              clear hK K hHeld
              have hHeld := hHeld2
              clear hHeld2
              (try simp only [Act.put, List.setIfInBounds_toArray, List.set_cons_zero, List.set_cons_succ])
              refine wpAnyH_ready (rs := [12]) (by kernel_rfl) (by simp) ?_
              refine AllReadyH.cons (toArr_get _ 12 _ rfl) (fun K hK => ?_) ?_
              · go_simp
                refine hK.out _ _ ?_ (fun hHeld2 => ?_)
                · (try dsimp only)
                  exact KPresp hHeld w.heap.size hbs hbt ((Below.refl _ _).setCell hl2 _)
                clear hK K hHeld
                have hHeld := hHeld2
                clear hHeld2
                (try simp only [Act.put, List.setIfInBounds_toArray, List.set_cons_zero, List.set_cons_succ])
                refine wpAnyH_done (by kernel_rfl) ?_ _
                refine at_world (R := fun W => RS _ _ _ W ((C : Int), (D : Int), (q : Int)) _ hl ∧ Below w.heap.size w W) (rs_end HM.out) ?_
                clear x0 x1 x2 y0 fz0 fz1 fz2 fy0 hl1 hl2 HM hHeld
                rintro W ⟨hRS, hBB⟩
                have f0 := hRS.c0
                have f1 := hRS.c1
                have HRS := Lib.hid hRS
                have HBB := Lib.hid hBB
                clear hRS hBB
                go_wp2_with fail
                refine (CL.out _ _ _ _ _ HRS.out).mono ?_
                rintro e w9 ⟨rfl, b9⟩
                obtain ⟨z, hz⟩ : ∃ z, z = rspO ts os i := ⟨_, rfl⟩
                rw [← hz]
                have HZ := Lib.hid hz
                clear hz
                cases z with
                | none =>
                  unfold lfpV
                  go_wp2
                  go_ret2
                  exact ⟨by rw [← HZ.out]; rfl, HBB.out.trans (b9.mono HBB.out.size)⟩
                | some z =>
                  unfold lfpV
                  go_wp2
                  go_ret2
                  exact ⟨by rw [← HZ.out]; rfl, HBB.out.trans (b9.mono HBB.out.size)⟩
              exact AllReadyH.nil
            exact AllReadyH.nil
          exact AllReadyH.nil
        refine AllReadyH.cons (toArr_get _ 9 _ rfl) (fun K hK => ?_) ?_
        · go_simp
          refine hK.out _ _ ?_ (fun hHeld2 => ?_)
          · (try dsimp only)
            exact KPresp hHeld w.heap.size hbs hbt ((below_box _ _).mono (by first | omega | (simp; omega) | simp))
          clear hK K hHeld
          have hHeld := hHeld2
          clear hHeld2
          (try simp only [Act.put, List.setIfInBounds_toArray, List.set_cons_zero, List.set_cons_succ])
          refine wpAnyH_ready (rs := [8]) (by kernel_rfl) (by simp) ?_
          refine AllReadyH.cons (toArr_get _ 8 _ rfl) (fun K hK => ?_) ?_
          · go_simp
            refine (summed_released _ _ hl _ (HH.out.below ((((((Below.refl _ _).drew).alloc (by first | omega | (simp; omega) | simp) _)).alloc (by first | omega | (simp; omega) | simp) _))) h5).mono ?_
            rintro e w8 ⟨v8, rfl, hs8, b8⟩
            have hz8 := b8.size
            simp at hz8
            obtain ⟨pb8, hpb8, _⟩ := summed1_released v8 hl 0 w8 hs8 HSV.out (by omega)
            subst hpb8
            go_wp2_with fail
            refine hK.out _ _ ?_ (fun hHeld2 => ?_)
            · (try dsimp only)
              exact KPresp hHeld w.heap.size hbs hbt (b8.mono (by first | omega | (simp; omega) | simp))
            clear hK K hHeld
            have hHeld := hHeld2
            clear hHeld2
            (try simp only [Act.put, List.setIfInBounds_toArray, List.set_cons_zero, List.set_cons_succ])
            refine at_world (R := fun W => MidR (wr.heap.size + 1) wr.heap.size _ w W _ hl ∧ (W.cell? ⟨b, off + i, none⟩ = some (.int .i64 (y : Int)) ∧ W.cell? ⟨bt, ot + y * 3, none⟩ = some (.int .i64 (C : Int)) ∧ W.cell? ⟨bt, ot + y * 3 + 1, none⟩ = some (.int .i64 (D : Int)) ∧ W.cell? ⟨bt, ot + y * 3 + 2, none⟩ = some (.int .i64 (q : Int)))) ⟨mid_mk hs8 (Below.refl _ _) (by first | omega | (simp; omega) | simp) (.inl (by first | omega | (simp; omega) | simp)) (.inl (by first | omega | (simp; omega) | simp)) ((b8.block _ (by first | omega | (simp; omega) | simp)).trans (blk_new' _ _ _ (by first | rfl | simp))) ((b8.block _ (by first | omega | (simp; omega) | simp)).trans (((below_box _ _).block _ (by first | omega | (simp; omega) | simp)).trans (blk_new' _ _ _ (by first | rfl | simp)))) ((((((B.drew).alloc (by first | omega | (simp; omega) | simp) _)).alloc (by first | omega | (simp; omega) | simp) _)).trans (b8.mono (by first | omega | (simp; omega) | simp))) (by first | omega | (simp; omega) | simp) (by first | omega | (simp; omega) | simp), hHeld⟩ ?_
            clear hHeld hs8 b8
            rintro W ⟨hMid, hHeld⟩
            have HM := Lib.hid hMid
            have x0 := hMid.x0
            have x1 := hMid.x1
            have x2 := hMid.x2
            have y0 := hMid.y0
            have fz0 := hMid.f0 0
            have fz1 := hMid.f0 1
            have fz2 := hMid.f0 2
            have fy0 := hMid.f1 0
            have hl1 := hMid.l1
            have hl2 := hMid.l2
            have hne : ¬ ((wr.heap.size + 1) = wr.heap.size) := hMid.ne
            have hne2 : ¬ (wr.heap.size = (wr.heap.size + 1)) := hMid.ne.symm
            clear hMid
            refine wpAnyH_ready (rs := [11]) (by kernel_rfl) (by simp) ?_
            refine AllReadyH.cons (toArr_get _ 11 _ rfl) (fun K hK => ?_) ?_
            · go_simp
              refine hK.out _ _ ?_ (fun hHeld2 => ?_)
              · (try dsimp only)
                exact KPresp hHeld w.heap.size hbs hbt ((((Below.refl _ _).setCell hl1 _).setCell hl1 _).setCell hl1 _)
              clear hK K hHeld
              have hHeld := hHeld2
              clear hHeld2
              (try simp only [Act.put, List.setIfInBounds_toArray, List.set_cons_zero, List.set_cons_succ])
              refine wpAnyH_ready (rs := [12]) (by kernel_rfl) (by simp) ?_
              refine AllReadyH.cons (toArr_get _ 12 _ rfl) (fun K hK => ?_) ?_
              · go_simp
                refine hK.out _ _ ?_ (fun hHeld2 => ?_)
                · (try dsimp only)
                  exact KPresp hHeld w.heap.size hbs hbt ((Below.refl _ _).setCell hl2 _)
                clear hK K hHeld
                have hHeld := hHeld2
                clear hHeld2
                (try simp only [Act.put, List.setIfInBounds_toArray, List.set_cons_zero, List.set_cons_succ])
                refine wpAnyH_done (by kernel_rfl) ?_ _
                refine at_world (R := fun W => RS _ _ _ W ((C : Int), (D : Int), (q : Int)) _ hl ∧ Below w.heap.size w W) (rs_end HM.out) ?_
                clear x0 x1 x2 y0 fz0 fz1 fz2 fy0 hl1 hl2 HM hHeld
                rintro W ⟨hRS, hBB⟩
                have f0 := hRS.c0
                have f1 := hRS.c1
                have HRS := Lib.hid hRS
                have HBB := Lib.hid hBB
                clear hRS hBB
                go_wp2_with fail
                refine (CL.out _ _ _ _ _ HRS.out).mono ?_
                rintro e w9 ⟨rfl, b9⟩
                obtain ⟨z, hz⟩ : ∃ z, z = rspO ts os i := ⟨_, rfl⟩
                rw [← hz]
                have HZ := Lib.hid hz
                clear hz
                cases z with
                | none =>
                  unfold lfpV
                  go_wp2
                  go_ret2
                  exact ⟨by rw [← HZ.out]; rfl, HBB.out.trans (b9.mono HBB.out.size)⟩
                | some z =>
                  unfold lfpV
                  go_wp2
                  go_ret2
                  exact ⟨by rw [← HZ.out]; rfl, HBB.out.trans (b9.mono HBB.out.size)⟩
              exact AllReadyH.nil
            exact AllReadyH.nil
          exact AllReadyH.nil
        exact AllReadyH.nil
      exact AllReadyH.nil


end Go.Proofs.YtdgihkmiolnglaaGreatDoor
