/- Contracts of the functions that draw a task set: spec.l20Set and, by it, spec.DrawSetValid, spec.DrawHyperperiod, spec.DrawUtilization. What is drawn is not told, only that it is a slice of at most 12 tasks in new memory. Conditions: the reader's two cells are as they should be; its place is at most 8*10^8. -/
import Derived.Test.YtdgihkmiolnglaaGreatDoorDraw
import Derived.Test.YtdgihkmiolnglaaGreatDoorCopy
import Derived.OwnWalk
namespace Go.Proofs.YtdgihkmiolnglaaGreatDoor
open Go.RowKit Go.Deep

def flat (ts : List (Int × Int × Int)) : List Value := ts.flatMap fun t => [.int .i64 t.1, .int .i64 t.2.1, .int .i64 t.2.2]
theorem flat_length (ts : List (Int × Int × Int)) : (flat ts).length = ts.length * 3 := by
  induction ts with
  | nil => rfl
  | cons t ts ih => simp only [flat, List.flatMap_cons, List.length_append, List.length_cons, List.length_nil] at ih ⊢; omega
theorem flat_snoc (ts : List (Int × Int × Int)) (c d p : Int) : flat (ts ++ [(c, d, p)]) = flat ts ++ [.int .i64 c, .int .i64 d, .int .i64 p] := by simp [flat]
theorem flat_at (ts : List (Int × Int × Int)) : ∀ (k : Nat) (t : Int × Int × Int), ts[k]? = some t → (flat ts)[k * 3]? = some (.int .i64 t.1) ∧ (flat ts)[k * 3 + 1]? = some (.int .i64 t.2.1) ∧ (flat ts)[k * 3 + 2]? = some (.int .i64 t.2.2) := by
  induction ts with
  | nil => intro k t h; simp at h
  | cons x ts ih =>
    intro k t h
    cases k with
    | zero => simp at h; subst h; simp [flat]
    | succ k =>
      have := ih k t (by simpa using h)
      have e : (k + 1) * 3 = k * 3 + 3 := by omega
      rw [e]
      simp only [flat, List.flatMap_cons] at this ⊢
      simpa using this

/-- The tasks ts lie, one behind the other, in memory of the call's own (blocks from base on). -/
def Own (w : World) (base : Nat) (v : Value) (ts : List (Int × Int × Int)) : Prop := w.ownsRow base 29 3 v ts.length (flat ts)

theorem Own.row {w : World} {base : Nat} {v : Value} {ts : List (Int × Int × Int)} (h : Own w base v ts) : ∃ a cap, v = .slice a ts.length cap ∧ Row w a ts ∧ ts.length ≤ cap ∧ cap ≤ maxLen := by
  obtain ⟨_, ⟨rfl, hn⟩ | ⟨g, cap, cur, rfl, _, hb, hnc, hcm, hsz, hx⟩⟩ := h
  · refine ⟨none, 0, by rw [hn], fun k t hk => ?_, by omega, by simp [maxLen]⟩
    rw [List.length_eq_zero_iff.1 hn] at hk
    simp at hk
  · refine ⟨some ⟨g, 0, none⟩, cap, rfl, fun k t hk => ?_, hnc, hcm⟩
    have hlt : k < ts.length := (List.getElem?_eq_some_iff.1 hk).1
    obtain ⟨h0, h1, h2⟩ := flat_at ts k t hk
    have hg : g < w.heap.size := (Array.getElem?_eq_some_iff.1 hb).1
    have hcell : ∀ j, j < ts.length * 3 → w.cell? ⟨g, j, none⟩ = (flat ts)[j]? := by
      intro j hj
      rw [← hx, List.getElem?_take_of_lt hj, Array.getElem?_toList]
      simp [World.cell?, hb]
    refine ⟨g, 0, rfl, hg, ?_, ?_, ?_⟩
    · rw [Nat.zero_add, hcell _ (by omega), h0]
    · rw [Nat.zero_add, hcell _ (by omega), h1]
    · rw [Nat.zero_add, hcell _ (by omega), h2]

/-- Drawn so far. -/
structure Sofar (w : World) (rb q : Nat) (v : Value) (ts : List (Int × Int × Int)) (wr : World) : Prop where
  gb : w.grownBy wr (some rb)
  rd : Rd wr rb q
  own : Own wr w.heap.size v ts
  lt : rb < w.heap.size
  nn : v ≠ .slice none 0 0

theorem Own.notNil {w : World} {base : Nat} {v : Value} {ts : List (Int × Int × Int)} (h : Own w base v ts) (hn : v ≠ .slice none 0 0) : ∃ g cap, v = .slice (some ⟨g, 0, none⟩) ts.length cap := by
  obtain ⟨_, ⟨rfl, _⟩ | ⟨g, cap, cur, rfl, _⟩⟩ := h
  · exact absurd rfl hn
  · exact ⟨g, cap, rfl⟩

def SetDrawn (rb p : Nat) (w : World) (e : Ending) (w' : World) : Prop :=
  ∃ (a : Option Addr) (cap : Nat) (ts : List (Int × Int × Int)), e = .returned (.slice a ts.length cap) ∧ ts.length ≤ 12 ∧ ts.length ≤ cap ∧ cap ≤ maxLen ∧ Row w' a ts ∧ w.grownBy w' (some rb) ∧ Rd w' rb (p + 200) ∧ ∃ g, a = some ⟨g, 0, none⟩

theorem Sofar.start {w w1 : World} {rb q : Nat} (hlt : rb < w.heap.size) (hg : (w.alloc (.cells #[] 29)).grownBy w1 (some rb)) (hr : Rd w1 rb q) : Sofar w rb q (.slice (some ⟨w.heap.size, 0, none⟩) 0 0) [] w1 :=
  ⟨gb_trans (gb_below (below_box _ _)) hg, hr, ⟨rfl, .inr ⟨w.heap.size, 0, #[], rfl, Nat.le_refl _, by
    rw [hg.block w.heap.size (by simp) (by simp; omega)]
    exact blk_alloc_new _ _, Nat.le_refl _, by simp [maxLen], rfl, rfl⟩⟩, hlt, by simp⟩
theorem Sofar.task {w wr wt : World} {rb q q' : Nat} {v : Value} {ts : List (Int × Int × Int)} (h : Sofar w rb q v ts wr) (hg : wr.grownBy wt (some rb)) (hr : Rd wt rb q') : Sofar w rb q' v ts wt :=
  ⟨gb_trans h.gb hg, hr, h.own.kept hg (by
    obtain ⟨_, ⟨rfl, _⟩ | ⟨g, cap, cur, rfl, hb, _⟩⟩ := h.own
    · exact .inl rfl
    · right
      have := h.lt
      simp only [Value.ownBlock, ne_eq, Option.some.injEq]
      omega), h.lt, h.nn⟩
theorem Sofar.alloc {w wr : World} {rb q : Nat} {v : Value} {ts : List (Int × Int × Int)} (h : Sofar w rb q v ts wr) (o : Obj) : Sofar w rb q v ts (wr.alloc o) := ⟨gb_alloc h.gb o, h.rd.alloc o, World.ownsRow.alloc h.own o, h.lt, h.nn⟩
theorem own_ge {w wr : World} {rb q : Nat} {v : Value} {ts : List (Int × Int × Int)} (h : Sofar w rb q v ts wr) : ∀ k, v.ownBlock = some k → w.heap.size ≤ k := by
  intro k hk
  obtain ⟨_, ⟨rfl, _⟩ | ⟨g, cap, cur, rfl, hb, _⟩⟩ := h.own
  · simp [Value.ownBlock] at hk
  · simp only [Value.ownBlock, Option.some.injEq] at hk
    omega
theorem Sofar.push {w wr wx : World} {rb q : Nat} {v v' : Value} {ts : List (Int × Int × Int)} {c d p : Int} (h : Sofar w rb q v ts wr)
    (hown : wx.ownsRow w.heap.size 29 3 v' (ts.length + 1) (flat ts ++ [.int .i64 c, .int .i64 d, .int .i64 p])) (hg : wr.grownBy wx v.ownBlock) (hnn : v' ≠ .slice none 0 0) : Sofar w rb q v' (ts ++ [(c, d, p)]) wx := by
  have hge := own_ge h
  have hlt := h.lt
  refine ⟨⟨hg.os.trans h.gb.os, hg.tape.trans h.gb.tape, hg.output.trans h.gb.output, Nat.le_trans h.gb.size hg.size, fun i hi hne => (hg.block i (Nat.lt_of_lt_of_le hi h.gb.size) ?_).trans (h.gb.block i hi hne)⟩, h.rd.kept hg.size fun i hi => hg.block i (by have := h.rd.lt; omega) ?_, ?_, h.lt, hnn⟩
  · intro e; have := hge i e.symm; omega
  · intro e; have := hge i e.symm; omega
  · show wx.ownsRow _ _ _ _ _ _
    rw [List.length_append, flat_snoc]
    exact hown
theorem news3 (w : World) (c d p : Int) (t : TypeId) : ∀ (j : Nat) (u : Value), [Value.int .i64 c, .int .i64 d, .int .i64 p][j]? = some u → (w.alloc (.cells #[.int .i64 c, .int .i64 d, .int .i64 p] t)).cell? ((⟨w.heap.size, 0, none⟩ : Addr).add j) = some u := by
  intro j u hj
  match j, hj with
  | 0, hj => simp at hj; subst hj; simp [Addr.add, go_sem]
  | 1, hj => simp at hj; subst hj; simp [Addr.add, go_sem]
  | 2, hj => simp at hj; subst hj; simp [Addr.add, go_sem]
  | j + 3, hj => simp at hj
theorem one3 (c d p : Int) : ∀ u ∈ [Value.int .i64 c, .int .i64 d, .int .i64 p], u.oneCell' = true := by
  intro u hu
  simp at hu
  rcases hu with rfl | rfl | rfl <;> rfl

theorem sv_of {ts : List (Int × Int × Int)} (h : ts.all tv = true) (hl : ts.length ≤ 5) : svB ts = true := by simp [svB, h, hl]

set_option maxHeartbeats 1000000 in
/-- spec.l20Set; a valid one, if n is 0; where it lies. -/
theorem l20Set_full (rb p : Nat) (n : Int) (w : World) (hr : Rd w rb p) (hp : p ≤ 800000000) :
    Calls Tryz.prog 19 #[.pointer (some ⟨rb, 0, none⟩), .int .i64 n] w fun e w' =>
      ∃ (a : Option Addr) (cap : Nat) (ts : List (Int × Int × Int)), e = .returned (.slice a ts.length cap) ∧ ts.length ≤ 12 ∧ ts.length ≤ cap ∧ cap ≤ maxLen ∧ Row w' a ts ∧ w.grownBy w' (some rb) ∧ Rd w' rb (p + 200) ∧ (∃ g, a = some ⟨g, 0, none⟩ ∧ w.heap.size ≤ g) ∧ (n ≤ 0 → svB ts = true) := by
  obtain ⟨i0, hi, hz, hsz, hby⟩ := info_parts taskInfo
  have HI := Lib.hid (And.intro hi (And.intro hz (And.intro hsz hby)))
  clear hi hz hsz hby
  have hlt := hr.lt
  have HR := Lib.hid hr
  clear hr
  go_enter Tryz.func19, Tryz.ntmps19
  go_wp2_with fail
  refine (pick_any rb p 6 _ (HR.out.alloc _) (by omega)).mono ?_
  rintro e w1 ⟨v, rfl, v0, v1, _, hg1, hr1⟩
  have vp := v1 (by decide)
  have HS := Lib.hid (Sofar.start hlt hg1 hr1)
  obtain ⟨nv, rfl⟩ := Int.eq_ofNat_of_zero_le v0
  clear hg1 hr1 v1 v0 HR
  go_wp2_with fail
  go_loopg [5, 6] nv (fun m s i wr => ∃ (ts : List (Int × Int × Int)), ts.length + m ≤ 5 ∧ i = .int .i64 m ∧ ts.all tv = true ∧ Sofar w rb (p + 1 + 10 * ts.length) s ts wr)
  case atStart => exact ⟨[], by simp; omega, rfl, rfl, HS.out⟩
  case round =>
    clear HS
    obtain ⟨ts, hlen, rfl, hall, hs⟩ := hrel
    have HALL := Lib.hid hall
    clear hall
    have HS := Lib.hid hs
    clear hs
    by_cases hk : 0 < gk
    · have hk' : (0 : Int) < gk := by omega
      go_wp2_with fail
      refine (l20Task_full rb _ 0 _ HS.out.rd (by omega)).mono ?_
      rintro e wt ⟨c, d, t, rfl, hgt, hrt, hcv⟩
      have HCV := Lib.hid (hcv (by decide))
      clear hcv
      have HT := Lib.hid (HS.out.task hgt hrt)
      clear hgt hrt
      go_wp2_with (at_builtin; refine wpList_append_own _ rfl (.tmp 14) (.tmp 17) 27 rfl w.heap.size 29 i0 _ 3 24 Tryz.underlying27 HI.out.1 HI.out.2.1 HI.out.2.2.1 HI.out.2.2.2 rfl (by decide) _ ts.length (flat ts) rfl (HT.out.alloc _).own ⟨wt.heap.size, 0, none⟩ 1 1 [.int .i64 c, .int .i64 d, .int .i64 t] rfl rfl (news3 _ _ _ _ _) (one3 _ _ _) (by unfold maxLen; omega) (by omega) (HT.out.alloc _).gb.size ?_; intro v' w' hown' hgrow hnil)
      have HP := Lib.hid ((HT.out.alloc _).push hown' hgrow (fun e => by have := (hnil.1 e).2; omega))
      clear hown' hgrow hnil
      go_roundg (gk - 1)
      case measure => omega
      case rel => exact ⟨ts ++ [(c, d, t)], by simp; omega, by go_num, by rw [List.all_append, HALL.out]; simpa [tv] using HCV.out, by simpa [Nat.mul_add, Nat.add_assoc] using HP.out⟩
    · obtain rfl : gk = 0 := by omega
      go_wp2_with fail
      refine (odd_full rb _ n _ HS.out.rd (by omega)).mono ?_
      rintro e wo ⟨bo, rfl, hgo, hro, hbo⟩
      have HBO := Lib.hid hbo
      clear hbo
      have HS1 := Lib.hid (HS.out.task hgo hro)
      clear hgo hro HS
      cases bo with
      | false =>
        go_wp2
        go_ret
        obtain ⟨a, cap, ha, hrow, hlc, hcm⟩ := HS1.out.own.row
        obtain ⟨g, _, hg⟩ := HS1.out.own.notNil HS1.out.nn
        exact ⟨a, cap, ts, by rw [← ha]; rfl, by omega, hlc, hcm, hrow, HS1.out.gb, HS1.out.rd.mono (by omega), ⟨g, by rw [ha] at hg; simp only [Value.slice.injEq] at hg; exact hg.1, own_ge HS1.out g (by rw [hg]; rfl)⟩, fun _ => sv_of HALL.out (by omega)⟩
      | true =>
        go_wp2_with fail
        refine (pick_any rb _ 3 _ HS1.out.rd (by omega)).mono ?_
        rintro e we ⟨x, rfl, x0, x1, _, hge, hre⟩
        have HS := Lib.hid (HS1.out.task hge hre)
        clear hge hre HS1 x1
        by_cases e0 : x = 0
        · subst e0
          go_wp2_with fail
          go_loopg [5] (6 - ts.length) (fun m s wr => ∃ (us : List (Int × Int × Int)) (a : Option Addr) (cap : Nat), us.length + m = 6 ∧ s = .slice a us.length cap ∧ Sofar w rb (p + 3 + 10 * us.length) s us wr)
          case atStart =>
            obtain ⟨a, cap, ha, _⟩ := HS.out.own.row
            exact ⟨ts, a, cap, by omega, ha, by have h := HS.out; exact ⟨h.gb, h.rd.mono (by omega), h.own, h.lt, h.nn⟩⟩
          case round =>
            clear HS
            obtain ⟨us, a0, cap0, hlen2, rfl, hs⟩ := hrel
            have HL := Lib.hid hlen2
            have HS := Lib.hid hs
            have hus : us.length ≤ 6 := by omega
            clear hs hlen2
            by_cases hk : us.length ≤ 5
            · have hk' : (us.length : Int) ≤ 5 := by omega
              go_wp2_with fail
              refine (l20Task_any rb _ 0 _ HS.out.rd (by omega)).mono ?_
              rintro e wt ⟨c, d, t, rfl, hgt, hrt⟩
              have HT := Lib.hid (HS.out.task hgt hrt)
              clear hgt hrt
              go_wp2_with (at_builtin; refine wpList_append_own _ rfl (.tmp 28) (.tmp 31) 27 rfl w.heap.size 29 i0 _ 3 24 Tryz.underlying27 HI.out.1 HI.out.2.1 HI.out.2.2.1 HI.out.2.2.2 rfl (by decide) _ us.length (flat us) rfl (HT.out.alloc _).own ⟨wt.heap.size, 0, none⟩ 1 1 [.int .i64 c, .int .i64 d, .int .i64 t] rfl rfl (news3 _ _ _ _ _) (one3 _ _ _) (by unfold maxLen; omega) (by omega) (HT.out.alloc _).gb.size ?_; intro v' w' hown' hgrow hnil)
              have HP := Lib.hid ((HT.out.alloc _).push hown' hgrow (fun e => by have := (hnil.1 e).2; omega))
              clear hown' hgrow hnil
              obtain ⟨a2, cap2, ha2, _⟩ := HP.out.own.row
              go_roundg (gk - 1)
              case measure => have := HL.out; omega
              case rel => exact ⟨us ++ [(c, d, t)], a2, cap2, by have := HL.out; simp; omega, ha2, by simpa [Nat.mul_add, Nat.add_assoc] using HP.out⟩
            · have hk' : ¬ (us.length : Int) ≤ 5 := by omega
              go_wp2_with fail
              refine (l20Task_any rb _ 2 _ HS.out.rd (by omega)).mono ?_
              rintro e wt ⟨c, d, t, rfl, hgt, hrt⟩
              have HT := Lib.hid (HS.out.task hgt hrt)
              clear hgt hrt
              go_wp2_with (at_builtin; refine wpList_append_own _ rfl (.tmp 33) (.tmp 36) 27 rfl w.heap.size 29 i0 _ 3 24 Tryz.underlying27 HI.out.1 HI.out.2.1 HI.out.2.2.1 HI.out.2.2.2 rfl (by decide) _ us.length (flat us) rfl (HT.out.alloc _).own ⟨wt.heap.size, 0, none⟩ 1 1 [.int .i64 c, .int .i64 d, .int .i64 t] rfl rfl (news3 _ _ _ _ _) (one3 _ _ _) (by unfold maxLen; omega) (by omega) (HT.out.alloc _).gb.size ?_; intro v' w' hown' hgrow hnil)
              have HP := Lib.hid ((HT.out.alloc _).push hown' hgrow (fun e => by have := (hnil.1 e).2; omega))
              clear hown' hgrow hnil
              obtain ⟨a, cap, ha, hrow, hlc, hcm⟩ := HP.out.own.row
              obtain ⟨g, _, hg⟩ := HP.out.own.notNil HP.out.nn
              go_ret
              exact ⟨a, cap, us ++ [(c, d, t)], by rw [← ha]; rfl, by simp; omega, hlc, hcm, hrow, HP.out.gb, HP.out.rd.mono (by omega), ⟨g, by rw [ha] at hg; simp only [Value.slice.injEq] at hg; exact hg.1, own_ge HP.out g (by rw [hg]; rfl)⟩, fun h => absurd (HBO.out h) (by decide)⟩
        · have e0' : (x == 0) = false := by simpa using e0
          clear e0
          go_wp2_with fail
          refine (l20Task_any rb _ 2 _ HS.out.rd (by omega)).mono ?_
          rintro e wt ⟨c, d, t, rfl, hgt, hrt⟩
          have HT := Lib.hid (HS.out.task hgt hrt)
          clear hgt hrt
          go_wp2_with (at_builtin; refine wpList_append_own _ rfl (.tmp 33) (.tmp 36) 27 rfl w.heap.size 29 i0 _ 3 24 Tryz.underlying27 HI.out.1 HI.out.2.1 HI.out.2.2.1 HI.out.2.2.2 rfl (by decide) _ ts.length (flat ts) rfl (HT.out.alloc _).own ⟨wt.heap.size, 0, none⟩ 1 1 [.int .i64 c, .int .i64 d, .int .i64 t] rfl rfl (news3 _ _ _ _ _) (one3 _ _ _) (by unfold maxLen; omega) (by omega) (HT.out.alloc _).gb.size ?_; intro v' w' hown' hgrow hnil)
          have HP := Lib.hid ((HT.out.alloc _).push hown' hgrow (fun e => by have := (hnil.1 e).2; omega))
          clear hown' hgrow hnil
          obtain ⟨a, cap, ha, hrow, hlc, hcm⟩ := HP.out.own.row
          obtain ⟨g, _, hg⟩ := HP.out.own.notNil HP.out.nn
          go_ret
          exact ⟨a, cap, ts ++ [(c, d, t)], by rw [← ha]; rfl, by simp; omega, hlc, hcm, hrow, HP.out.gb, HP.out.rd.mono (by omega), ⟨g, by rw [ha] at hg; simp only [Value.slice.injEq] at hg; exact hg.1, own_ge HP.out g (by rw [hg]; rfl)⟩, fun h => absurd (HBO.out h) (by decide)⟩
theorem l20Set_any (rb p : Nat) (n : Int) (w : World) (hr : Rd w rb p) (hp : p ≤ 800000000) :
    Calls Tryz.prog 19 #[.pointer (some ⟨rb, 0, none⟩), .int .i64 n] w (SetDrawn rb p w) :=
  (l20Set_full rb p n w hr hp).mono fun _ _ ⟨a, cap, ts, h1, h2, h3, h4, h5, h6, h7, ⟨g, h8, _⟩, _⟩ => ⟨a, cap, ts, h1, h2, h3, h4, h5, h6, h7, g, h8⟩

/-- A task set was drawn. -/
def GotSet (w : World) (e : Ending) (w' : World) : Prop :=
  ∃ (a : Option Addr) (cap : Nat) (ts : List (Int × Int × Int)), e = .returned (.slice a ts.length cap) ∧ ts.length ≤ 12 ∧ ts.length ≤ cap ∧ cap ≤ maxLen ∧ Row w' a ts ∧ Below w.heap.size w w'

/-- A task set was drawn, and it is not nil. -/
def GotSome (w : World) (e : Ending) (w' : World) : Prop :=
  ∃ (g cap : Nat) (ts : List (Int × Int × Int)), e = .returned (.slice (some ⟨g, 0, none⟩) ts.length cap) ∧ ts.length ≤ 12 ∧ ts.length ≤ cap ∧ cap ≤ maxLen ∧ Row w' (some ⟨g, 0, none⟩) ts ∧ Below w.heap.size w w'

end Go.Proofs.YtdgihkmiolnglaaGreatDoor
