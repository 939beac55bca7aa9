/- The program's CheckSchedule: errors.As at the first violation's error, and impl9. Conditions: the variable errors.errorType holds what it is laid with; the slices hold what is said. -/
import Derived.Test.YtdhdodmpfbgliaaDoorChkFst
import Derived.Test.YtdhdodmpfbgliaaDoorErrAs
namespace Go.Proofs.YtdhdodmpfbgliaaDoor
open Go.RowKit Go.Deep

theorem ErrG.keep {w w' : World} (h : ErrG w) (hb : Below w.heap.size w w') : ErrG w' := (hb.cell (p := ⟨0, 0, none⟩) (World.block_lt_of_cell? w ⟨0, 0, none⟩ h)).trans h

theorem below_sets {B : Nat} {a : World} (t : Nat) (ht : B ≤ t) : ∀ (cs : List Value) (o : Nat) (W : World), Below B a W → Below B a (W.setCells t o cs)
  | [], _, _, h => h
  | v :: r, o, W, h => below_sets t ht r (o + 1) (W.setCell ⟨t, o, none⟩ v) (h.setCell (p := ⟨t, o, none⟩) ht v)

theorem ckF_ge {js : List J4} {r : Nat → Int} : ∀ {n now : Nat}, (ckF js r n now).1 ≠ 0 → 3 ≤ (ckF js r n now).1
  | 0, _, h => absurd rfl h
  | n + 1, now, h => by
    simp only [ckF] at h ⊢
    split
    · rename_i h1
      rw [if_pos h1] at h
      exact ckF_ge h
    · rename_i h1
      exact ckG_ge h1
theorem ck9_tick {ts : List T3} {js : List J4} {n : Nat} {r : Nat → Int} (h : (ck9 ts js n r).1 ≤ 2) : (ck9 ts js n r).2 = 0 := by
  by_cases h0 : (ck9 ts js n r).1 = 0
  · exact (ck9_bd ts js n r).2.2 h0
  · unfold ck9 at h h0 ⊢
    split
    · rename_i h1
      rw [if_pos h1] at h h0
      split
      · rename_i h2
        rw [if_pos h2] at h h0
        have := ckF_ge h0
        omega
      · rfl
    · rfl

/-- The error of a code and a tick. -/
def fvP (p : Nat × Nat) : Value :=
  if p.1 = 0 then .nilIface
  else if p.1 ≤ 2 then .iface 69 (.agg #[.int .i64 (p.1 : Nat)])
  else .iface 73 (.agg #[.int .i64 (p.2 : Nat), .iface 69 (.agg #[.int .i64 (p.1 : Nat)])])
theorem fv9_fvP (ts : List T3) (js : List J4) (n : Nat) (r : Nat → Int) : fv9 ts js n r = fvP (ck9 ts js n r) := rfl

theorem there_new (w : World) (cs : Array Value) (ty : TypeId) : (w.alloc (.cells cs ty)).there w.heap.size 0 cs.size := fun j hj => by
  refine ⟨?_, ?_⟩
  · rw [World.cell?_alloc_at _ _ _ _ rfl]; simp [hj]
  · exact World.frozen?_alloc_at _ _ _ _ rfl

theorem chain3 {w : World} {t : Nat} (h : t < w.heap.size) (o1 o2 o3 : Obj) : Below t w (((w.alloc o1).alloc o2).alloc o3) :=
  (((Below.refl t w).alloc (by omega) _).alloc (by simp; omega) _).alloc (by simp; omega) _
theorem chain4 {w : World} {t : Nat} (h : t < w.heap.size) (o1 o2 o3 o4 : Obj) : Below t w ((((w.alloc o1).alloc o2).alloc o3).alloc o4) := (chain3 h o1 o2 o3).alloc (by simp; omega) _
theorem chain5 {w : World} {t : Nat} (h : t < w.heap.size) (o1 o2 o3 o4 o5 : Obj) : Below t w (((((w.alloc o1).alloc o2).alloc o3).alloc o4).alloc o5) := (chain4 h o1 o2 o3 o4).alloc (by simp; omega) _
theorem chain4t {w : World} {t n : Nat} (h : t < w.heap.size) (ht : w.there t 0 n) (o1 o2 o3 o4 : Obj) : ((((w.alloc o1).alloc o2).alloc o3).alloc o4).there t 0 n :=
  there_alloc (there_alloc (there_alloc (there_alloc ht h) (by simp; omega)) (by simp; omega)) (by simp; omega)
theorem chain5t {w : World} {t n : Nat} (h : t < w.heap.size) (ht : w.there t 0 n) (o1 o2 o3 o4 o5 : Obj) : (((((w.alloc o1).alloc o2).alloc o3).alloc o4).alloc o5).there t 0 n :=
  there_alloc (chain4t h ht o1 o2 o3 o4) (by simp; omega)

/-- errors.As at the variable for the code. -/
theorem as_code (p : Nat × Nat) (t : Nat) (w : World) (hg : ErrG w) (h0 : w.cell? ⟨t, 0, none⟩ = some (.int .i64 0)) (ht : w.there t 0 1) :
    Calls Tryd.prog 38 #[fvP p, .iface 71 (.pointer (some ⟨t, 0, none⟩))] w fun e w' =>
      (∃ b, e = .returned (.bool b)) ∧ Below t w w' ∧ w.heap.size ≤ w'.heap.size ∧ w'.cell? ⟨t, 0, none⟩ = some (.int .i64 (p.1 : Nat)) := by
  have htl := there_lt ht
  by_cases h1 : p.1 = 0
  · rw [show fvP p = .nilIface from if_pos h1, h1]
    refine (as_none _ w).mono ?_
    rintro e w' ⟨rfl, rfl⟩
    exact ⟨⟨_, rfl⟩, Below.refl _ _, Nat.le_refl _, h0⟩
  · by_cases h2 : p.1 ≤ 2
    · rw [show fvP p = .iface 69 (.agg #[.int .i64 (p.1 : Nat)]) by unfold fvP; rw [if_neg h1, if_pos h2]]
      refine (as_ownV (p.1 : Nat) t w hg ht).mono ?_
      rintro e w' ⟨rfl, rfl⟩
      exact ⟨⟨_, rfl⟩, (below_sets t (Nat.le_refl _) _ 0 _ (chain4 htl _ _ _ _)), (below_sets t (Nat.le_refl _) _ 0 _ (chain4 htl _ _ _ _)).size, World.rangeAt_setCells_same _ t 0 _ (chain4t htl ht _ _ _ _) 0 _ rfl⟩
    · rw [show fvP p = .iface 73 (.agg #[.int .i64 (p.2 : Nat), .iface 69 (.agg #[.int .i64 (p.1 : Nat)])]) by unfold fvP; rw [if_neg h1, if_neg h2]]
      refine (as_wrap (p.2 : Nat) (p.1 : Nat) t w hg ht).mono ?_
      rintro e w' ⟨rfl, rfl⟩
      exact ⟨⟨_, rfl⟩, (below_sets t (Nat.le_refl _) _ 0 _ (chain5 htl _ _ _ _ _)), (below_sets t (Nat.le_refl _) _ 0 _ (chain5 htl _ _ _ _ _)).size, World.rangeAt_setCells_same _ t 0 _ (chain5t htl ht _ _ _ _ _) 0 _ rfl⟩

/-- errors.As at the variable for the tick. -/
theorem as_tick (p : Nat × Nat) (hp : p.1 ≤ 2 → p.2 = 0) (t : Nat) (w : World) (hg : ErrG w) (h0 : w.cell? ⟨t, 0, none⟩ = some (.int .i64 0)) (ht : w.there t 0 2) :
    Calls Tryd.prog 38 #[fvP p, .iface 74 (.pointer (some ⟨t, 0, none⟩))] w fun e w' =>
      (∃ b, e = .returned (.bool b)) ∧ Below t w w' ∧ w.heap.size ≤ w'.heap.size ∧ w'.cell? ⟨t, 0, none⟩ = some (.int .i64 (p.2 : Nat)) := by
  have htl := there_lt ht
  by_cases h1 : p.1 = 0
  · rw [show fvP p = .nilIface from if_pos h1, hp (by omega)]
    refine (as_none _ w).mono ?_
    rintro e w' ⟨rfl, rfl⟩
    exact ⟨⟨_, rfl⟩, Below.refl _ _, Nat.le_refl _, h0⟩
  · by_cases h2 : p.1 ≤ 2
    · rw [show fvP p = .iface 69 (.agg #[.int .i64 (p.1 : Nat)]) by unfold fvP; rw [if_neg h1, if_pos h2], hp h2]
      refine (as_not (p.1 : Nat) t w hg ht).mono ?_
      rintro e w' ⟨rfl, rfl⟩
      exact ⟨⟨_, rfl⟩, chain3 htl _ _ _, (chain3 htl _ _ _).size, by rw [World.cell?_alloc_lt _ _ ⟨t, 0, none⟩ (by simp; omega), World.cell?_alloc_lt _ _ ⟨t, 0, none⟩ (by simp; omega), World.cell?_alloc_lt _ _ ⟨t, 0, none⟩ htl]; exact h0⟩
    · rw [show fvP p = .iface 73 (.agg #[.int .i64 (p.2 : Nat), .iface 69 (.agg #[.int .i64 (p.1 : Nat)])]) by unfold fvP; rw [if_neg h1, if_neg h2]]
      refine (as_ownK (p.2 : Nat) (p.1 : Nat) t w hg ht).mono ?_
      rintro e w' ⟨rfl, rfl⟩
      exact ⟨⟨_, rfl⟩, (below_sets t (Nat.le_refl _) _ 0 _ (chain4 htl _ _ _ _)), (below_sets t (Nat.le_refl _) _ 0 _ (chain4 htl _ _ _ _)).size, World.rangeAt_setCells_same _ t 0 _ (chain4t htl ht _ _ _ _) 0 _ rfl⟩

set_option maxRecDepth 100000 in
set_option maxHeartbeats 4000000 in
/-- impl.CheckSchedule. -/
theorem checkSchedule_any (a ja ra : Option Addr) (cap jcap rcap n : Nat) (ts : List T3) (js : List J4) (r : Nat → Int) (w : World) (hG : ErrG w) (hr : Row w a ts) (hj : RowJ w ja js) (hx : IntF w ra n r) (hn : ts.length ≤ 1099511627776) (hjn : js.length ≤ 1099511627776) (hrn : n ≤ 1099511627776) :
    Calls Tryd.prog 12 #[.slice a ts.length cap, .slice ja js.length jcap, .slice ra n rcap] w (ChkAns w (ck9 ts js n r)) := by
  have HH := Lib.hid (And.intro hG (And.intro hr (And.intro hj hx)))
  clear hG hr hj hx
  go_enter Tryd.func12, Tryd.ntmps12
  go_wp2_with fail
  refine (firstViolation_any a ja ra cap jcap rcap n ts js r w HH.out.2.1 HH.out.2.2.1 HH.out.2.2.2 hn hjn hrn).mono ?_
  rintro e w1 ⟨rfl, b1⟩
  rw [fv9_fvP]
  obtain ⟨p, hp⟩ : ∃ p, p = ck9 ts js n r := ⟨_, rfl⟩
  have HP := Lib.hid (show p.1 ≤ 2 → p.2 = 0 from fun h => by rw [hp] at h ⊢; exact ck9_tick h)
  have HPP := Lib.hid hp
  rw [← hp]
  have HB1 := Lib.hid b1
  clear b1 hp
  obtain ⟨V, hV⟩ : ∃ V, V = fvP p := ⟨_, rfl⟩
  rw [← hV]
  have HV := Lib.hid hV
  have HT := Lib.hid (there_new w1 #[.int .i64 0] 69)
  have HB2 := Lib.hid (HB1.out.alloc HB1.out.size (.cells #[.int .i64 0] 69))
  have HC2 := Lib.hid (show (w1.alloc (.cells #[.int .i64 0] 69)).cell? ⟨w1.heap.size, 0, none⟩ = some (.int .i64 0) by simp [go_sem])
  have hs2 : w1.heap.size < (w1.alloc (.cells #[.int .i64 0] 69)).heap.size := by simp
  clear hV
  go_wp2_with fail
  generalize hW2 : w1.alloc (.cells #[.int .i64 0] 69) = w2
  rw [hW2] at HT HB2 HC2 hs2
  have AC := as_code p w1.heap.size w2 (HH.out.1.keep HB2.out) HC2.out HT.out
  rw [← HV.out] at AC
  refine AC.mono ?_
  rintro e w3 ⟨⟨b, rfl⟩, b3, hs3, c3⟩
  have HB3 := Lib.hid (HB2.out.trans (b3.mono HB1.out.size))
  have hs13 : w1.heap.size < w3.heap.size := Nat.lt_of_lt_of_le hs2 hs3
  have HT3 := Lib.hid (there_new w3 #[.int .i64 0, .nilIface] 73)
  have HB4 := Lib.hid (HB3.out.alloc HB3.out.size (.cells #[.int .i64 0, .nilIface] 73))
  have HC4 := Lib.hid (show (w3.alloc (.cells #[.int .i64 0, .nilIface] 73)).cell? ⟨w3.heap.size, 0, none⟩ = some (.int .i64 0) by simp [go_sem])
  have HD4 := Lib.hid (((below_box w3 (.cells #[.int .i64 0, .nilIface] 73)).cell (p := ⟨w1.heap.size, 0, none⟩) hs13).trans c3)
  clear hW2 AC HT HC2 c3 b3
  go_wp2_with fail
  generalize hW4 : w3.alloc (.cells #[.int .i64 0, .nilIface] 73) = w4
  rw [hW4] at HT3 HB4 HC4 HD4
  have AT := as_tick p HP.out w3.heap.size w4 (HH.out.1.keep HB4.out) HC4.out HT3.out
  rw [← HV.out] at AT
  refine AT.mono ?_
  rintro e w5 ⟨⟨b', rfl⟩, b5, hs5, c5⟩
  have d5 := (b5.cell (p := ⟨w1.heap.size, 0, none⟩) hs13).trans HD4.out
  have HB5 := Lib.hid (HB4.out.trans (b5.mono HB3.out.size))
  clear hW4 AT b5 HT3 HC4
  go_wp2
  go_quiet (fail)
  go_wp2
  go_ret2
  exact ⟨by rw [← HPP.out]; rfl, below_drewN' HB5.out _⟩

/-- The program's CheckSchedule is as the laws ask. -/
theorem impl9 : Impl9 ErrG := ⟨fun h hb => h.keep hb, fun a ja ra cap jcap rcap n ts js r w hG hr hj hx hn hjn hrn => checkSchedule_any a ja ra cap jcap rcap n ts js r w hG hr hj hx hn hjn hrn⟩

end Go.Proofs.YtdhdodmpfbgliaaDoor
