/- Contracts of the functions that draw a task: (*spec.l20Rd).odd, spec.l20Open, spec.l20Task. What is drawn is not told. Conditions: the reader's two cells are as they should be; its place is at most 5*10^8. -/
import Derived.Test.YtdgihkmiolnglaaGreatDoorRead
import Derived.Deep.RegionHeld3
import Derived.Deep.DeepCutAuto
namespace Go.Proofs.YtdgihkmiolnglaaGreatDoor
open Go.RowKit

def Odded (rb p : Nat) (w : World) (e : Ending) (w' : World) : Prop :=
  ∃ b : Bool, e = .returned (.bool b) ∧ w.grownBy w' (some rb) ∧ Rd w' rb (p + 1)

/-- (*spec.l20Rd).odd; never, if n is 0. -/
theorem odd_full (rb p : Nat) (n : Int) (w : World) (hr : Rd w rb p) (hp : p ≤ 1000000000) :
    Calls Tryz.prog 21 #[.pointer (some ⟨rb, 0, none⟩), .int .i64 n] w fun e w' => ∃ b : Bool, e = .returned (.bool b) ∧ w.grownBy w' (some rb) ∧ Rd w' rb (p + 1) ∧ (n ≤ 0 → b = false) := by
  have HR := Lib.hid hr
  clear hr
  by_cases hn : 0 < n
  · go_enter Tryz.func21, Tryz.ntmps21
    go_wp2_with fail
    refine (pick_any rb p n w HR.out hp).mono ?_
    rintro e w1 ⟨v, rfl, v0, v1, _, hg, hr1⟩
    have HR1 := Lib.hid hr1
    clear hr1
    go_wp2
    go_ret
    exact ⟨_, rfl, hg, HR1.out, fun h => by omega⟩
  · have hn' : ¬ (n > 0) := hn
    go_enter Tryz.func21, Tryz.ntmps21
    go_wp2
    go_ret
    first | exact ⟨_, rfl, gb_refl _ _, HR.out.mono (by omega), fun _ => rfl⟩ | exact ⟨rfl, gb_refl _ _, HR.out.mono (by omega)⟩
theorem odd_any (rb p : Nat) (n : Int) (w : World) (hr : Rd w rb p) (hp : p ≤ 1000000000) :
    Calls Tryz.prog 21 #[.pointer (some ⟨rb, 0, none⟩), .int .i64 n] w (Odded rb p w) :=
  (odd_full rb p n w hr hp).mono fun _ _ ⟨b, h1, h2, h3, _⟩ => ⟨b, h1, h2, h3⟩

theorem rd_new {w : World} {a : Option Addr} {len cap t : Nat} (h : len ≤ 2000) (hb : Bts w w.heap.size a len) : Rd (w.alloc (.cells #[.slice a len cap, .int .i64 0] t)) w.heap.size 0 :=
  ⟨a, len, cap, 0, h, Nat.le_refl _, by simp, hb.kept fun i hi => Below.heap_alloc w _ i hi, by simp [go_sem], by simp [go_sem], by simp [go_sem]⟩

/-- spec.l20Open. -/
theorem l20Open_any (a : Option Addr) (len cap : Nat) (w : World) (hb : Bts w w.heap.size a len) (hc : len ≤ cap) (hm : cap ≤ maxLen) :
    Calls Tryz.prog 18 #[.slice a len cap] w fun e w' => e = .returned (.pointer (some ⟨w.heap.size, 0, none⟩)) ∧ Rd w' w.heap.size 0 ∧ Below w.heap.size w w' ∧ w'.heap.size = w.heap.size + 1 := by
  have HB := Lib.hid hb
  clear hb
  unfold maxLen at hm
  by_cases h : 2000 < len
  · have h' : (2000 : Int) < len := by omega
    have h2 : (2000 : Int) ≤ cap := by omega
    obtain ⟨b, off, rfl, hb, _⟩ := HB.out 0 (by omega)
    go_enter Tryz.func18, Tryz.ntmps18
    go_wp2
    go_ret
    exact ⟨rfl, rd_new (by omega) (fun k hk => HB.out k (by omega)), below_box _ _, by simp⟩
  · have h' : ¬ (2000 : Int) < len := by omega
    go_enter Tryz.func18, Tryz.ntmps18
    go_wp2
    go_ret
    exact ⟨rfl, rd_new (by omega) HB.out, below_box _ _, by simp⟩

/-- A task was drawn. -/
def Drawn (rb p : Nat) (w : World) (e : Ending) (w' : World) : Prop :=
  ∃ a b c : Int, e = .returned (.agg #[.int .i64 a, .int .i64 b, .int .i64 c]) ∧ w.grownBy w' (some rb) ∧ Rd w' rb (p + 10)

/-- The task under way: block tb holds cost C, deadline D, period P; the reader stands at q at most; since W0 only the reader and new blocks have turned. -/
structure Mid (W0 : World) (rb tb q : Nat) (C D P : Int) (wx : World) : Prop where
  gb : W0.grownBy wx (some rb)
  rd : Rd wx rb q
  lt : rb < tb
  old : W0.heap.size ≤ tb
  size : tb < wx.heap.size
  c0 : wx.cell? ⟨tb, 0, none⟩ = some (.int .i64 C)
  c1 : wx.cell? ⟨tb, 1, none⟩ = some (.int .i64 D)
  c2 : wx.cell? ⟨tb, 2, none⟩ = some (.int .i64 P)
  f0 : wx.frozen? ⟨tb, 0, none⟩ = false
  f1 : wx.frozen? ⟨tb, 1, none⟩ = false
  f2 : wx.frozen? ⟨tb, 2, none⟩ = false

theorem Mid.grow {W0 wx wy : World} {rb tb q q' : Nat} {C D P : Int} (h : Mid W0 rb tb q C D P wx) (hg : wx.grownBy wy (some rb)) (hr : Rd wy rb q') : Mid W0 rb tb q' C D P wy :=
  have hne : tb ≠ rb := by have := h.lt; omega
  ⟨gb_trans h.gb hg, hr, h.lt, h.old, Nat.lt_of_lt_of_le h.size hg.size,
    (gb_cell hg (p := ⟨tb, 0, none⟩) h.size hne).trans h.c0, (gb_cell hg (p := ⟨tb, 1, none⟩) h.size hne).trans h.c1, (gb_cell hg (p := ⟨tb, 2, none⟩) h.size hne).trans h.c2,
    (gb_frozen hg (p := ⟨tb, 0, none⟩) h.size hne).trans h.f0, (gb_frozen hg (p := ⟨tb, 1, none⟩) h.size hne).trans h.f1, (gb_frozen hg (p := ⟨tb, 2, none⟩) h.size hne).trans h.f2⟩
theorem Mid.alloc {W0 wx : World} {rb tb q : Nat} {C D P : Int} (h : Mid W0 rb tb q C D P wx) (o : Obj) : Mid W0 rb tb q C D P (wx.alloc o) := h.grow (gb_below (below_box _ _)) (h.rd.alloc _)
theorem Mid.drew {W0 wx : World} {rb tb q : Nat} {C D P : Int} (h : Mid W0 rb tb q C D P wx) : Mid W0 rb tb q C D P wx.drew := h.grow (gb_drew (gb_refl _ _)) h.rd.drew
theorem Mid.set1 {W0 wx : World} {rb tb q : Nat} {C D P : Int} (h : Mid W0 rb tb q C D P wx) (x : Int) : Mid W0 rb tb q C x P (wx.setCell ⟨tb, 1, none⟩ (.int .i64 x)) :=
  ⟨gb_set h.gb (.inr h.old) _, h.rd.set h.lt _, h.lt, h.old, by simpa [World.setCell] using h.size, by simp [go_sem, h.c0], by simp [go_sem, h.c1], by simp [go_sem, h.c2], by simp [go_sem, h.f0], by simp [go_sem, h.f1], by simp [go_sem, h.f2]⟩
theorem Mid.set0 {W0 wx : World} {rb tb q : Nat} {C D P : Int} (h : Mid W0 rb tb q C D P wx) (x : Int) : Mid W0 rb tb q x D P (wx.setCell ⟨tb, 0, none⟩ (.int .i64 x)) :=
  ⟨gb_set h.gb (.inr h.old) _, h.rd.set h.lt _, h.lt, h.old, by simpa [World.setCell] using h.size, by simp [go_sem, h.c0], by simp [go_sem, h.c1], by simp [go_sem, h.c2], by simp [go_sem, h.f0], by simp [go_sem, h.f1], by simp [go_sem, h.f2]⟩
theorem Mid.set2 {W0 wx : World} {rb tb q : Nat} {C D P : Int} (h : Mid W0 rb tb q C D P wx) (x : Int) : Mid W0 rb tb q C D x (wx.setCell ⟨tb, 2, none⟩ (.int .i64 x)) :=
  ⟨gb_set h.gb (.inr h.old) _, h.rd.set h.lt _, h.lt, h.old, by simpa [World.setCell] using h.size, by simp [go_sem, h.c0], by simp [go_sem, h.c1], by simp [go_sem, h.c2], by simp [go_sem, h.f0], by simp [go_sem, h.f1], by simp [go_sem, h.f2]⟩

/-- One of the numbers of a list that was laid as a block. -/
theorem ints_new {w w2 : World} {rb t j : Nat} (l : List Int) (hg : (w.alloc (.cells (l.map (Value.int .i64)).toArray t)).grownBy w2 (some rb)) (hr : rb < w.heap.size) (hj : j < l.length) :
    ∃ P : Int, P ∈ l ∧ w2.cell? ⟨w.heap.size, j, none⟩ = some (.int .i64 P) := by
  refine ⟨l[j], List.getElem_mem hj, ?_⟩
  rw [gb_cell hg (p := ⟨w.heap.size, j, none⟩) (by simp) (by simp; omega)]
  simp [go_sem, hj]

theorem toArr_get {α : Type} (l : List α) (i : Nat) (x : α) (h : l[i]? = some x) : l.toArray[i]? = some x := by simpa using h
def mx (a b : Int) : Int := if a < b then b else a
def mn (a b : Int) : Int := if b < a then b else a
theorem mx_rule : ∀ a b : Int, (if a < b then b else a) = mx a b := fun _ _ => rfl
theorem mn_rule : ∀ a b : Int, (if b < a then b else a) = mn a b := fun _ _ => rfl
theorem Mid.more {W0 wx : World} {rb tb q q' : Nat} {C D P : Int} (h : Mid W0 rb tb q C D P wx) (hq : q ≤ q') : Mid W0 rb tb q' C D P wx := { h with rd := h.rd.mono hq }
def sel4 (u x y z t : Int) : Int := if u = 0 then x else if u = 1 then y else if u = 2 then z else t
theorem sel4_new (u : Int) (h0 : 0 ≤ u) (h1 : u < 4) : ∀ (W : World) (t : TypeId) (x y z a : Int), (W.alloc (.cells #[.int .i64 x, .int .i64 y, .int .i64 z, .int .i64 a] t)).cell? ⟨W.heap.size, u.toNat, none⟩ = some (.int .i64 (sel4 u x y z a)) := by
  intro W t x y z a
  have h : (#[Value.int .i64 x, .int .i64 y, .int .i64 z, .int .i64 a] : Array Value)[u.toNat]? = some (.int .i64 (sel4 u x y z a)) := by
    have : u = 0 ∨ u = 1 ∨ u = 2 ∨ u = 3 := by omega
    rcases this with rfl | rfl | rfl | rfl <;> simp [sel4]
  rw [← h]
  simp [go_sem]
theorem sel4_grown (u : Int) (h0 : 0 ≤ u) (h1 : u < 4) {W w' : World} {t rb : Nat} {x y z a : Int} (hg : (W.alloc (.cells #[.int .i64 x, .int .i64 y, .int .i64 z, .int .i64 a] t)).grownBy w' (some rb)) (hr : rb < W.heap.size) : w'.cell? ⟨W.heap.size, u.toNat, none⟩ = some (.int .i64 (sel4 u x y z a)) :=
  (gb_cell hg (p := ⟨W.heap.size, u.toNat, none⟩) (by simp) (by simp; omega)).trans (sel4_new u h0 h1 W t x y z a)
def sel3 (u x y z : Int) : Int := if u = 0 then x else if u = 1 then y else z
theorem sel3_bd {u x y z m : Int} (a1 : 1 ≤ x) (a2 : x ≤ m) (b1 : 1 ≤ y) (b2 : y ≤ m) (c1 : 1 ≤ z) (c2 : z ≤ m) : 1 ≤ sel3 u x y z ∧ sel3 u x y z ≤ m := by
  unfold sel3
  split
  · exact ⟨a1, a2⟩
  · split
    · exact ⟨b1, b2⟩
    · exact ⟨c1, c2⟩
theorem mx_bd {b m : Int} (h : b ≤ m) (hm : 1 ≤ m) : 1 ≤ mx 1 b ∧ mx 1 b ≤ m := by
  unfold mx
  split <;> omega
theorem mn_bd {b : Int} (h : 1 ≤ b) : 1 ≤ mn 8 b ∧ mn 8 b ≤ b ∧ mn 8 b ≤ 8 := by
  unfold mn
  split <;> omega
theorem sel3_at (u : Int) (h0 : 0 ≤ u) (h1 : u < 3) (x y z : Int) : (#[Value.int .i64 x, .int .i64 y, .int .i64 z] : Array Value)[u.toNat]? = some (.int .i64 (sel3 u x y z)) := by
  have : u = 0 ∨ u = 1 ∨ u = 2 := by omega
  rcases this with rfl | rfl | rfl <;> simp [sel3]
theorem sel3_new (u : Int) (h0 : 0 ≤ u) (h1 : u < 3) : ∀ (W : World) (t : TypeId) (x y z : Int), (W.alloc (.cells #[.int .i64 x, .int .i64 y, .int .i64 z] t)).cell? ⟨W.heap.size, u.toNat, none⟩ = some (.int .i64 (sel3 u x y z)) := by
  intro W t x y z
  have h := sel3_at u h0 h1 x y z
  rw [← h]
  simp [go_sem]

theorem sel3_grown (u : Int) (h0 : 0 ≤ u) (h1 : u < 3) {W w' : World} {t rb : Nat} {x y z : Int} (hg : (W.alloc (.cells #[.int .i64 x, .int .i64 y, .int .i64 z] t)).grownBy w' (some rb)) (hr : rb < W.heap.size) : w'.cell? ⟨W.heap.size, u.toNat, none⟩ = some (.int .i64 (sel3 u x y z)) :=
  (gb_cell hg (p := ⟨W.heap.size, u.toNat, none⟩) (by simp) (by simp; omega)).trans (sel3_new u h0 h1 W t x y z)

set_option maxRecDepth 100000 in
set_option maxHeartbeats 2000000 in
/-- spec.l20Task; a valid one, if n is 0. -/
theorem l20Task_full (rb p : Nat) (n : Int) (w : World) (hr : Rd w rb p) (hp : p ≤ 900000000) :
    Calls Tryz.prog 46 #[.pointer (some ⟨rb, 0, none⟩), .int .i64 n] w fun e w' =>
      ∃ a b c : Int, e = .returned (.agg #[.int .i64 a, .int .i64 b, .int .i64 c]) ∧ w.grownBy w' (some rb) ∧ Rd w' rb (p + 10) ∧ (n ≤ 0 → tvB a b c = true) := by
  have hlt := hr.lt
  have HR := Lib.hid hr
  clear hr
  go_enter Tryz.func46, Tryz.ntmps46
  go_wp2_with fail
  refine (pick_any rb p 12 _ (HR.out.alloc _) (by omega)).mono ?_
  rintro e w1 ⟨v, rfl, v0, v1, _, hg1, hr1⟩
  have hv1 : v < 12 := v1 (by omega)
  have HR1 := Lib.hid hr1
  have hlt1 := hr1.lt
  clear hr1 v1
  go_wp2_with fail
  refine (pick_any rb (p + 1) 8 _ (HR1.out.alloc _) (by omega)).mono ?_
  rintro e w2 ⟨u, rfl, u0, u1, _, hg2, hr2⟩
  have hu1 : u < 8 := u1 (by omega)
  obtain ⟨P, hP, hcP⟩ := ints_new (j := u.toNat) [2, 3, 4, 6, 8, 12, 1 + v, 5] hg2 hlt1 (by simp; omega)
  have hP1 : 1 ≤ P ∧ P ≤ 12 := by simp at hP; omega
  have hlt2 := hr2.lt
  have HM := Lib.hid (show Mid (w.alloc (.cells #[.int .i64 0, .int .i64 0, .int .i64 0] 29)) rb w2.heap.size (p + 2) 0 0 P (w2.alloc (.cells #[.int .i64 0, .int .i64 0, .int .i64 P] 29)) from
    ⟨gb_alloc (gb_trans (gb_alloc hg1 _) hg2) _, hr2.alloc _, hr2.lt, by have a1 := hg1.size; have a2 := hg2.size; simp at a1 a2 ⊢; omega, by simp, by simp [go_sem], by simp [go_sem], by simp [go_sem], by simp [go_sem], by simp [go_sem], by simp [go_sem]⟩)
  clear hr2 u1 hP
  go_upto_region 2 with fail
  generalize hW0 : w.alloc (.cells #[.int .i64 0, .int .i64 0, .int .i64 0] 29) = W0 at *
  generalize hwa : w2.alloc (.cells #[.int .i64 0, .int .i64 0, .int .i64 P] 29) = wa at *
  generalize htb : w2.heap.size = tb at *
  have HW0 := Lib.hid hW0
  clear hW0 hwa hg1 hg2 hcP u0 hu1 v0 hv1 hlt1 hlt2 HR1 HR
  obtain ⟨hP0, hP2⟩ := hP1
  go_cut [] (fun wx => ∃ D : Int, 1 ≤ D ∧ D ≤ P ∧ Mid W0 rb tb (p + 4) 0 D P wx)
  case first =>
    have k2 := HM.out.c2
    have k3 := HM.out.f1
    have hmx := mx_rule
    have hw1 : IntKind.i64.wrap (P - 1) = P - 1 := IntWalk.i64_in _ (by omega)
    --REGION 2
    refine wp_region_noPanic ?_
    refine wp_region_held_drew (S := fun w' => w'.cell? ⟨tb, 2, none⟩ = some (.int .i64 P)) (by kernel_rfl) ?_ (fun hHeld => ?_)
    · (try dsimp only)
      (first | (go_keep; done) | (simp [go_sem, *]; done))
    refine wpAnyH_take (i := 0) (v := ?_) (toArr_get _ 0 _ rfl) (by kernel_rfl) (by kernel_rfl) (by kernel_rfl) (fun _ _ _ h => h) (Or.inl ⟨by rfl, ?_⟩) (by assumption) ?_
    rotate_left
    · (intro w hSw; (try dsimp only at hSw); go_simp; (try with_reducible rfl))
    (try simp only [Act.put, List.setIfInBounds_toArray, List.set_cons_zero, List.set_cons_succ])
    refine wpAnyH_take (i := 1) (v := ?_) (toArr_get _ 1 _ rfl) (by kernel_rfl) (by kernel_rfl) (by kernel_rfl) (fun _ _ _ h => h) (Or.inl ⟨by rfl, ?_⟩) (by assumption) ?_
    rotate_left
    · (intro w hSw; (try dsimp only at hSw); go_simp; (try with_reducible rfl))
    (try simp only [Act.put, List.setIfInBounds_toArray, List.set_cons_zero, List.set_cons_succ])
    refine wpAnyH_take (i := 2) (v := ?_) (toArr_get _ 2 _ rfl) (by kernel_rfl) (by kernel_rfl) (by kernel_rfl) (fun _ _ _ h => h) (Or.inl ⟨by rfl, ?_⟩) (by assumption) ?_
    rotate_left
    · (intro w hSw; (try dsimp only at hSw); go_simp; (try with_reducible rfl))
    (try simp only [Act.put, List.setIfInBounds_toArray, List.set_cons_zero, List.set_cons_succ])
    refine wpAnyH_take (i := 3) (v := ?_) (toArr_get _ 3 _ rfl) (by kernel_rfl) (by kernel_rfl) (by kernel_rfl) (fun _ _ _ h => h) (Or.inl ⟨by rfl, ?_⟩) (by assumption) ?_
    rotate_left
    · (intro w hSw; (try dsimp only at hSw); go_simp; (try with_reducible rfl))
    (try simp only [Act.put, List.setIfInBounds_toArray, List.set_cons_zero, List.set_cons_succ])
    refine wpAnyH_take (i := 4) (v := ?_) (toArr_get _ 4 _ rfl) (by kernel_rfl) (by kernel_rfl) (by kernel_rfl) (fun _ _ _ h => h) (Or.inl ⟨by rfl, ?_⟩) (by assumption) ?_
    rotate_left
    · (intro w hSw; (try dsimp only at hSw); go_simp; (try with_reducible rfl))
    (try simp only [Act.put, List.setIfInBounds_toArray, List.set_cons_zero, List.set_cons_succ])
    refine wpAnyH_take (i := 7) (v := ?_) (toArr_get _ 7 _ rfl) (by kernel_rfl) (by kernel_rfl) (by kernel_rfl) (fun _ _ _ h => h) (Or.inl ⟨by rfl, ?_⟩) (by assumption) ?_
    rotate_left
    · (intro w hSw; (try dsimp only at hSw); go_simp; (try with_reducible rfl))
    (try simp only [Act.put, List.setIfInBounds_toArray, List.set_cons_zero, List.set_cons_succ])
    refine wpAnyH_take (i := 8) (v := ?_) (toArr_get _ 8 _ rfl) (by kernel_rfl) (by kernel_rfl) (by kernel_rfl) (fun _ _ _ h => h) (Or.inl ⟨by rfl, ?_⟩) (by assumption) ?_
    rotate_left
    · (intro w hSw; (try dsimp only at hSw); go_simp; (try with_reducible rfl))
    (try simp only [Act.put, List.setIfInBounds_toArray, List.set_cons_zero, List.set_cons_succ])
    refine wpAnyH_take (i := 9) (v := ?_) (toArr_get _ 9 _ rfl) (by kernel_rfl) (by kernel_rfl) (by kernel_rfl) (fun _ _ _ h => h) (Or.inl ⟨by rfl, ?_⟩) (by assumption) ?_
    rotate_left
    · (intro w hSw; (try dsimp only at hSw); go_simp; (try with_reducible rfl))
    (try simp only [Act.put, List.setIfInBounds_toArray, List.set_cons_zero, List.set_cons_succ])
    refine wpAnyH_take (i := 10) (v := ?_) (toArr_get _ 10 _ rfl) (by kernel_rfl) (by kernel_rfl) (by kernel_rfl) (fun _ _ _ h => h) (Or.inl ⟨by rfl, ?_⟩) (by assumption) ?_
    rotate_left
    · (intro w hSw; (try dsimp only at hSw); go_simp; (try with_reducible rfl))
    (try simp only [Act.put, List.setIfInBounds_toArray, List.set_cons_zero, List.set_cons_succ])
    refine wpAnyH_take (i := 12) (v := ?_) (toArr_get _ 12 _ rfl) (by kernel_rfl) (by kernel_rfl) (by kernel_rfl) (fun _ _ _ h => h) (Or.inl ⟨by rfl, ?_⟩) (by assumption) ?_
    rotate_left
    · (intro w hSw; (try dsimp only at hSw); go_simp; (try with_reducible rfl))
    (try simp only [Act.put, List.setIfInBounds_toArray, List.set_cons_zero, List.set_cons_succ])
    refine wpAnyH_ready (rs := [5]) (by kernel_rfl) (by simp) ?_
    refine AllReadyH.cons (toArr_get _ 5 _ rfl) (fun K hK => ?_) ?_
    · go_simp
      go_at_call 22
      refine (pick_any rb (p + 2) P _ ?_ ?_).mono ?_
      · exact HM.out.rd.drew
      · omega
      rintro e w3 ⟨v, rfl, v0, v1, _, hgw3, hrw3⟩
      have vp := v1 hP0
      have hw3 : IntKind.i64.wrap (1 + v) = 1 + v := IntWalk.i64_in _ (by omega)
      have HM3 := Lib.hid (HM.out.drew.grow hgw3 hrw3)
      have m2 := HM3.out.c2
      have hlt3 := hrw3.lt
      have msz := HM3.out.size
      have mne : tb ≠ w3.heap.size := Nat.ne_of_lt msz
      clear hrw3 v1 k2 k3
      go_wp2_with fail
      refine hK.out _ _ ?_ (fun hHeld2 => ?_)
      · (try dsimp only)
        (first | (go_keep; done) | (simp [go_sem, *]; done))
      clear hK K hHeld
      have hHeld := hHeld2
      clear hHeld2
      (try simp only [Act.put, List.setIfInBounds_toArray, List.set_cons_zero, List.set_cons_succ])
      refine wpAnyH_take (i := 6) (v := ?_) (toArr_get _ 6 _ rfl) (by kernel_rfl) (by kernel_rfl) (by kernel_rfl) (fun _ _ _ h => h) (Or.inl ⟨by rfl, ?_⟩) (by assumption) ?_
      rotate_left
      · (intro w hSw; (try dsimp only at hSw); go_simp; (try with_reducible rfl))
      (try simp only [Act.put, List.setIfInBounds_toArray, List.set_cons_zero, List.set_cons_succ])
      refine wpAnyH_ready (rs := [11, 13]) (by kernel_rfl) (by simp) ?_
      refine AllReadyH.cons (toArr_get _ 11 _ rfl) (fun K hK => ?_) ?_
      · go_simp
        refine hK.out _ _ ?_ (fun hHeld2 => ?_)
        · (try dsimp only)
          (first | (go_keep; done) | (simp [go_sem, *]; done))
        clear hK K hHeld
        have hHeld := hHeld2
        clear hHeld2
        (try simp only [Act.put, List.setIfInBounds_toArray, List.set_cons_zero, List.set_cons_succ])
        refine wpAnyH_ready (rs := [13]) (by kernel_rfl) (by simp) ?_
        refine AllReadyH.cons (toArr_get _ 13 _ rfl) (fun K hK => ?_) ?_
        · go_simp
          go_at_call 22
          refine (pick_any rb (p + 3) 3 _ ?_ ?_).mono ?_
          · first | exact HM3.out.rd | exact HM3.out.rd.alloc _
          · omega
          rintro e w4 ⟨u, rfl, u0, u1, _, hgw4, hrw4⟩
          have up := u1 (by decide)
          have hm4 : Mid W0 rb tb (p + 4) 0 0 P w4 := by first | exact HM3.out.grow hgw4 hrw4 | exact (HM3.out.alloc _).grow hgw4 hrw4
          have HM4 := Lib.hid hm4
          have n2 := hm4.c2
          have n3 := hm4.f1
          have n1 := hm4.c1
          have nsz := hm4.size
          have nne : tb ≠ w4.heap.size := Nat.ne_of_lt nsz
          have hsel := sel3_new u u0 up
          (try have hA := sel3_grown u u0 up hgw4 hlt3)
          clear hrw4 hm4 u1 m2 mne
          go_wp2_with fail
          refine hK.out _ _ ?_ (fun hHeld2 => ?_)
          · (try dsimp only)
            (first | (go_keep; done) | (simp [go_sem, *]; done))
          clear hK K hHeld
          have hHeld := hHeld2
          clear hHeld2
          (try simp only [Act.put, List.setIfInBounds_toArray, List.set_cons_zero, List.set_cons_succ])
          refine wpAnyH_take (i := 14) (v := ?_) (toArr_get _ 14 _ rfl) (by kernel_rfl) (by kernel_rfl) (by kernel_rfl) (fun _ _ _ h => h) (Or.inl ⟨by rfl, ?_⟩) (by assumption) ?_
          rotate_left
          · (intro w hSw; (try dsimp only at hSw); go_simp; (try with_reducible rfl))
          (try simp only [Act.put, List.setIfInBounds_toArray, List.set_cons_zero, List.set_cons_succ])
          refine wpAnyH_ready (rs := [15]) (by kernel_rfl) (by simp) ?_
          refine AllReadyH.cons (toArr_get _ 15 _ rfl) (fun K hK => ?_) ?_
          · go_simp
            refine hK.out _ _ ?_ (fun hHeld2 => ?_)
            · (try dsimp only)
              (first | (go_keep; done) | (simp [go_sem, *]; done))
            clear hK K hHeld
            have hHeld := hHeld2
            clear hHeld2
            (try simp only [Act.put, List.setIfInBounds_toArray, List.set_cons_zero, List.set_cons_succ])
            refine wpAnyH_take (i := 16) (v := ?_) (toArr_get _ 16 _ rfl) (by kernel_rfl) (by kernel_rfl) (by kernel_rfl) (fun _ _ _ h => h) (Or.inl ⟨by rfl, ?_⟩) (by assumption) ?_
            rotate_left
            · (intro w hSw; (try dsimp only at hSw); go_simp; (try with_reducible rfl))
            (try simp only [Act.put, List.setIfInBounds_toArray, List.set_cons_zero, List.set_cons_succ])
            refine wpAnyH_ready (rs := [17]) (by kernel_rfl) (by simp) ?_
            refine AllReadyH.cons (toArr_get _ 17 _ rfl) (fun K hK => ?_) ?_
            · go_simp
              refine hK.out _ _ ?_ (fun hHeld2 => ?_)
              · (try dsimp only)
                (first | (go_keep; done) | (simp [go_sem, *]; done))
              clear hK K hHeld
              have hHeld := hHeld2
              clear hHeld2
              (try simp only [Act.put, List.setIfInBounds_toArray, List.set_cons_zero, List.set_cons_succ])
              refine wpAnyH_done (by kernel_rfl) ?_ _
              refine NoPanic.normal ?_
              go_wp2_with fail
              go_meet
              have bd := sel3_bd (u := u) (m := P) hP0 (Int.le_refl _) (y := 1 + v) (by omega) (by omega) (mx_bd (b := P - 1) (m := P) (by omega) hP0).1 (mx_bd (b := P - 1) (m := P) (by omega) hP0).2
              first | exact ⟨_, bd.1, bd.2, HM4.out.set1 _⟩ | exact ⟨_, bd.1, bd.2, (HM4.out.set1 _).alloc _⟩
            exact AllReadyH.nil
          exact AllReadyH.nil
        exact AllReadyH.nil
      refine AllReadyH.cons (toArr_get _ 13 _ rfl) (fun K hK => ?_) ?_
      · go_simp
        go_at_call 22
        refine (pick_any rb (p + 3) 3 _ ?_ ?_).mono ?_
        · first | exact HM3.out.rd | exact HM3.out.rd.alloc _
        · omega
        rintro e w4 ⟨u, rfl, u0, u1, _, hgw4, hrw4⟩
        have up := u1 (by decide)
        have hm4 : Mid W0 rb tb (p + 4) 0 0 P w4 := by first | exact HM3.out.grow hgw4 hrw4 | exact (HM3.out.alloc _).grow hgw4 hrw4
        have HM4 := Lib.hid hm4
        have n2 := hm4.c2
        have n3 := hm4.f1
        have n1 := hm4.c1
        have nsz := hm4.size
        have nne : tb ≠ w4.heap.size := Nat.ne_of_lt nsz
        have hsel := sel3_new u u0 up
        (try have hA := sel3_grown u u0 up hgw4 hlt3)
        clear hrw4 hm4 u1 m2 mne
        go_wp2_with fail
        refine hK.out _ _ ?_ (fun hHeld2 => ?_)
        · (try dsimp only)
          (first | (go_keep; done) | (simp [go_sem, *]; done))
        clear hK K hHeld
        have hHeld := hHeld2
        clear hHeld2
        (try simp only [Act.put, List.setIfInBounds_toArray, List.set_cons_zero, List.set_cons_succ])
        refine wpAnyH_ready (rs := [11]) (by kernel_rfl) (by simp) ?_
        refine AllReadyH.cons (toArr_get _ 11 _ rfl) (fun K hK => ?_) ?_
        · go_simp
          refine hK.out _ _ ?_ (fun hHeld2 => ?_)
          · (try dsimp only)
            (first | (go_keep; done) | (simp [go_sem, *]; done))
          clear hK K hHeld
          have hHeld := hHeld2
          clear hHeld2
          (try simp only [Act.put, List.setIfInBounds_toArray, List.set_cons_zero, List.set_cons_succ])
          refine wpAnyH_take (i := 14) (v := ?_) (toArr_get _ 14 _ rfl) (by kernel_rfl) (by kernel_rfl) (by kernel_rfl) (fun _ _ _ h => h) (Or.inl ⟨by rfl, ?_⟩) (by assumption) ?_
          rotate_left
          · (intro w hSw; (try dsimp only at hSw); go_simp; (try with_reducible rfl))
          (try simp only [Act.put, List.setIfInBounds_toArray, List.set_cons_zero, List.set_cons_succ])
          refine wpAnyH_ready (rs := [15]) (by kernel_rfl) (by simp) ?_
          refine AllReadyH.cons (toArr_get _ 15 _ rfl) (fun K hK => ?_) ?_
          · go_simp
            refine hK.out _ _ ?_ (fun hHeld2 => ?_)
            · (try dsimp only)
              (first | (go_keep; done) | (simp [go_sem, *]; done))
            clear hK K hHeld
            have hHeld := hHeld2
            clear hHeld2
            (try simp only [Act.put, List.setIfInBounds_toArray, List.set_cons_zero, List.set_cons_succ])
            refine wpAnyH_take (i := 16) (v := ?_) (toArr_get _ 16 _ rfl) (by kernel_rfl) (by kernel_rfl) (by kernel_rfl) (fun _ _ _ h => h) (Or.inl ⟨by rfl, ?_⟩) (by assumption) ?_
            rotate_left
            · (intro w hSw; (try dsimp only at hSw); go_simp; (try with_reducible rfl))
            (try simp only [Act.put, List.setIfInBounds_toArray, List.set_cons_zero, List.set_cons_succ])
            refine wpAnyH_ready (rs := [17]) (by kernel_rfl) (by simp) ?_
            refine AllReadyH.cons (toArr_get _ 17 _ rfl) (fun K hK => ?_) ?_
            · go_simp
              refine hK.out _ _ ?_ (fun hHeld2 => ?_)
              · (try dsimp only)
                (first | (go_keep; done) | (simp [go_sem, *]; done))
              clear hK K hHeld
              have hHeld := hHeld2
              clear hHeld2
              (try simp only [Act.put, List.setIfInBounds_toArray, List.set_cons_zero, List.set_cons_succ])
              refine wpAnyH_done (by kernel_rfl) ?_ _
              refine NoPanic.normal ?_
              go_wp2_with fail
              go_meet
              have bd := sel3_bd (u := u) (m := P) hP0 (Int.le_refl _) (y := 1 + v) (by omega) (by omega) (mx_bd (b := P - 1) (m := P) (by omega) hP0).1 (mx_bd (b := P - 1) (m := P) (by omega) hP0).2
              first | exact ⟨_, bd.1, bd.2, HM4.out.set1 _⟩ | exact ⟨_, bd.1, bd.2, (HM4.out.set1 _).alloc _⟩
            exact AllReadyH.nil
          exact AllReadyH.nil
        exact AllReadyH.nil
      exact AllReadyH.nil
    exact AllReadyH.nil
    --END 2
  case rest =>
    rename_i wb
    obtain ⟨D, hD0, hD2, hMb⟩ := hcut
    clear HM
    have HM := Lib.hid hMb
    clear hMb
    go_upto_region 3 with fail
    go_cut [] (fun wx => ∃ C : Int, (1 ≤ C ∧ C ≤ D ∧ C ≤ 8) ∧ Mid W0 rb tb (p + 6) C D P wx)
    case first =>
      have k1 := HM.out.c1
      have k0 := HM.out.c0
      have kf := HM.out.f0
      have hltw := HM.out.rd.lt
      have hmx := mx_rule
      have hmn := mn_rule
      have hw2 : IntKind.i64.wrap (D.tdiv 2) = D / 2 := IntWalk.i64_quo _ _ (by omega)
      have hw3 : IntKind.i64.wrap (D.tdiv 3) = D / 3 := IntWalk.i64_quo _ _ (by omega)
      --REGION 3
      refine wp_region_noPanic ?_
      refine wp_region_held_drew (S := fun w' => w'.cell? ⟨tb, 1, none⟩ = some (.int .i64 D)) (by kernel_rfl) ?_ (fun hHeld => ?_)
      · (try dsimp only)
        (first | (go_keep; done) | (simp [go_sem, *]; done))
      refine wpAnyH_take (i := 0) (v := ?_) (toArr_get _ 0 _ rfl) (by kernel_rfl) (by kernel_rfl) (by kernel_rfl) (fun _ _ _ h => h) (Or.inl ⟨by rfl, ?_⟩) (by assumption) ?_
      rotate_left
      · (intro w hSw; (try dsimp only at hSw); go_simp; (try with_reducible rfl))
      (try simp only [Act.put, List.setIfInBounds_toArray, List.set_cons_zero, List.set_cons_succ])
      refine wpAnyH_take (i := 1) (v := ?_) (toArr_get _ 1 _ rfl) (by kernel_rfl) (by kernel_rfl) (by kernel_rfl) (fun _ _ _ h => h) (Or.inl ⟨by rfl, ?_⟩) (by assumption) ?_
      rotate_left
      · (intro w hSw; (try dsimp only at hSw); go_simp; (try with_reducible rfl))
      (try simp only [Act.put, List.setIfInBounds_toArray, List.set_cons_zero, List.set_cons_succ])
      refine wpAnyH_take (i := 2) (v := ?_) (toArr_get _ 2 _ rfl) (by kernel_rfl) (by kernel_rfl) (by kernel_rfl) (fun _ _ _ h => h) (Or.inl ⟨by rfl, ?_⟩) (by assumption) ?_
      rotate_left
      · (intro w hSw; (try dsimp only at hSw); go_simp; (try with_reducible rfl))
      (try simp only [Act.put, List.setIfInBounds_toArray, List.set_cons_zero, List.set_cons_succ])
      refine wpAnyH_take (i := 3) (v := ?_) (toArr_get _ 3 _ rfl) (by kernel_rfl) (by kernel_rfl) (by kernel_rfl) (fun _ _ _ h => h) (Or.inl ⟨by rfl, ?_⟩) (by assumption) ?_
      rotate_left
      · (intro w hSw; (try dsimp only at hSw); go_simp; (try with_reducible rfl))
      (try simp only [Act.put, List.setIfInBounds_toArray, List.set_cons_zero, List.set_cons_succ])
      refine wpAnyH_take (i := 4) (v := ?_) (toArr_get _ 4 _ rfl) (by kernel_rfl) (by kernel_rfl) (by kernel_rfl) (fun _ _ _ h => h) (Or.inl ⟨by rfl, ?_⟩) (by assumption) ?_
      rotate_left
      · (intro w hSw; (try dsimp only at hSw); go_simp; (try with_reducible rfl))
      (try simp only [Act.put, List.setIfInBounds_toArray, List.set_cons_zero, List.set_cons_succ])
      refine wpAnyH_take (i := 5) (v := ?_) (toArr_get _ 5 _ rfl) (by kernel_rfl) (by kernel_rfl) (by kernel_rfl) (fun _ _ _ h => h) (Or.inl ⟨by rfl, ?_⟩) (by assumption) ?_
      rotate_left
      · (intro w hSw; (try dsimp only at hSw); go_simp; (try with_reducible rfl))
      (try simp only [Act.put, List.setIfInBounds_toArray, List.set_cons_zero, List.set_cons_succ])
      refine wpAnyH_take (i := 6) (v := ?_) (toArr_get _ 6 _ rfl) (by kernel_rfl) (by kernel_rfl) (by kernel_rfl) (fun _ _ _ h => h) (Or.inl ⟨by rfl, ?_⟩) (by assumption) ?_
      rotate_left
      · (intro w hSw; (try dsimp only at hSw); go_simp; (try with_reducible rfl))
      (try simp only [Act.put, List.setIfInBounds_toArray, List.set_cons_zero, List.set_cons_succ])
      refine wpAnyH_take (i := 7) (v := ?_) (toArr_get _ 7 _ rfl) (by kernel_rfl) (by kernel_rfl) (by kernel_rfl) (fun _ _ _ h => h) (Or.inl ⟨by rfl, ?_⟩) (by assumption) ?_
      rotate_left
      · (intro w hSw; (try dsimp only at hSw); go_simp; (try with_reducible rfl))
      (try simp only [Act.put, List.setIfInBounds_toArray, List.set_cons_zero, List.set_cons_succ])
      refine wpAnyH_take (i := 8) (v := ?_) (toArr_get _ 8 _ rfl) (by kernel_rfl) (by kernel_rfl) (by kernel_rfl) (fun _ _ _ h => h) (Or.inl ⟨by rfl, ?_⟩) (by assumption) ?_
      rotate_left
      · (intro w hSw; (try dsimp only at hSw); go_simp; (try with_reducible rfl))
      (try simp only [Act.put, List.setIfInBounds_toArray, List.set_cons_zero, List.set_cons_succ])
      refine wpAnyH_take (i := 9) (v := ?_) (toArr_get _ 9 _ rfl) (by kernel_rfl) (by kernel_rfl) (by kernel_rfl) (fun _ _ _ h => h) (Or.inl ⟨by rfl, ?_⟩) (by assumption) ?_
      rotate_left
      · (intro w hSw; (try dsimp only at hSw); go_simp; (try with_reducible rfl))
      (try simp only [Act.put, List.setIfInBounds_toArray, List.set_cons_zero, List.set_cons_succ])
      refine wpAnyH_take (i := 10) (v := ?_) (toArr_get _ 10 _ rfl) (by kernel_rfl) (by kernel_rfl) (by kernel_rfl) (fun _ _ _ h => h) (Or.inl ⟨by rfl, ?_⟩) (by assumption) ?_
      rotate_left
      · (intro w hSw; (try dsimp only at hSw); go_simp; (try with_reducible rfl))
      (try simp only [Act.put, List.setIfInBounds_toArray, List.set_cons_zero, List.set_cons_succ])
      refine wpAnyH_take (i := 12) (v := ?_) (toArr_get _ 12 _ rfl) (by kernel_rfl) (by kernel_rfl) (by kernel_rfl) (fun _ _ _ h => h) (Or.inl ⟨by rfl, ?_⟩) (by assumption) ?_
      rotate_left
      · (intro w hSw; (try dsimp only at hSw); go_simp; (try with_reducible rfl))
      (try simp only [Act.put, List.setIfInBounds_toArray, List.set_cons_zero, List.set_cons_succ])
      refine wpAnyH_ready (rs := [11, 13]) (by kernel_rfl) (by simp) ?_
      refine AllReadyH.cons (toArr_get _ 11 _ rfl) (fun K hK => ?_) ?_
      · go_simp
        refine hK.out _ _ ?_ (fun hHeld2 => ?_)
        · (try dsimp only)
          (first | (go_keep; done) | (simp [go_sem, *]; done))
        clear hK K hHeld
        have hHeld := hHeld2
        clear hHeld2
        (try simp only [Act.put, List.setIfInBounds_toArray, List.set_cons_zero, List.set_cons_succ])
        refine wpAnyH_ready (rs := [13]) (by kernel_rfl) (by simp) ?_
        refine AllReadyH.cons (toArr_get _ 13 _ rfl) (fun K hK => ?_) ?_
        · go_simp
          go_at_call 22
          refine (pick_any rb (p + 4) 3 _ ?_ ?_).mono ?_
          · first | exact HM.out.rd.drew | exact HM.out.rd.drew.alloc _ | exact (HM.out.rd.alloc _).drew
          · omega
          rintro e w3 ⟨u, rfl, u0, u1, _, hgw3, hrw3⟩
          have up := u1 (by decide)
          have hm3 : Mid W0 rb tb (p + 5) 0 D P w3 := by first | exact HM.out.drew.grow hgw3 hrw3 | exact (HM.out.drew.alloc _).grow hgw3 hrw3 | exact (HM.out.alloc _).drew.grow hgw3 hrw3
          have HM3 := Lib.hid hm3
          have m1 := hm3.c1
          have hlt3 := hrw3.lt
          have msz := hm3.size
          have mne : tb ≠ w3.heap.size := Nat.ne_of_lt msz
          have hsel := sel3_new u u0 up
          (try have hA := sel3_grown u u0 up (gb_trans (gb_drew (gb_refl _ _)) hgw3) hltw)
          clear hrw3 hm3 u1 k1 k0 kf
          go_wp2_with fail
          refine hK.out _ _ ?_ (fun hHeld2 => ?_)
          · (try dsimp only)
            (first | (go_keep; done) | (simp [go_sem, *]; done))
          clear hK K hHeld
          have hHeld := hHeld2
          clear hHeld2
          (try simp only [Act.put, List.setIfInBounds_toArray, List.set_cons_zero, List.set_cons_succ])
          refine wpAnyH_take (i := 14) (v := ?_) (toArr_get _ 14 _ rfl) (by kernel_rfl) (by kernel_rfl) (by kernel_rfl) (fun _ _ _ h => h) (Or.inl ⟨by rfl, ?_⟩) (by assumption) ?_
          rotate_left
          · (intro w hSw; (try dsimp only at hSw); go_simp; (try with_reducible rfl))
          (try simp only [Act.put, List.setIfInBounds_toArray, List.set_cons_zero, List.set_cons_succ])
          refine wpAnyH_ready (rs := [15]) (by kernel_rfl) (by simp) ?_
          refine AllReadyH.cons (toArr_get _ 15 _ rfl) (fun K hK => ?_) ?_
          · go_simp
            refine hK.out _ _ ?_ (fun hHeld2 => ?_)
            · (try dsimp only)
              (first | (go_keep; done) | (simp [go_sem, *]; done))
            clear hK K hHeld
            have hHeld := hHeld2
            clear hHeld2
            (try simp only [Act.put, List.setIfInBounds_toArray, List.set_cons_zero, List.set_cons_succ])
            refine wpAnyH_take (i := 16) (v := ?_) (toArr_get _ 16 _ rfl) (by kernel_rfl) (by kernel_rfl) (by kernel_rfl) (fun _ _ _ h => h) (Or.inl ⟨by rfl, ?_⟩) (by assumption) ?_
            rotate_left
            · (intro w hSw; (try dsimp only at hSw); go_simp; (try with_reducible rfl))
            (try simp only [Act.put, List.setIfInBounds_toArray, List.set_cons_zero, List.set_cons_succ])
            refine wpAnyH_ready (rs := [17]) (by kernel_rfl) (by simp) ?_
            refine AllReadyH.cons (toArr_get _ 17 _ rfl) (fun K hK => ?_) ?_
            · go_simp
              go_at_call 22
              refine (pick_any rb (p + 5) _ _ ?_ ?_).mono ?_
              · first | exact HM3.out.rd | exact HM3.out.rd.alloc _
              · omega
              rintro e w4 ⟨v, rfl, v0, v1, _, hgw4, hrw4⟩
              have hm4 : Mid W0 rb tb (p + 6) 0 D P w4 := by first | exact HM3.out.grow hgw4 hrw4 | exact (HM3.out.alloc _).grow hgw4 hrw4
              have HM4 := Lib.hid hm4
              have n0 := hm4.c0
              have n1 := hm4.c1
              have n3 := hm4.f0
              clear hrw4 hm4 m1 mne
              go_wp2_with fail
              refine hK.out _ _ ?_ (fun hHeld2 => ?_)
              · (try dsimp only)
                (first | (go_keep; done) | (simp [go_sem, *]; done))
              clear hK K hHeld
              have hHeld := hHeld2
              clear hHeld2
              (try simp only [Act.put, List.setIfInBounds_toArray, List.set_cons_zero, List.set_cons_succ])
              refine wpAnyH_take (i := 18) (v := ?_) (toArr_get _ 18 _ rfl) (by kernel_rfl) (by kernel_rfl) (by kernel_rfl) (fun _ _ _ h => h) (Or.inl ⟨by rfl, ?_⟩) (by assumption) ?_
              rotate_left
              · (intro w hSw; (try dsimp only at hSw); go_simp; (try with_reducible rfl))
              (try simp only [Act.put, List.setIfInBounds_toArray, List.set_cons_zero, List.set_cons_succ])
              refine wpAnyH_take (i := 19) (v := ?_) (toArr_get _ 19 _ rfl) (by kernel_rfl) (by kernel_rfl) (by kernel_rfl) (fun _ _ _ h => h) (Or.inl ⟨by rfl, ?_⟩) (by assumption) ?_
              rotate_left
              · (intro w hSw; (try dsimp only at hSw); go_simp; (try with_reducible rfl))
              (try simp only [Act.put, List.setIfInBounds_toArray, List.set_cons_zero, List.set_cons_succ])
              refine wpAnyH_ready (rs := [20]) (by kernel_rfl) (by simp) ?_
              refine AllReadyH.cons (toArr_get _ 20 _ rfl) (fun K hK => ?_) ?_
              · go_simp
                refine hK.out _ _ ?_ (fun hHeld2 => ?_)
                · (try dsimp only)
                  (first | (go_keep; done) | (simp [go_sem, *]; done))
                clear hK K hHeld
                have hHeld := hHeld2
                clear hHeld2
                (try simp only [Act.put, List.setIfInBounds_toArray, List.set_cons_zero, List.set_cons_succ])
                refine wpAnyH_done (by kernel_rfl) ?_ _
                refine NoPanic.normal ?_
                go_wp2_with fail
                go_meet
                have bd := sel3_bd (u := u) (x := D) (m := D) hD0 (Int.le_refl _) (mx_bd (b := D / 2) (m := D) (by omega) hD0).1 (mx_bd (b := D / 2) (m := D) (by omega) hD0).2 (mx_bd (b := D / 3) (m := D) (by omega) hD0).1 (mx_bd (b := D / 3) (m := D) (by omega) hD0).2
                have mb := mn_bd (b := sel3 u D (mx 1 (D / 2)) (mx 1 (D / 3))) bd.1
                have vb := v1 mb.1
                have hw1 : IntKind.i64.wrap (1 + v) = 1 + v := IntWalk.i64_in _ (by omega)
                exact ⟨_, ⟨by omega, by omega, by omega⟩, HM4.out.set0 _⟩
              exact AllReadyH.nil
            exact AllReadyH.nil
          exact AllReadyH.nil
        exact AllReadyH.nil
      refine AllReadyH.cons (toArr_get _ 13 _ rfl) (fun K hK => ?_) ?_
      · go_simp
        go_at_call 22
        refine (pick_any rb (p + 4) 3 _ ?_ ?_).mono ?_
        · first | exact HM.out.rd.drew | exact HM.out.rd.drew.alloc _ | exact (HM.out.rd.alloc _).drew
        · omega
        rintro e w3 ⟨u, rfl, u0, u1, _, hgw3, hrw3⟩
        have up := u1 (by decide)
        have hm3 : Mid W0 rb tb (p + 5) 0 D P w3 := by first | exact HM.out.drew.grow hgw3 hrw3 | exact (HM.out.drew.alloc _).grow hgw3 hrw3 | exact (HM.out.alloc _).drew.grow hgw3 hrw3
        have HM3 := Lib.hid hm3
        have m1 := hm3.c1
        have hlt3 := hrw3.lt
        have msz := hm3.size
        have mne : tb ≠ w3.heap.size := Nat.ne_of_lt msz
        have hsel := sel3_new u u0 up
        (try have hA := sel3_grown u u0 up (gb_trans (gb_drew (gb_refl _ _)) hgw3) hltw)
        clear hrw3 hm3 u1 k1 k0 kf
        go_wp2_with fail
        refine hK.out _ _ ?_ (fun hHeld2 => ?_)
        · (try dsimp only)
          (first | (go_keep; done) | (simp [go_sem, *]; done))
        clear hK K hHeld
        have hHeld := hHeld2
        clear hHeld2
        (try simp only [Act.put, List.setIfInBounds_toArray, List.set_cons_zero, List.set_cons_succ])
        refine wpAnyH_ready (rs := [11]) (by kernel_rfl) (by simp) ?_
        refine AllReadyH.cons (toArr_get _ 11 _ rfl) (fun K hK => ?_) ?_
        · go_simp
          refine hK.out _ _ ?_ (fun hHeld2 => ?_)
          · (try dsimp only)
            (first | (go_keep; done) | (simp [go_sem, *]; done))
          clear hK K hHeld
          have hHeld := hHeld2
          clear hHeld2
          (try simp only [Act.put, List.setIfInBounds_toArray, List.set_cons_zero, List.set_cons_succ])
          refine wpAnyH_take (i := 14) (v := ?_) (toArr_get _ 14 _ rfl) (by kernel_rfl) (by kernel_rfl) (by kernel_rfl) (fun _ _ _ h => h) (Or.inl ⟨by rfl, ?_⟩) (by assumption) ?_
          rotate_left
          · (intro w hSw; (try dsimp only at hSw); go_simp; (try with_reducible rfl))
          (try simp only [Act.put, List.setIfInBounds_toArray, List.set_cons_zero, List.set_cons_succ])
          refine wpAnyH_ready (rs := [15]) (by kernel_rfl) (by simp) ?_
          refine AllReadyH.cons (toArr_get _ 15 _ rfl) (fun K hK => ?_) ?_
          · go_simp
            refine hK.out _ _ ?_ (fun hHeld2 => ?_)
            · (try dsimp only)
              (first | (go_keep; done) | (simp [go_sem, *]; done))
            clear hK K hHeld
            have hHeld := hHeld2
            clear hHeld2
            (try simp only [Act.put, List.setIfInBounds_toArray, List.set_cons_zero, List.set_cons_succ])
            refine wpAnyH_take (i := 16) (v := ?_) (toArr_get _ 16 _ rfl) (by kernel_rfl) (by kernel_rfl) (by kernel_rfl) (fun _ _ _ h => h) (Or.inl ⟨by rfl, ?_⟩) (by assumption) ?_
            rotate_left
            · (intro w hSw; (try dsimp only at hSw); go_simp; (try with_reducible rfl))
            (try simp only [Act.put, List.setIfInBounds_toArray, List.set_cons_zero, List.set_cons_succ])
            refine wpAnyH_ready (rs := [17]) (by kernel_rfl) (by simp) ?_
            refine AllReadyH.cons (toArr_get _ 17 _ rfl) (fun K hK => ?_) ?_
            · go_simp
              go_at_call 22
              refine (pick_any rb (p + 5) _ _ ?_ ?_).mono ?_
              · first | exact HM3.out.rd | exact HM3.out.rd.alloc _
              · omega
              rintro e w4 ⟨v, rfl, v0, v1, _, hgw4, hrw4⟩
              have hm4 : Mid W0 rb tb (p + 6) 0 D P w4 := by first | exact HM3.out.grow hgw4 hrw4 | exact (HM3.out.alloc _).grow hgw4 hrw4
              have HM4 := Lib.hid hm4
              have n0 := hm4.c0
              have n1 := hm4.c1
              have n3 := hm4.f0
              clear hrw4 hm4 m1 mne
              go_wp2_with fail
              refine hK.out _ _ ?_ (fun hHeld2 => ?_)
              · (try dsimp only)
                (first | (go_keep; done) | (simp [go_sem, *]; done))
              clear hK K hHeld
              have hHeld := hHeld2
              clear hHeld2
              (try simp only [Act.put, List.setIfInBounds_toArray, List.set_cons_zero, List.set_cons_succ])
              refine wpAnyH_take (i := 18) (v := ?_) (toArr_get _ 18 _ rfl) (by kernel_rfl) (by kernel_rfl) (by kernel_rfl) (fun _ _ _ h => h) (Or.inl ⟨by rfl, ?_⟩) (by assumption) ?_
              rotate_left
              · (intro w hSw; (try dsimp only at hSw); go_simp; (try with_reducible rfl))
              (try simp only [Act.put, List.setIfInBounds_toArray, List.set_cons_zero, List.set_cons_succ])
              refine wpAnyH_take (i := 19) (v := ?_) (toArr_get _ 19 _ rfl) (by kernel_rfl) (by kernel_rfl) (by kernel_rfl) (fun _ _ _ h => h) (Or.inl ⟨by rfl, ?_⟩) (by assumption) ?_
              rotate_left
              · (intro w hSw; (try dsimp only at hSw); go_simp; (try with_reducible rfl))
              (try simp only [Act.put, List.setIfInBounds_toArray, List.set_cons_zero, List.set_cons_succ])
              refine wpAnyH_ready (rs := [20]) (by kernel_rfl) (by simp) ?_
              refine AllReadyH.cons (toArr_get _ 20 _ rfl) (fun K hK => ?_) ?_
              · go_simp
                refine hK.out _ _ ?_ (fun hHeld2 => ?_)
                · (try dsimp only)
                  (first | (go_keep; done) | (simp [go_sem, *]; done))
                clear hK K hHeld
                have hHeld := hHeld2
                clear hHeld2
                (try simp only [Act.put, List.setIfInBounds_toArray, List.set_cons_zero, List.set_cons_succ])
                refine wpAnyH_done (by kernel_rfl) ?_ _
                refine NoPanic.normal ?_
                go_wp2_with fail
                go_meet
                have bd := sel3_bd (u := u) (x := D) (m := D) hD0 (Int.le_refl _) (mx_bd (b := D / 2) (m := D) (by omega) hD0).1 (mx_bd (b := D / 2) (m := D) (by omega) hD0).2 (mx_bd (b := D / 3) (m := D) (by omega) hD0).1 (mx_bd (b := D / 3) (m := D) (by omega) hD0).2
                have mb := mn_bd (b := sel3 u D (mx 1 (D / 2)) (mx 1 (D / 3))) bd.1
                have vb := v1 mb.1
                have hw1 : IntKind.i64.wrap (1 + v) = 1 + v := IntWalk.i64_in _ (by omega)
                exact ⟨_, ⟨by omega, by omega, by omega⟩, HM4.out.set0 _⟩
              exact AllReadyH.nil
            exact AllReadyH.nil
          exact AllReadyH.nil
        exact AllReadyH.nil
      exact AllReadyH.nil
      --END 3
    case rest =>
      obtain ⟨C, hCb, hMc⟩ := hcut
      clear HM
      have HM := Lib.hid hMc
      have hC0 : True := trivial
      clear hMc hC0
      go_wp2_with fail
      refine (odd_full rb (p + 6) n _ HM.out.rd (by omega)).mono ?_
      rintro e wd ⟨bo, rfl, hgd, hrd, hbo⟩
      have HBO := Lib.hid hbo
      have HCB := Lib.hid hCb
      clear hbo hCb
      have HM1 := Lib.hid (HM.out.grow hgd hrd)
      clear hrd hgd HM
      go_upto_if 54 with fail
      go_cut [] (fun wx => ∃ C D P : Int, (n ≤ 0 → tvB C D P = true) ∧ Mid W0 rb tb (p + 10) C D P wx)
      case first =>
        cases bo with
        | false =>
          go_wp2_with fail
          go_meet
          exact ⟨C, D, P, fun _ => (tvB_iff C D P).2 (by have := HCB.out; omega), HM1.out.more (by omega)⟩
        | true =>
          go_wp2_with fail
          refine (pick_any rb (p + 7) 3 _ HM1.out.rd (by omega)).mono ?_
          rintro e we ⟨t, rfl, t0, t1, _, hge, hre⟩
          have tp := t1 (by decide)
          have HM := Lib.hid (HM1.out.grow hge hre)
          clear hre hge HM1 t1
          have k0 := HM.out.c0
          have k1 := HM.out.c1
          have k2 := HM.out.c2
          have kf0 := HM.out.f0
          have kf1 := HM.out.f1
          have kf2 := HM.out.f2
          have hltw := HM.out.rd.lt
          by_cases e0 : t = 0
          · subst e0
            have hw3 : IntKind.i64.wrap (D + 1) = D + 1 := IntWalk.i64_in _ (by omega)
            go_wp2
            --REGION 8
            refine wp_region_noPanic ?_
            refine wp_region_held_drew (S := fun w' => w'.cell? ⟨tb, 1, none⟩ = some (.int .i64 D)) (by kernel_rfl) ?_ (fun hHeld => ?_)
            · (try dsimp only)
              (first | (go_keep; done) | (simp [go_sem, *]; done))
            refine wpAnyH_take (i := 0) (v := ?_) (toArr_get _ 0 _ rfl) (by kernel_rfl) (by kernel_rfl) (by kernel_rfl) (fun _ _ _ h => h) (Or.inl ⟨by rfl, ?_⟩) (by assumption) ?_
            rotate_left
            · (intro w hSw; (try dsimp only at hSw); go_simp; (try with_reducible rfl))
            (try simp only [Act.put, List.setIfInBounds_toArray, List.set_cons_zero, List.set_cons_succ])
            refine wpAnyH_take (i := 1) (v := ?_) (toArr_get _ 1 _ rfl) (by kernel_rfl) (by kernel_rfl) (by kernel_rfl) (fun _ _ _ h => h) (Or.inl ⟨by rfl, ?_⟩) (by assumption) ?_
            rotate_left
            · (intro w hSw; (try dsimp only at hSw); go_simp; (try with_reducible rfl))
            (try simp only [Act.put, List.setIfInBounds_toArray, List.set_cons_zero, List.set_cons_succ])
            refine wpAnyH_take (i := 2) (v := ?_) (toArr_get _ 2 _ rfl) (by kernel_rfl) (by kernel_rfl) (by kernel_rfl) (fun _ _ _ h => h) (Or.inl ⟨by rfl, ?_⟩) (by assumption) ?_
            rotate_left
            · (intro w hSw; (try dsimp only at hSw); go_simp; (try with_reducible rfl))
            (try simp only [Act.put, List.setIfInBounds_toArray, List.set_cons_zero, List.set_cons_succ])
            refine wpAnyH_take (i := 4) (v := ?_) (toArr_get _ 4 _ rfl) (by kernel_rfl) (by kernel_rfl) (by kernel_rfl) (fun _ _ _ h => h) (Or.inl ⟨by rfl, ?_⟩) (by assumption) ?_
            rotate_left
            · (intro w hSw; (try dsimp only at hSw); go_simp; (try with_reducible rfl))
            (try simp only [Act.put, List.setIfInBounds_toArray, List.set_cons_zero, List.set_cons_succ])
            refine wpAnyH_ready (rs := [3, 5]) (by kernel_rfl) (by simp) ?_
            refine AllReadyH.cons (toArr_get _ 3 _ rfl) (fun K hK => ?_) ?_
            · go_simp
              refine hK.out _ _ ?_ (fun hHeld2 => ?_)
              · (try dsimp only)
                (first | (go_keep; done) | (simp [go_sem, *]; done))
              clear hK K hHeld
              have hHeld := hHeld2
              clear hHeld2
              (try simp only [Act.put, List.setIfInBounds_toArray, List.set_cons_zero, List.set_cons_succ])
              refine wpAnyH_ready (rs := [5]) (by kernel_rfl) (by simp) ?_
              refine AllReadyH.cons (toArr_get _ 5 _ rfl) (fun K hK => ?_) ?_
              · go_simp
                go_at_call 22
                refine (pick_any rb (p + 8) 4 _ ?_ ?_).mono ?_
                · first | exact HM.out.rd.drew | exact (HM.out.rd.alloc _).drew
                · omega
                rintro e w3 ⟨u, rfl, u0, u1, _, hgw3, hrw3⟩
                have up := u1 (by decide)
                have hm3 : Mid W0 rb tb (p + 9) C D P w3 := by first | exact HM.out.drew.grow hgw3 hrw3 | exact (HM.out.alloc _).drew.grow hgw3 hrw3
                have HM3 := Lib.hid hm3
                have n0 := hm3.c0
                have n1 := hm3.c1
                have n3 := hm3.f0
                have msz := hm3.size
                have mne : tb ≠ w3.heap.size := Nat.ne_of_lt msz
                have hsel := sel4_new u u0 up
                (try have hA := sel4_grown u u0 up (gb_trans (gb_drew (gb_refl _ _)) hgw3) hltw)
                clear hrw3 hm3 u1 k0 k1 k2 kf0 kf1 kf2
                go_wp2_with fail
                refine hK.out _ _ ?_ (fun hHeld2 => ?_)
                · (try dsimp only)
                  (first | (go_keep; done) | (simp [go_sem, *]; done))
                clear hK K hHeld
                have hHeld := hHeld2
                clear hHeld2
                (try simp only [Act.put, List.setIfInBounds_toArray, List.set_cons_zero, List.set_cons_succ])
                refine wpAnyH_take (i := 6) (v := ?_) (toArr_get _ 6 _ rfl) (by kernel_rfl) (by kernel_rfl) (by kernel_rfl) (fun _ _ _ h => h) (Or.inl ⟨by rfl, ?_⟩) (by assumption) ?_
                rotate_left
                · (intro w hSw; (try dsimp only at hSw); go_simp; (try with_reducible rfl))
                (try simp only [Act.put, List.setIfInBounds_toArray, List.set_cons_zero, List.set_cons_succ])
                refine wpAnyH_ready (rs := [7]) (by kernel_rfl) (by simp) ?_
                refine AllReadyH.cons (toArr_get _ 7 _ rfl) (fun K hK => ?_) ?_
                · go_simp
                  refine hK.out _ _ ?_ (fun hHeld2 => ?_)
                  · (try dsimp only)
                    (first | (go_keep; done) | (simp [go_sem, *]; done))
                  clear hK K hHeld
                  have hHeld := hHeld2
                  clear hHeld2
                  (try simp only [Act.put, List.setIfInBounds_toArray, List.set_cons_zero, List.set_cons_succ])
                  refine wpAnyH_take (i := 8) (v := ?_) (toArr_get _ 8 _ rfl) (by kernel_rfl) (by kernel_rfl) (by kernel_rfl) (fun _ _ _ h => h) (Or.inl ⟨by rfl, ?_⟩) (by assumption) ?_
                  rotate_left
                  · (intro w hSw; (try dsimp only at hSw); go_simp; (try with_reducible rfl))
                  (try simp only [Act.put, List.setIfInBounds_toArray, List.set_cons_zero, List.set_cons_succ])
                  refine wpAnyH_ready (rs := [9]) (by kernel_rfl) (by simp) ?_
                  refine AllReadyH.cons (toArr_get _ 9 _ rfl) (fun K hK => ?_) ?_
                  · go_simp
                    refine hK.out _ _ ?_ (fun hHeld2 => ?_)
                    · (try dsimp only)
                      (first | (go_keep; done) | (simp [go_sem, *]; done))
                    clear hK K hHeld
                    have hHeld := hHeld2
                    clear hHeld2
                    (try simp only [Act.put, List.setIfInBounds_toArray, List.set_cons_zero, List.set_cons_succ])
                    refine wpAnyH_done (by kernel_rfl) ?_ _
                    refine NoPanic.normal ?_
                    go_wp2_with fail
                    go_meet
                    first | exact ⟨_, D, P, fun h => absurd (HBO.out h) (by decide), ((HM3.out.set0 _).more (by omega))⟩ | exact ⟨_, D, P, fun h => absurd (HBO.out h) (by decide), (((HM3.out.set0 _).alloc _).more (by omega))⟩
                  exact AllReadyH.nil
                exact AllReadyH.nil
              exact AllReadyH.nil
            refine AllReadyH.cons (toArr_get _ 5 _ rfl) (fun K hK => ?_) ?_
            · go_simp
              go_at_call 22
              refine (pick_any rb (p + 8) 4 _ ?_ ?_).mono ?_
              · first | exact HM.out.rd.drew | exact (HM.out.rd.alloc _).drew
              · omega
              rintro e w3 ⟨u, rfl, u0, u1, _, hgw3, hrw3⟩
              have up := u1 (by decide)
              have hm3 : Mid W0 rb tb (p + 9) C D P w3 := by first | exact HM.out.drew.grow hgw3 hrw3 | exact (HM.out.alloc _).drew.grow hgw3 hrw3
              have HM3 := Lib.hid hm3
              have n0 := hm3.c0
              have n1 := hm3.c1
              have n3 := hm3.f0
              have msz := hm3.size
              have mne : tb ≠ w3.heap.size := Nat.ne_of_lt msz
              have hsel := sel4_new u u0 up
              (try have hA := sel4_grown u u0 up (gb_trans (gb_drew (gb_refl _ _)) hgw3) hltw)
              clear hrw3 hm3 u1 k0 k1 k2 kf0 kf1 kf2
              go_wp2_with fail
              refine hK.out _ _ ?_ (fun hHeld2 => ?_)
              · (try dsimp only)
                (first | (go_keep; done) | (simp [go_sem, *]; done))
              clear hK K hHeld
              have hHeld := hHeld2
              clear hHeld2
              (try simp only [Act.put, List.setIfInBounds_toArray, List.set_cons_zero, List.set_cons_succ])
              refine wpAnyH_ready (rs := [3]) (by kernel_rfl) (by simp) ?_
              refine AllReadyH.cons (toArr_get _ 3 _ rfl) (fun K hK => ?_) ?_
              · go_simp
                refine hK.out _ _ ?_ (fun hHeld2 => ?_)
                · (try dsimp only)
                  (first | (go_keep; done) | (simp [go_sem, *]; done))
                clear hK K hHeld
                have hHeld := hHeld2
                clear hHeld2
                (try simp only [Act.put, List.setIfInBounds_toArray, List.set_cons_zero, List.set_cons_succ])
                refine wpAnyH_take (i := 6) (v := ?_) (toArr_get _ 6 _ rfl) (by kernel_rfl) (by kernel_rfl) (by kernel_rfl) (fun _ _ _ h => h) (Or.inl ⟨by rfl, ?_⟩) (by assumption) ?_
                rotate_left
                · (intro w hSw; (try dsimp only at hSw); go_simp; (try with_reducible rfl))
                (try simp only [Act.put, List.setIfInBounds_toArray, List.set_cons_zero, List.set_cons_succ])
                refine wpAnyH_ready (rs := [7]) (by kernel_rfl) (by simp) ?_
                refine AllReadyH.cons (toArr_get _ 7 _ rfl) (fun K hK => ?_) ?_
                · go_simp
                  refine hK.out _ _ ?_ (fun hHeld2 => ?_)
                  · (try dsimp only)
                    (first | (go_keep; done) | (simp [go_sem, *]; done))
                  clear hK K hHeld
                  have hHeld := hHeld2
                  clear hHeld2
                  (try simp only [Act.put, List.setIfInBounds_toArray, List.set_cons_zero, List.set_cons_succ])
                  refine wpAnyH_take (i := 8) (v := ?_) (toArr_get _ 8 _ rfl) (by kernel_rfl) (by kernel_rfl) (by kernel_rfl) (fun _ _ _ h => h) (Or.inl ⟨by rfl, ?_⟩) (by assumption) ?_
                  rotate_left
                  · (intro w hSw; (try dsimp only at hSw); go_simp; (try with_reducible rfl))
                  (try simp only [Act.put, List.setIfInBounds_toArray, List.set_cons_zero, List.set_cons_succ])
                  refine wpAnyH_ready (rs := [9]) (by kernel_rfl) (by simp) ?_
                  refine AllReadyH.cons (toArr_get _ 9 _ rfl) (fun K hK => ?_) ?_
                  · go_simp
                    refine hK.out _ _ ?_ (fun hHeld2 => ?_)
                    · (try dsimp only)
                      (first | (go_keep; done) | (simp [go_sem, *]; done))
                    clear hK K hHeld
                    have hHeld := hHeld2
                    clear hHeld2
                    (try simp only [Act.put, List.setIfInBounds_toArray, List.set_cons_zero, List.set_cons_succ])
                    refine wpAnyH_done (by kernel_rfl) ?_ _
                    refine NoPanic.normal ?_
                    go_wp2_with fail
                    go_meet
                    first | exact ⟨_, D, P, fun h => absurd (HBO.out h) (by decide), ((HM3.out.set0 _).more (by omega))⟩ | exact ⟨_, D, P, fun h => absurd (HBO.out h) (by decide), (((HM3.out.set0 _).alloc _).more (by omega))⟩
                  exact AllReadyH.nil
                exact AllReadyH.nil
              exact AllReadyH.nil
            exact AllReadyH.nil
            --END 8
          · by_cases e1 : t = 1
            · subst e1
              have hw3 : IntKind.i64.wrap (P + 1) = P + 1 := IntWalk.i64_in _ (by omega)
              go_wp2
              --REGION 10
              refine wp_region_noPanic ?_
              refine wp_region_held_drew (S := fun w' => w'.cell? ⟨tb, 2, none⟩ = some (.int .i64 P)) (by kernel_rfl) ?_ (fun hHeld => ?_)
              · (try dsimp only)
                (first | (go_keep; done) | (simp [go_sem, *]; done))
              refine wpAnyH_take (i := 0) (v := ?_) (toArr_get _ 0 _ rfl) (by kernel_rfl) (by kernel_rfl) (by kernel_rfl) (fun _ _ _ h => h) (Or.inl ⟨by rfl, ?_⟩) (by assumption) ?_
              rotate_left
              · (intro w hSw; (try dsimp only at hSw); go_simp; (try with_reducible rfl))
              (try simp only [Act.put, List.setIfInBounds_toArray, List.set_cons_zero, List.set_cons_succ])
              refine wpAnyH_take (i := 1) (v := ?_) (toArr_get _ 1 _ rfl) (by kernel_rfl) (by kernel_rfl) (by kernel_rfl) (fun _ _ _ h => h) (Or.inl ⟨by rfl, ?_⟩) (by assumption) ?_
              rotate_left
              · (intro w hSw; (try dsimp only at hSw); go_simp; (try with_reducible rfl))
              (try simp only [Act.put, List.setIfInBounds_toArray, List.set_cons_zero, List.set_cons_succ])
              refine wpAnyH_take (i := 2) (v := ?_) (toArr_get _ 2 _ rfl) (by kernel_rfl) (by kernel_rfl) (by kernel_rfl) (fun _ _ _ h => h) (Or.inl ⟨by rfl, ?_⟩) (by assumption) ?_
              rotate_left
              · (intro w hSw; (try dsimp only at hSw); go_simp; (try with_reducible rfl))
              (try simp only [Act.put, List.setIfInBounds_toArray, List.set_cons_zero, List.set_cons_succ])
              refine wpAnyH_take (i := 4) (v := ?_) (toArr_get _ 4 _ rfl) (by kernel_rfl) (by kernel_rfl) (by kernel_rfl) (fun _ _ _ h => h) (Or.inl ⟨by rfl, ?_⟩) (by assumption) ?_
              rotate_left
              · (intro w hSw; (try dsimp only at hSw); go_simp; (try with_reducible rfl))
              (try simp only [Act.put, List.setIfInBounds_toArray, List.set_cons_zero, List.set_cons_succ])
              refine wpAnyH_ready (rs := [3, 5]) (by kernel_rfl) (by simp) ?_
              refine AllReadyH.cons (toArr_get _ 3 _ rfl) (fun K hK => ?_) ?_
              · go_simp
                refine hK.out _ _ ?_ (fun hHeld2 => ?_)
                · (try dsimp only)
                  (first | (go_keep; done) | (simp [go_sem, *]; done))
                clear hK K hHeld
                have hHeld := hHeld2
                clear hHeld2
                (try simp only [Act.put, List.setIfInBounds_toArray, List.set_cons_zero, List.set_cons_succ])
                refine wpAnyH_ready (rs := [5]) (by kernel_rfl) (by simp) ?_
                refine AllReadyH.cons (toArr_get _ 5 _ rfl) (fun K hK => ?_) ?_
                · go_simp
                  go_at_call 22
                  refine (pick_any rb (p + 8) 3 _ ?_ ?_).mono ?_
                  · first | exact HM.out.rd.drew | exact (HM.out.rd.alloc _).drew
                  · omega
                  rintro e w3 ⟨u, rfl, u0, u1, _, hgw3, hrw3⟩
                  have up := u1 (by decide)
                  have hm3 : Mid W0 rb tb (p + 9) C D P w3 := by first | exact HM.out.drew.grow hgw3 hrw3 | exact (HM.out.alloc _).drew.grow hgw3 hrw3
                  have HM3 := Lib.hid hm3
                  have n2 := hm3.c2
                  have n1 := hm3.c1
                  have n3 := hm3.f1
                  have msz := hm3.size
                  have mne : tb ≠ w3.heap.size := Nat.ne_of_lt msz
                  have hsel := sel3_new u u0 up
                  (try have hA := sel3_grown u u0 up (gb_trans (gb_drew (gb_refl _ _)) hgw3) hltw)
                  clear hrw3 hm3 u1 k0 k1 k2 kf0 kf1 kf2
                  go_wp2_with fail
                  refine hK.out _ _ ?_ (fun hHeld2 => ?_)
                  · (try dsimp only)
                    (first | (go_keep; done) | (simp [go_sem, *]; done))
                  clear hK K hHeld
                  have hHeld := hHeld2
                  clear hHeld2
                  (try simp only [Act.put, List.setIfInBounds_toArray, List.set_cons_zero, List.set_cons_succ])
                  refine wpAnyH_take (i := 6) (v := ?_) (toArr_get _ 6 _ rfl) (by kernel_rfl) (by kernel_rfl) (by kernel_rfl) (fun _ _ _ h => h) (Or.inl ⟨by rfl, ?_⟩) (by assumption) ?_
                  rotate_left
                  · (intro w hSw; (try dsimp only at hSw); go_simp; (try with_reducible rfl))
                  (try simp only [Act.put, List.setIfInBounds_toArray, List.set_cons_zero, List.set_cons_succ])
                  refine wpAnyH_ready (rs := [7]) (by kernel_rfl) (by simp) ?_
                  refine AllReadyH.cons (toArr_get _ 7 _ rfl) (fun K hK => ?_) ?_
                  · go_simp
                    refine hK.out _ _ ?_ (fun hHeld2 => ?_)
                    · (try dsimp only)
                      (first | (go_keep; done) | (simp [go_sem, *]; done))
                    clear hK K hHeld
                    have hHeld := hHeld2
                    clear hHeld2
                    (try simp only [Act.put, List.setIfInBounds_toArray, List.set_cons_zero, List.set_cons_succ])
                    refine wpAnyH_take (i := 8) (v := ?_) (toArr_get _ 8 _ rfl) (by kernel_rfl) (by kernel_rfl) (by kernel_rfl) (fun _ _ _ h => h) (Or.inl ⟨by rfl, ?_⟩) (by assumption) ?_
                    rotate_left
                    · (intro w hSw; (try dsimp only at hSw); go_simp; (try with_reducible rfl))
                    (try simp only [Act.put, List.setIfInBounds_toArray, List.set_cons_zero, List.set_cons_succ])
                    refine wpAnyH_ready (rs := [9]) (by kernel_rfl) (by simp) ?_
                    refine AllReadyH.cons (toArr_get _ 9 _ rfl) (fun K hK => ?_) ?_
                    · go_simp
                      refine hK.out _ _ ?_ (fun hHeld2 => ?_)
                      · (try dsimp only)
                        (first | (go_keep; done) | (simp [go_sem, *]; done))
                      clear hK K hHeld
                      have hHeld := hHeld2
                      clear hHeld2
                      (try simp only [Act.put, List.setIfInBounds_toArray, List.set_cons_zero, List.set_cons_succ])
                      refine wpAnyH_done (by kernel_rfl) ?_ _
                      refine NoPanic.normal ?_
                      go_wp2_with fail
                      go_meet
                      first | exact ⟨C, _, P, fun h => absurd (HBO.out h) (by decide), ((HM3.out.set1 _).more (by omega))⟩ | exact ⟨C, _, P, fun h => absurd (HBO.out h) (by decide), (((HM3.out.set1 _).alloc _).more (by omega))⟩
                    exact AllReadyH.nil
                  exact AllReadyH.nil
                exact AllReadyH.nil
              refine AllReadyH.cons (toArr_get _ 5 _ rfl) (fun K hK => ?_) ?_
              · go_simp
                go_at_call 22
                refine (pick_any rb (p + 8) 3 _ ?_ ?_).mono ?_
                · first | exact HM.out.rd.drew | exact (HM.out.rd.alloc _).drew
                · omega
                rintro e w3 ⟨u, rfl, u0, u1, _, hgw3, hrw3⟩
                have up := u1 (by decide)
                have hm3 : Mid W0 rb tb (p + 9) C D P w3 := by first | exact HM.out.drew.grow hgw3 hrw3 | exact (HM.out.alloc _).drew.grow hgw3 hrw3
                have HM3 := Lib.hid hm3
                have n2 := hm3.c2
                have n1 := hm3.c1
                have n3 := hm3.f1
                have msz := hm3.size
                have mne : tb ≠ w3.heap.size := Nat.ne_of_lt msz
                have hsel := sel3_new u u0 up
                (try have hA := sel3_grown u u0 up (gb_trans (gb_drew (gb_refl _ _)) hgw3) hltw)
                clear hrw3 hm3 u1 k0 k1 k2 kf0 kf1 kf2
                go_wp2_with fail
                refine hK.out _ _ ?_ (fun hHeld2 => ?_)
                · (try dsimp only)
                  (first | (go_keep; done) | (simp [go_sem, *]; done))
                clear hK K hHeld
                have hHeld := hHeld2
                clear hHeld2
                (try simp only [Act.put, List.setIfInBounds_toArray, List.set_cons_zero, List.set_cons_succ])
                refine wpAnyH_ready (rs := [3]) (by kernel_rfl) (by simp) ?_
                refine AllReadyH.cons (toArr_get _ 3 _ rfl) (fun K hK => ?_) ?_
                · go_simp
                  refine hK.out _ _ ?_ (fun hHeld2 => ?_)
                  · (try dsimp only)
                    (first | (go_keep; done) | (simp [go_sem, *]; done))
                  clear hK K hHeld
                  have hHeld := hHeld2
                  clear hHeld2
                  (try simp only [Act.put, List.setIfInBounds_toArray, List.set_cons_zero, List.set_cons_succ])
                  refine wpAnyH_take (i := 6) (v := ?_) (toArr_get _ 6 _ rfl) (by kernel_rfl) (by kernel_rfl) (by kernel_rfl) (fun _ _ _ h => h) (Or.inl ⟨by rfl, ?_⟩) (by assumption) ?_
                  rotate_left
                  · (intro w hSw; (try dsimp only at hSw); go_simp; (try with_reducible rfl))
                  (try simp only [Act.put, List.setIfInBounds_toArray, List.set_cons_zero, List.set_cons_succ])
                  refine wpAnyH_ready (rs := [7]) (by kernel_rfl) (by simp) ?_
                  refine AllReadyH.cons (toArr_get _ 7 _ rfl) (fun K hK => ?_) ?_
                  · go_simp
                    refine hK.out _ _ ?_ (fun hHeld2 => ?_)
                    · (try dsimp only)
                      (first | (go_keep; done) | (simp [go_sem, *]; done))
                    clear hK K hHeld
                    have hHeld := hHeld2
                    clear hHeld2
                    (try simp only [Act.put, List.setIfInBounds_toArray, List.set_cons_zero, List.set_cons_succ])
                    refine wpAnyH_take (i := 8) (v := ?_) (toArr_get _ 8 _ rfl) (by kernel_rfl) (by kernel_rfl) (by kernel_rfl) (fun _ _ _ h => h) (Or.inl ⟨by rfl, ?_⟩) (by assumption) ?_
                    rotate_left
                    · (intro w hSw; (try dsimp only at hSw); go_simp; (try with_reducible rfl))
                    (try simp only [Act.put, List.setIfInBounds_toArray, List.set_cons_zero, List.set_cons_succ])
                    refine wpAnyH_ready (rs := [9]) (by kernel_rfl) (by simp) ?_
                    refine AllReadyH.cons (toArr_get _ 9 _ rfl) (fun K hK => ?_) ?_
                    · go_simp
                      refine hK.out _ _ ?_ (fun hHeld2 => ?_)
                      · (try dsimp only)
                        (first | (go_keep; done) | (simp [go_sem, *]; done))
                      clear hK K hHeld
                      have hHeld := hHeld2
                      clear hHeld2
                      (try simp only [Act.put, List.setIfInBounds_toArray, List.set_cons_zero, List.set_cons_succ])
                      refine wpAnyH_done (by kernel_rfl) ?_ _
                      refine NoPanic.normal ?_
                      go_wp2_with fail
                      go_meet
                      first | exact ⟨C, _, P, fun h => absurd (HBO.out h) (by decide), ((HM3.out.set1 _).more (by omega))⟩ | exact ⟨C, _, P, fun h => absurd (HBO.out h) (by decide), (((HM3.out.set1 _).alloc _).more (by omega))⟩
                    exact AllReadyH.nil
                  exact AllReadyH.nil
                exact AllReadyH.nil
              exact AllReadyH.nil
              --END 10
            · have e0' : (t == 0) = false := by simpa using e0
              have e1' : (t == 1) = false := by simpa using e1
              clear e0 e1
              go_wp2_with fail
              refine (pick_any rb (p + 8) 3 _ (HM.out.rd.alloc _) (by omega)).mono ?_
              rintro e w3 ⟨u, rfl, u0, u1, _, hg3, hr3⟩
              have up := u1 (by decide)
              have HM3 := Lib.hid ((HM.out.alloc _).grow hg3 hr3)
              have hA := sel3_grown u u0 up hg3 hltw
              have n2 := HM3.out.c2
              have n3 := HM3.out.f2
              clear hr3 u1 k0 k1 k2 kf0 kf1 kf2
              go_wp2_with fail
              go_meet
              exact ⟨C, D, _, fun h => absurd (HBO.out h) (by decide), (HM3.out.set2 _).more (by omega)⟩
      case rest =>
        obtain ⟨C', D', P', hval, hMe⟩ := hcut
        have HVAL := Lib.hid hval
        clear hval
        have HE := Lib.hid hMe
        have c0 := hMe.c0
        have c1 := hMe.c1
        have c2 := hMe.c2
        have hW := HW0.out
        have hgw : (w.alloc (.cells #[.int .i64 0, .int .i64 0, .int .i64 0] 29)).grownBy wc (some rb) := by rw [hW]; exact hMe.gb
        clear hW hMe
        have x0 : wc.cell? ⟨w.heap.size, 0, none⟩ = some (.int .i64 0) := by rw [gb_cell hgw (p := ⟨w.heap.size, 0, none⟩) (by simp) (by simp; omega)]; go_simp
        have x1 : wc.cell? ⟨w.heap.size, 1, none⟩ = some (.int .i64 0) := by rw [gb_cell hgw (p := ⟨w.heap.size, 1, none⟩) (by simp) (by simp; omega)]; go_simp
        have x2 : wc.cell? ⟨w.heap.size, 2, none⟩ = some (.int .i64 0) := by rw [gb_cell hgw (p := ⟨w.heap.size, 2, none⟩) (by simp) (by simp; omega)]; go_simp
        have f0 : wc.frozen? ⟨w.heap.size, 0, none⟩ = false := by rw [gb_frozen hgw (p := ⟨w.heap.size, 0, none⟩) (by simp) (by simp; omega)]; go_simp
        have f1 : wc.frozen? ⟨w.heap.size, 1, none⟩ = false := by rw [gb_frozen hgw (p := ⟨w.heap.size, 1, none⟩) (by simp) (by simp; omega)]; go_simp
        have f2 : wc.frozen? ⟨w.heap.size, 2, none⟩ = false := by rw [gb_frozen hgw (p := ⟨w.heap.size, 2, none⟩) (by simp) (by simp; omega)]; go_simp
        go_wp2
        refine bodyPost_ret (v := .agg #[.int .i64 C', .int .i64 D', .int .i64 P']) ?_ rfl ⟨C', D', P', rfl, gb_set (gb_set (gb_set (gb_trans (gb_below (below_box _ _)) hgw) (.inr (Nat.le_refl _)) _) (.inr (Nat.le_refl _)) _) (.inr (Nat.le_refl _)) _, ((HE.out.rd.set hlt _).set hlt _).set hlt _, HVAL.out⟩
        simp [results, Tryz.results46, go_sem, x0, x1, x2]
theorem l20Task_any (rb p : Nat) (n : Int) (w : World) (hr : Rd w rb p) (hp : p ≤ 900000000) :
    Calls Tryz.prog 46 #[.pointer (some ⟨rb, 0, none⟩), .int .i64 n] w (Drawn rb p w) :=
  (l20Task_full rb p n w hr hp).mono fun _ _ ⟨a, b, c, h1, h2, h3, _⟩ => ⟨a, b, c, h1, h2, h3⟩
end Go.Proofs.YtdgihkmiolnglaaGreatDoor
