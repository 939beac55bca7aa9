/- Contracts of the functions that draw a task: (*spec.l20Rd).odd, spec.l20Open, spec.l20Task. What is drawn is not told. Conditions: the reader's two cells are as they should be; its place is at most 5*10^8. -/
import Derived.Test.YtlcdmjcikbgnpaaRead
import Derived.Deep.RegionHeld3
import Derived.Deep.DeepCutAuto
namespace Go.Proofs.Ytlcdmjcikbgnpaa
open Go.RowKit

def Odded (rb p : Nat) (w : World) (e : Ending) (w' : World) : Prop :=
  ∃ b : Bool, e = .returned (.bool b) ∧ w.grownBy w' (some rb) ∧ Rd w' rb (p + 1)

/-- (*spec.l20Rd).odd; never, if n is 0. -/
theorem odd_full (rb p : Nat) (n : Int) (w : World) (hr : Rd w rb p) (hp : p ≤ 1000000000) :
    Calls Try.prog 53 #[.pointer (some ⟨rb, 0, none⟩), .int .i64 n] w fun e w' => ∃ b : Bool, e = .returned (.bool b) ∧ w.grownBy w' (some rb) ∧ Rd w' rb (p + 1) ∧ (n ≤ 0 → b = false) := by
  have HR := Lib.hid hr
  clear hr
  by_cases hn : 0 < n
  · go_enter Try.func53, Try.ntmps53
    go_wp2_with fail
    refine (pick_any rb p n w HR.out hp).mono ?_
    rintro e w1 ⟨v, rfl, v0, v1, _, hg, hr1⟩
    have HR1 := Lib.hid hr1
    clear hr1
    go_wp2
    go_ret
    exact ⟨_, rfl, hg, HR1.out, fun h => by omega⟩
  · have hn' : ¬ (n > 0) := hn
    go_enter Try.func53, Try.ntmps53
    go_wp2
    go_ret
    first | exact ⟨_, rfl, gb_refl _ _, HR.out.mono (by omega), fun _ => rfl⟩ | exact ⟨rfl, gb_refl _ _, HR.out.mono (by omega)⟩
theorem odd_any (rb p : Nat) (n : Int) (w : World) (hr : Rd w rb p) (hp : p ≤ 1000000000) :
    Calls Try.prog 53 #[.pointer (some ⟨rb, 0, none⟩), .int .i64 n] w (Odded rb p w) :=
  (odd_full rb p n w hr hp).mono fun _ _ ⟨b, h1, h2, h3, _⟩ => ⟨b, h1, h2, h3⟩

theorem rd_new {w : World} {a : Option Addr} {len cap t : Nat} (h : len ≤ 2000) (hb : Bts w w.heap.size a len) : Rd (w.alloc (.cells #[.slice a len cap, .int .i64 0] t)) w.heap.size 0 :=
  ⟨a, len, cap, 0, h, Nat.le_refl _, by simp, hb.kept fun i hi => Below.heap_alloc w _ i hi, by simp [go_sem], by simp [go_sem], by simp [go_sem]⟩

/-- spec.l20Open. -/
theorem l20Open_any (a : Option Addr) (len cap : Nat) (w : World) (hb : Bts w w.heap.size a len) (hc : len ≤ cap) (hm : cap ≤ maxLen) :
    Calls Try.prog 38 #[.slice a len cap] w fun e w' => e = .returned (.pointer (some ⟨w.heap.size, 0, none⟩)) ∧ Rd w' w.heap.size 0 ∧ Below w.heap.size w w' ∧ w'.heap.size = w.heap.size + 1 := by
  have HB := Lib.hid hb
  clear hb
  unfold maxLen at hm
  by_cases h : 2000 < len
  · have h' : (2000 : Int) < len := by omega
    have h2 : (2000 : Int) ≤ cap := by omega
    obtain ⟨b, off, rfl, hb, _⟩ := HB.out 0 (by omega)
    go_enter Try.func38, Try.ntmps38
    go_wp2
    go_ret
    exact ⟨rfl, rd_new (by omega) (fun k hk => HB.out k (by omega)), below_box _ _, by simp⟩
  · have h' : ¬ (2000 : Int) < len := by omega
    go_enter Try.func38, Try.ntmps38
    go_wp2
    go_ret
    exact ⟨rfl, rd_new (by omega) HB.out, below_box _ _, by simp⟩

/-- A task was drawn. -/
def Drawn (rb p : Nat) (w : World) (e : Ending) (w' : World) : Prop :=
  ∃ a b c : Int, e = .returned (.agg #[.int .i64 a, .int .i64 b, .int .i64 c]) ∧ w.grownBy w' (some rb) ∧ Rd w' rb (p + 10)

/-- The task under way: block tb holds cost C, deadline D, period P; the reader stands at q at most; since W0 only the reader and new blocks have turned. -/
structure Mid (W0 : World) (rb tb q : Nat) (C D P : Int) (wx : World) : Prop where
  gb : W0.grownBy wx (some rb)
  rd : Rd wx rb q
  lt : rb < tb
  old : W0.heap.size ≤ tb
  size : tb < wx.heap.size
  c0 : wx.cell? ⟨tb, 0, none⟩ = some (.int .i64 C)
  c1 : wx.cell? ⟨tb, 1, none⟩ = some (.int .i64 D)
  c2 : wx.cell? ⟨tb, 2, none⟩ = some (.int .i64 P)
  f0 : wx.frozen? ⟨tb, 0, none⟩ = false
  f1 : wx.frozen? ⟨tb, 1, none⟩ = false
  f2 : wx.frozen? ⟨tb, 2, none⟩ = false

theorem Mid.grow {W0 wx wy : World} {rb tb q q' : Nat} {C D P : Int} (h : Mid W0 rb tb q C D P wx) (hg : wx.grownBy wy (some rb)) (hr : Rd wy rb q') : Mid W0 rb tb q' C D P wy :=
  have hne : tb ≠ rb := by have := h.lt; omega
  ⟨gb_trans h.gb hg, hr, h.lt, h.old, Nat.lt_of_lt_of_le h.size hg.size,
    (gb_cell hg (p := ⟨tb, 0, none⟩) h.size hne).trans h.c0, (gb_cell hg (p := ⟨tb, 1, none⟩) h.size hne).trans h.c1, (gb_cell hg (p := ⟨tb, 2, none⟩) h.size hne).trans h.c2,
    (gb_frozen hg (p := ⟨tb, 0, none⟩) h.size hne).trans h.f0, (gb_frozen hg (p := ⟨tb, 1, none⟩) h.size hne).trans h.f1, (gb_frozen hg (p := ⟨tb, 2, none⟩) h.size hne).trans h.f2⟩
theorem Mid.alloc {W0 wx : World} {rb tb q : Nat} {C D P : Int} (h : Mid W0 rb tb q C D P wx) (o : Obj) : Mid W0 rb tb q C D P (wx.alloc o) := h.grow (gb_below (below_box _ _)) (h.rd.alloc _)
theorem Mid.drew {W0 wx : World} {rb tb q : Nat} {C D P : Int} (h : Mid W0 rb tb q C D P wx) : Mid W0 rb tb q C D P wx.drew := h.grow (gb_drew (gb_refl _ _)) h.rd.drew
theorem Mid.set1 {W0 wx : World} {rb tb q : Nat} {C D P : Int} (h : Mid W0 rb tb q C D P wx) (x : Int) : Mid W0 rb tb q C x P (wx.setCell ⟨tb, 1, none⟩ (.int .i64 x)) :=
  ⟨gb_set h.gb (.inr h.old) _, h.rd.set h.lt _, h.lt, h.old, by simpa [World.setCell] using h.size, by simp [go_sem, h.c0], by simp [go_sem, h.c1], by simp [go_sem, h.c2], by simp [go_sem, h.f0], by simp [go_sem, h.f1], by simp [go_sem, h.f2]⟩
theorem Mid.set0 {W0 wx : World} {rb tb q : Nat} {C D P : Int} (h : Mid W0 rb tb q C D P wx) (x : Int) : Mid W0 rb tb q x D P (wx.setCell ⟨tb, 0, none⟩ (.int .i64 x)) :=
  ⟨gb_set h.gb (.inr h.old) _, h.rd.set h.lt _, h.lt, h.old, by simpa [World.setCell] using h.size, by simp [go_sem, h.c0], by simp [go_sem, h.c1], by simp [go_sem, h.c2], by simp [go_sem, h.f0], by simp [go_sem, h.f1], by simp [go_sem, h.f2]⟩
theorem Mid.set2 {W0 wx : World} {rb tb q : Nat} {C D P : Int} (h : Mid W0 rb tb q C D P wx) (x : Int) : Mid W0 rb tb q C D x (wx.setCell ⟨tb, 2, none⟩ (.int .i64 x)) :=
  ⟨gb_set h.gb (.inr h.old) _, h.rd.set h.lt _, h.lt, h.old, by simpa [World.setCell] using h.size, by simp [go_sem, h.c0], by simp [go_sem, h.c1], by simp [go_sem, h.c2], by simp [go_sem, h.f0], by simp [go_sem, h.f1], by simp [go_sem, h.f2]⟩

/-- One of the numbers of a list that was laid as a block. -/
theorem ints_new {w w2 : World} {rb t j : Nat} (l : List Int) (hg : (w.alloc (.cells (l.map (Value.int .i64)).toArray t)).grownBy w2 (some rb)) (hr : rb < w.heap.size) (hj : j < l.length) :
    ∃ P : Int, P ∈ l ∧ w2.cell? ⟨w.heap.size, j, none⟩ = some (.int .i64 P) := by
  refine ⟨l[j], List.getElem_mem hj, ?_⟩
  rw [gb_cell hg (p := ⟨w.heap.size, j, none⟩) (by simp) (by simp; omega)]
  simp [go_sem, hj]

theorem toArr_get {α : Type} (l : List α) (i : Nat) (x : α) (h : l[i]? = some x) : l.toArray[i]? = some x := by simpa using h
def mx (a b : Int) : Int := if a < b then b else a
def mn (a b : Int) : Int := if b < a then b else a
theorem mx_rule : ∀ a b : Int, (if a < b then b else a) = mx a b := fun _ _ => rfl
theorem mn_rule : ∀ a b : Int, (if b < a then b else a) = mn a b := fun _ _ => rfl
theorem Mid.more {W0 wx : World} {rb tb q q' : Nat} {C D P : Int} (h : Mid W0 rb tb q C D P wx) (hq : q ≤ q') : Mid W0 rb tb q' C D P wx := { h with rd := h.rd.mono hq }
def sel4 (u x y z t : Int) : Int := if u = 0 then x else if u = 1 then y else if u = 2 then z else t
theorem sel4_new (u : Int) (h0 : 0 ≤ u) (h1 : u < 4) : ∀ (W : World) (t : TypeId) (x y z a : Int), (W.alloc (.cells #[.int .i64 x, .int .i64 y, .int .i64 z, .int .i64 a] t)).cell? ⟨W.heap.size, u.toNat, none⟩ = some (.int .i64 (sel4 u x y z a)) := by
  intro W t x y z a
  have h : (#[Value.int .i64 x, .int .i64 y, .int .i64 z, .int .i64 a] : Array Value)[u.toNat]? = some (.int .i64 (sel4 u x y z a)) := by
    have : u = 0 ∨ u = 1 ∨ u = 2 ∨ u = 3 := by omega
    rcases this with rfl | rfl | rfl | rfl <;> simp [sel4]
  rw [← h]
  simp [go_sem]
theorem sel4_grown (u : Int) (h0 : 0 ≤ u) (h1 : u < 4) {W w' : World} {t rb : Nat} {x y z a : Int} (hg : (W.alloc (.cells #[.int .i64 x, .int .i64 y, .int .i64 z, .int .i64 a] t)).grownBy w' (some rb)) (hr : rb < W.heap.size) : w'.cell? ⟨W.heap.size, u.toNat, none⟩ = some (.int .i64 (sel4 u x y z a)) :=
  (gb_cell hg (p := ⟨W.heap.size, u.toNat, none⟩) (by simp) (by simp; omega)).trans (sel4_new u h0 h1 W t x y z a)
def sel3 (u x y z : Int) : Int := if u = 0 then x else if u = 1 then y else z
theorem sel3_bd {u x y z m : Int} (a1 : 1 ≤ x) (a2 : x ≤ m) (b1 : 1 ≤ y) (b2 : y ≤ m) (c1 : 1 ≤ z) (c2 : z ≤ m) : 1 ≤ sel3 u x y z ∧ sel3 u x y z ≤ m := by
  unfold sel3
  split
  · exact ⟨a1, a2⟩
  · split
    · exact ⟨b1, b2⟩
    · exact ⟨c1, c2⟩
theorem mx_bd {b m : Int} (h : b ≤ m) (hm : 1 ≤ m) : 1 ≤ mx 1 b ∧ mx 1 b ≤ m := by
  unfold mx
  split <;> omega
theorem mn_bd {b : Int} (h : 1 ≤ b) : 1 ≤ mn 8 b ∧ mn 8 b ≤ b ∧ mn 8 b ≤ 8 := by
  unfold mn
  split <;> omega
theorem sel3_at (u : Int) (h0 : 0 ≤ u) (h1 : u < 3) (x y z : Int) : (#[Value.int .i64 x, .int .i64 y, .int .i64 z] : Array Value)[u.toNat]? = some (.int .i64 (sel3 u x y z)) := by
  have : u = 0 ∨ u = 1 ∨ u = 2 := by omega
  rcases this with rfl | rfl | rfl <;> simp [sel3]
theorem sel3_new (u : Int) (h0 : 0 ≤ u) (h1 : u < 3) : ∀ (W : World) (t : TypeId) (x y z : Int), (W.alloc (.cells #[.int .i64 x, .int .i64 y, .int .i64 z] t)).cell? ⟨W.heap.size, u.toNat, none⟩ = some (.int .i64 (sel3 u x y z)) := by
  intro W t x y z
  have h := sel3_at u h0 h1 x y z
  rw [← h]
  simp [go_sem]

theorem sel3_grown (u : Int) (h0 : 0 ≤ u) (h1 : u < 3) {W w' : World} {t rb : Nat} {x y z : Int} (hg : (W.alloc (.cells #[.int .i64 x, .int .i64 y, .int .i64 z] t)).grownBy w' (some rb)) (hr : rb < W.heap.size) : w'.cell? ⟨W.heap.size, u.toNat, none⟩ = some (.int .i64 (sel3 u x y z)) :=
  (gb_cell hg (p := ⟨W.heap.size, u.toNat, none⟩) (by simp) (by simp; omega)).trans (sel3_new u h0 h1 W t x y z)

end Go.Proofs.Ytlcdmjcikbgnpaa
