/- Contracts of the reader of code bytes: (*spec.l20Rd).pick, (*spec.l20Rd).odd, spec.l20Open. What is drawn is not told, only its bounds. Conditions: the reader's two cells are as they should be; its place is at most 10^9. -/
import Derived.Test.YtdgihkmiolnglaaGreatDoorBase
import Derived.Laws.AppendOwn
import Derived.Laws.BitsAllLaws
import Derived.Laws.BitsLemmas
namespace Go.Proofs.YtdgihkmiolnglaaGreatDoor
open Go.RowKit

/-! ### Only block rb, and what is new, has turned -/
theorem gb_refl (w : World) (rb : Nat) : w.grownBy w (some rb) := ⟨rfl, rfl, rfl, Nat.le_refl _, fun _ _ _ => rfl⟩
theorem gb_trans {a b c : World} {rb : Nat} (h : a.grownBy b (some rb)) (k : b.grownBy c (some rb)) : a.grownBy c (some rb) :=
  ⟨k.os.trans h.os, k.tape.trans h.tape, k.output.trans h.output, Nat.le_trans h.size k.size, fun i hi hne => (k.block i (Nat.lt_of_lt_of_le hi h.size) hne).trans (h.block i hi hne)⟩
theorem gb_drewN {a w : World} {rb : Nat} (h : a.grownBy w (some rb)) (n : Nat) : a.grownBy (w.drewN n) (some rb) := ⟨h.os, h.tape, h.output, h.size, h.block⟩
theorem gb_drew {a w : World} {rb : Nat} (h : a.grownBy w (some rb)) : a.grownBy w.drew (some rb) := ⟨h.os, h.tape, h.output, h.size, h.block⟩
theorem gb_below {a w : World} {rb : Nat} (h : Below a.heap.size a w) : a.grownBy w (some rb) := ⟨h.os, h.tape, h.output, h.size, fun i hi _ => h.block i hi⟩
theorem gb_alloc {a w : World} {rb : Nat} (h : a.grownBy w (some rb)) (o : Obj) : a.grownBy (w.alloc o) (some rb) := gb_trans h (gb_below (below_box _ _))
theorem gb_set {a w : World} {rb : Nat} (h : a.grownBy w (some rb)) {p : Addr} (hp : p.block = rb ∨ a.heap.size ≤ p.block) (u : Value) : a.grownBy (w.setCell p u) (some rb) :=
  ⟨h.os, h.tape, h.output, by simpa [World.setCell] using h.size, fun i hi hne => (Below.heap_setCell w p u i (by
    rintro rfl
    rcases hp with hp | hp
    · exact hne (by rw [hp])
    · omega)).trans (h.block i hi hne)⟩
theorem gb_to_below {a w : World} {rb B : Nat} (h : a.grownBy w (some rb)) (hB : B ≤ rb) (hs : B ≤ a.heap.size) : Below B a w :=
  ⟨h.os, h.tape, h.output, h.size, fun i hi => h.block i (by omega) (by simp; omega)⟩
theorem gb_cell {a w : World} {rb : Nat} (h : a.grownBy w (some rb)) {p : Addr} (hp : p.block < a.heap.size) (hne : p.block ≠ rb) : w.cell? p = a.cell? p :=
  World.cell?_of_block (w := a) (h.block p.block hp (by simpa using hne))
theorem gb_frozen {a w : World} {rb : Nat} (h : a.grownBy w (some rb)) {p : Addr} (hp : p.block < a.heap.size) (hne : p.block ≠ rb) : w.frozen? p = a.frozen? p :=
  World.frozen?_of_block (w := a) (h.block p.block hp (by simpa using hne))

/-! ### The reader -/
/-- The bytes that a slice holds, all of them in blocks below rb. -/
def Bts (w : World) (rb : Nat) (a : Option Addr) (len : Nat) : Prop :=
  ∀ k, k < len → ∃ b off, a = some ⟨b, off, none⟩ ∧ b < rb ∧ ∃ z : Nat, z ≤ 255 ∧ w.cell? ⟨b, off + k, none⟩ = some (.int .u8 z)
/-- A slice of bytes that came in. -/
def Byts (w : World) (a : Option Addr) (len cap : Nat) : Prop := Bts w w.heap.size a len ∧ len ≤ cap ∧ cap ≤ maxLen
/-- Block rb is a reader whose place is at most p. -/
def Rd (w : World) (rb p : Nat) : Prop :=
  ∃ (a : Option Addr) (len cap q : Nat), len ≤ 2000 ∧ q ≤ p ∧ rb < w.heap.size ∧ Bts w rb a len ∧ w.cell? ⟨rb, 0, none⟩ = some (.slice a len cap) ∧ w.cell? ⟨rb, 1, none⟩ = some (.int .i64 q) ∧ w.frozen? ⟨rb, 1, none⟩ = false

theorem Bts.kept {w w' : World} {rb : Nat} {a : Option Addr} {len : Nat} (h : Bts w rb a len) (hk : ∀ i, i < rb → w'.heap[i]? = w.heap[i]?) : Bts w' rb a len := by
  intro k hk'
  obtain ⟨b, off, ha, hb, z, hz, hc⟩ := h k hk'
  exact ⟨b, off, ha, hb, z, hz, (World.cell?_of_block (w := w) (a := ⟨b, off + k, none⟩) (hk b hb)).trans hc⟩
theorem Rd.kept {w w' : World} {rb p : Nat} (h : Rd w rb p) (hs : w.heap.size ≤ w'.heap.size) (hk : ∀ i, i ≤ rb → w'.heap[i]? = w.heap[i]?) : Rd w' rb p := by
  obtain ⟨a, len, cap, q, h1, h2, h3, h4, h5, h6, h7⟩ := h
  exact ⟨a, len, cap, q, h1, h2, by omega, h4.kept fun i hi => hk i (by omega), (World.cell?_of_block (w := w) (a := ⟨rb, 0, none⟩) (hk rb (Nat.le_refl _))).trans h5, (World.cell?_of_block (w := w) (a := ⟨rb, 1, none⟩) (hk rb (Nat.le_refl _))).trans h6, (World.frozen?_of_block (w := w) (a := ⟨rb, 1, none⟩) (hk rb (Nat.le_refl _))).trans h7⟩
theorem Rd.lt {w : World} {rb p : Nat} (h : Rd w rb p) : rb < w.heap.size := by obtain ⟨a, len, cap, q, h1, h2, h3, _⟩ := h; exact h3
theorem Rd.below {w w' : World} {rb p : Nat} (h : Rd w rb p) (hb : Below w.heap.size w w') : Rd w' rb p := h.kept hb.size fun i hi => hb.block i (by have := h.lt; omega)
theorem Rd.alloc {w : World} {rb p : Nat} (h : Rd w rb p) (o : Obj) : Rd (w.alloc o) rb p := h.below (below_box _ _)
theorem Rd.drewN {w : World} {rb p : Nat} (h : Rd w rb p) (n : Nat) : Rd (w.drewN n) rb p := h.kept (Nat.le_refl _) fun _ _ => rfl
theorem Rd.drew {w : World} {rb p : Nat} (h : Rd w rb p) : Rd w.drew rb p := h.kept (Nat.le_refl _) fun _ _ => rfl
theorem Rd.set {w : World} {rb p : Nat} (h : Rd w rb p) {x : Addr} (hx : rb < x.block) (u : Value) : Rd (w.setCell x u) rb p :=
  h.kept (by simp [World.setCell]) fun i hi => Below.heap_setCell w x u i (by omega)
theorem Rd.mono {w : World} {rb p p' : Nat} (h : Rd w rb p) (hp : p ≤ p') : Rd w rb p' := by
  obtain ⟨a, len, cap, q, h1, h2, h3⟩ := h
  exact ⟨a, len, cap, q, h1, by omega, h3⟩

/-- What pick leaves. -/
def Picked (rb p : Nat) (n : Int) (w : World) (e : Ending) (w' : World) : Prop :=
  ∃ v : Int, e = .returned (.int .i64 v) ∧ 0 ≤ v ∧ (1 ≤ n → v < n) ∧ (n < 1 → v = 0) ∧ w.grownBy w' (some rb) ∧ Rd w' rb (p + 1)

theorem toNat_mod (q len : Nat) : (((q : Int) * 7 + 3) % len).toNat = (q * 7 + 3) % len := by
  have e : (q : Int) * 7 + 3 = ((q * 7 + 3 : Nat) : Int) := by simp
  rw [e, ← Int.natCast_emod, Int.toNat_natCast]
theorem step_gb (w : World) (rb : Nat) (j : Nat) (u : Value) (_h : rb < w.heap.size) : w.grownBy (w.setCell ⟨rb, j, none⟩ u) (some rb) := gb_set (gb_refl _ _) (.inl rfl) _
theorem step_rd {w : World} {rb p len cap q : Nat} {a : Option Addr} (h1 : len ≤ 2000) (h2 : q ≤ p) (h3 : rb < w.heap.size) (h4 : Bts w rb a len) (h5 : w.cell? ⟨rb, 0, none⟩ = some (.slice a len cap)) (h6 : w.cell? ⟨rb, 1, none⟩ = some (.int .i64 q)) (h7 : w.frozen? ⟨rb, 1, none⟩ = false) :
    Rd (w.setCell ⟨rb, 1, none⟩ (.int .i64 ((q : Int) + 1))) rb (p + 1) :=
  ⟨a, len, cap, q + 1, h1, by omega, by simpa [World.setCell] using h3, h4.kept fun i hi => Below.heap_setCell w _ _ i (by simp; omega), by simp [go_sem, h5], by simp [go_sem, h6], by simp [go_sem, h7]⟩
theorem xor_nat (a b : Nat) (ha : a ≤ 1099511627776) (hb : b ≤ 1099511627776) : bits .xor .i64 (a : Int) (b : Int) = ((a ^^^ b : Nat) : Int) := by
  have hx : a ^^^ b < 2 ^ 63 := Nat.xor_lt_two_pow (by omega) (by omega)
  have e1 : (BitVec.ofInt 64 (a : Int)).toNat = a := by rw [BitVec.ofInt_natCast, BitVec.toNat_ofNat]; exact Nat.mod_eq_of_lt (by omega)
  have e2 : (BitVec.ofInt 64 (b : Int)).toNat = b := by rw [BitVec.ofInt_natCast, BitVec.toNat_ofNat]; exact Nat.mod_eq_of_lt (by omega)
  show IntKind.i64.wrap ((BitVec.ofInt 64 (a : Int) ^^^ BitVec.ofInt 64 (b : Int)).toNat : Int) = _
  rw [BitVec.toNat_xor, e1, e2]
  exact IntWalk.i64_in _ (by omega)

theorem xor_mod (X n : Int) (h0 : 0 ≤ X) (h1 : X ≤ 1099511627776) (hn : 1 ≤ n) : 0 ≤ (bits .xor .i64 X (X / 64)).tmod n ∧ (bits .xor .i64 X (X / 64)).tmod n < n := by
  obtain ⟨x, rfl⟩ := Int.eq_ofNat_of_zero_le h0
  have e : ((x : Int) / 64) = ((x / 64 : Nat) : Int) := by simp
  have hd : x / 64 ≤ x := Nat.div_le_self _ _
  have e2 := xor_nat x (x / 64) (by omega) (by omega)
  rw [e, e2, Int.tmod_eq_emod_of_nonneg (by omega)]
  exact ⟨Int.emod_nonneg _ (by omega), Int.emod_lt_of_pos _ (by omega)⟩

set_option maxHeartbeats 1000000 in
/-- (*spec.l20Rd).pick. -/
theorem pick_any (rb p : Nat) (n : Int) (w : World) (hr : Rd w rb p) (hp : p ≤ 1000000000) :
    Calls Tryz.prog 22 #[.pointer (some ⟨rb, 0, none⟩), .int .i64 n] w (Picked rb p n w) := by
  obtain ⟨a, len, cap, q, h1, h2, h3, h4, h5, h6, h7⟩ := hr
  have H4 := Lib.hid h4
  clear h4
  by_cases hn : n < 1
  · go_enter Tryz.func22, Tryz.ntmps22
    go_wp2
    go_ret
    exact ⟨0, rfl, Int.le_refl _, fun h => by omega, fun _ => rfl, step_gb _ _ _ _ h3, step_rd h1 h2 h3 H4.out h5 h6 h7⟩
  have hn' : 1 ≤ n := by omega
  by_cases hl : len = 0
  · subst hl
    go_enter Tryz.func22, Tryz.ntmps22
    go_wp2
    go_ret
    exact ⟨0, rfl, Int.le_refl _, fun h => by omega, fun _ => rfl, step_gb _ _ _ _ h3, step_rd h1 h2 h3 H4.out h5 h6 h7⟩
  have hl' : ((len : Int) == 0) = false := by simp; omega
  have hlp : (0 : Int) < len := by omega
  by_cases hq : q < len
  · obtain ⟨b, off, rfl, hb, z, hz, hc⟩ := H4.out q hq
    go_enter Tryz.func22, Tryz.ntmps22
    go_wp2
    go_ret
    exact ⟨(z : Int) % n, rfl, Int.emod_nonneg _ (by omega), fun h => Int.emod_lt_of_pos _ (by omega), fun h => by omega, step_gb _ _ _ _ h3, step_rd h1 h2 h3 H4.out h5 h6 h7⟩
  · obtain ⟨b, off, rfl, hb, z, hz, hc⟩ := H4.out (q % len) (Nat.mod_lt _ (by omega))
    obtain ⟨b', off', hbo, hb', z', hz', hc'⟩ := H4.out ((q * 7 + 3) % len) (Nat.mod_lt _ (by omega))
    obtain ⟨rfl, rfl⟩ : b = b' ∧ off = off' := by simpa using hbo
    have hm0 : (0 : Int) ≤ (q : Int) % len := Int.emod_nonneg _ (by omega)
    have hm1 : (q : Int) % len < len := Int.emod_lt_of_pos _ hlp
    have hm2 : ((q : Int) % len).toNat = q % len := by omega
    have hs0 : (0 : Int) ≤ ((q : Int) * 7 + 3) % len := Int.emod_nonneg _ (by omega)
    have hs1 : ((q : Int) * 7 + 3) % len < len := Int.emod_lt_of_pos _ hlp
    have hs2 : (((q : Int) * 7 + 3) % len).toNat = (q * 7 + 3) % len := toNat_mod q len
    have hd0 : (0 : Int) ≤ (q : Int) / len := Int.ediv_nonneg (by omega) (by omega)
    have hd1 : (q : Int) / len ≤ 1000000000 := Int.le_trans (Int.ediv_le_self _ (by omega)) (by omega)
    go_enter Tryz.func22, Tryz.ntmps22
    go_wp2
    go_quiet (fail)
    go_wp2
    go_ret
    have hX := xor_mod ((z : Int) * 131 + z' * 1117 + q * 29 + (q : Int) / len * 53) n (by omega) (by omega) hn'
    exact ⟨_, rfl, hX.1, fun _ => hX.2, fun h => by omega, gb_drewN (step_gb _ _ _ _ h3) _, (step_rd h1 h2 h3 H4.out h5 h6 h7).drewN _⟩
end Go.Proofs.YtdgihkmiolnglaaGreatDoor
