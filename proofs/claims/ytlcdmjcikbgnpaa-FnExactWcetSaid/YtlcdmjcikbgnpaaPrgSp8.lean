/- The spans of a program's nodes as plain arithmetic, and their bound. No dump. -/
import Derived.Test.YtlcdmjcikbgnpaaPrg
namespace Go.Proofs.Ytlcdmjcikbgnpaa

/-- The choice with which a node takes its worst case. -/
def chc8 (ps : List N5) (k : Nat) : Nat :=
  if (nd8 ps k).1 = 3 then (if wc8 true ps (nd8 ps k).2.2.1.toNat < wc8 true ps (nd8 ps k).2.2.2.1.toNat then 1 else 0) else if (nd8 ps k).1 = 4 then (nd8 ps k).2.2.2.2.toNat else 0
def sp8 (ps : List N5) (k : Nat) : T3 := ((wc8 true ps k : Nat), (wc8 false ps k : Nat), (chc8 ps k : Nat))
def sps8 (ps : List N5) (n : Nat) : List T3 := (List.range n).map (sp8 ps)
theorem sps8_len (ps : List N5) (n : Nat) : (sps8 ps n).length = n := by simp [sps8]
theorem sps8_succ (ps : List N5) (n : Nat) : sps8 ps (n + 1) = sps8 ps n ++ [sp8 ps n] := by simp [sps8, List.range_succ]
theorem sps8_at (ps : List N5) {n k : Nat} (h : k < n) : tk (sps8 ps n) k = sp8 ps k := by simp [tk, sps8, h]
theorem wc8_big {w : Bool} {ps : List N5} : ∀ (i : Nat), (∀ j, j ≤ i → nvB (nd8 ps j) j = true) → wc8 w ps i ≤ 9 * 10 ^ i := by
  intro i
  induction i using Nat.strongRecOn with
  | _ i ih =>
    intro hv
    have p1 : ∀ j, 1 ≤ 10 ^ j := fun j => Nat.one_le_pow _ _ (by omega)
    have up : ∀ j, j < i → 10 * 10 ^ j ≤ 10 ^ i := fun j hj => by
      have := Nat.pow_le_pow_right (show 0 < 10 by omega) (show j + 1 ≤ i by omega)
      rw [Nat.pow_succ] at this
      omega
    have hp := p1 i
    cases nv_of (hv i (Nat.le_refl _)) with
    | block c h h1 h9 => rw [wc8_block h]; omega
    | seq a b h ha hb =>
      rw [wc8_seq h ha hb]
      have h1 := ih a ha (fun j hj => hv j (by omega))
      have h2 := ih b hb (fun j hj => hv j (by omega))
      have := up a ha
      have := up b hb
      omega
    | branch c a b h h1 h9 ha hb =>
      rw [wc8_branch h ha hb]
      have h1 := ih a ha (fun j hj => hv j (by omega))
      have h2 := ih b hb (fun j hj => hv j (by omega))
      have := up a ha
      have := up b hb
      have := p1 a
      split <;> omega
    | loop c a m h h1 h9 ha hm =>
      rw [wc8_loop h ha]
      have h1 := ih a ha (fun j hj => hv j (by omega))
      have := up a ha
      have := p1 a
      split
      · have h4 : m * (c + wc8 w ps a) ≤ 4 * (c + wc8 w ps a) := Nat.mul_le_mul_right _ hm
        omega
      · omega
theorem wc8_big12 {w : Bool} {ps : List N5} {i : Nat} (hi : i < 12) (hv : ∀ j, j ≤ i → nvB (nd8 ps j) j = true) : wc8 w ps i ≤ 9000000000000 := by
  have h := wc8_big (w := w) i hv
  have := Nat.pow_le_pow_right (show 0 < 10 by omega) (show i ≤ 12 by omega)
  omega
theorem sp8_block {ps : List N5} {i c : Nat} (h : nd8 ps i = (1, (c : Int), 0, 0, 0)) : sp8 ps i = ((c : Int), (c : Int), 0) := by
  unfold sp8 chc8
  rw [wc8_block h, wc8_block h, h]
  rfl
theorem sp8_seq {ps : List N5} {i a b : Nat} (h : nd8 ps i = (2, 0, (a : Int), (b : Int), 0)) (ha : a < i) (hb : b < i) : sp8 ps i = (((wc8 true ps a + wc8 true ps b : Nat) : Int), ((wc8 false ps a + wc8 false ps b : Nat) : Int), 0) := by
  unfold sp8 chc8
  rw [wc8_seq h ha hb, wc8_seq h ha hb, h]
  rfl
theorem sp8_branch {ps : List N5} {i c a b : Nat} (h : nd8 ps i = (3, (c : Int), (a : Int), (b : Int), 0)) (ha : a < i) (hb : b < i) : sp8 ps i = (((c + max (wc8 true ps a) (wc8 true ps b) : Nat) : Int), ((c + min (wc8 false ps a) (wc8 false ps b) : Nat) : Int), ((if wc8 true ps a < wc8 true ps b then 1 else 0 : Nat) : Int)) := by
  unfold sp8 chc8
  rw [wc8_branch h ha hb, wc8_branch h ha hb, h]
  simp
theorem sp8_loop {ps : List N5} {i c a m : Nat} (h : nd8 ps i = (4, (c : Int), (a : Int), 0, (m : Int))) (ha : a < i) : sp8 ps i = (((c + m * (c + wc8 true ps a) : Nat) : Int), (c : Int), (m : Int)) := by
  unfold sp8 chc8
  rw [wc8_loop h ha, wc8_loop h ha, h]
  simp
/-- Whether the last node's worst case is within the limit. -/
theorem pv_last {ps : List N5} (hl : 1 ≤ ps.length ∧ ps.length ≤ 12) (hv : PV ps) : pvB ps = decide (wc8 true ps (ps.length - 1) ≤ 600) := by
  have h := cp8_is (w := true) hv (ps.length - 1) (by omega)
  rw [Bool.eq_iff_iff, pv_iff, decide_eq_true_eq]
  constructor
  · intro ⟨_, _, h3⟩
    omega
  · intro h3
    exact ⟨hl, hv, by omega⟩
theorem pv_bad {ps : List N5} {k : Nat} (hk : k < ps.length) (h : nvB (nd8 ps k) k = false) : pvB ps = false := by
  cases e : pvB ps with
  | false => rfl
  | true =>
    have := (pv_iff.1 e).2.1 k hk
    rw [h] at this
    simp at this
theorem nv_kind {n : N5} {k : Nat} (h : n.1 < 1 ∨ 4 < n.1) : nvB n k = false := by
  cases e : nvB n k with
  | false => rfl
  | true =>
    exfalso
    cases nv_of e with
    | block c h' _ _ => rw [h'] at h; simp at h
    | seq a b h' _ _ => rw [h'] at h; simp at h
    | branch c a b h' _ _ _ _ => rw [h'] at h; simp at h
    | loop c a m h' _ _ _ _ => rw [h'] at h; simp at h

end Go.Proofs.Ytlcdmjcikbgnpaa
