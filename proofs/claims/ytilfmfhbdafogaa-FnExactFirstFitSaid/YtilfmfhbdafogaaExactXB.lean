/- What the exact walks of FirstFit and Partition keep: the reference's answer, somewhere below, and the program's, in memory of its own. -/
import Derived.Test.YtilfmfhbdafogaaExactXA
import Derived.Test.YtilfmfhbdafogaaPartImpl
namespace Go.Proofs.Ytilfmfhbdafogaa
open Go.RowKit Go.Deep

/-- The reference's answer a0 lies below block b0, the program's answer vg from block bg on; the copies of the arguments lie between. -/
structure XB (w W : World) (b0 bg n : Nat) (a0 : Option Addr) (vg : Value) (g h : Nat → Int) : Prop where
  o0 : IntF W a0 n g
  l0 : 0 < n → ∀ b off, a0 = some ⟨b, off, none⟩ → b < b0
  og : OwnI W bg vg n h
  bl : Below w.heap.size w W
  e0 : w.heap.size ≤ b0
  e1 : b0 ≤ bg
variable {w W W' : World} {b0 bg n : Nat} {a0 : Option Addr} {vg : Value} {g h : Nat → Int}
theorem XB.below (x : XB w W b0 bg n a0 vg g h) (hb : Below W.heap.size W W') : XB w W' b0 bg n a0 vg g h :=
  ⟨x.o0.below hb, x.l0, x.og.below hb, x.bl.trans (hb.mono x.bl.size), x.e0, x.e1⟩
theorem intF_grown {row : Option Nat} (hf : IntF W a0 n g) (hl : 0 < n → ∀ b off, a0 = some ⟨b, off, none⟩ → b < b0) (hg : W.grownBy W' row) (hr : ∀ k, row = some k → b0 ≤ k) : IntF W' a0 n g := fun k hk => by
  obtain ⟨b, off, e, hb, hc⟩ := hf k hk
  have hlt := hl (by omega) b off e
  refine ⟨b, off, e, Nat.lt_of_lt_of_le hb hg.size, ?_⟩
  exact (World.cell?_of_block (a := ⟨b, off + k, none⟩) (hg.block b hb (fun e2 => by have := hr b e2.symm; omega))).trans hc
theorem XB.mark {row : Option Nat} (x : XB w W b0 bg n a0 vg g h) (hg : W.grownBy W' row) (hr : ∀ k, row = some k → b0 ≤ k ∧ k < bg) : XB w W' b0 bg n a0 vg g h :=
  ⟨intF_grown x.o0 x.l0 hg (fun k e => (hr k e).1), x.l0, x.og.keep fun k hk => hg.block k (x.og.lt k hk).2 (fun e => by have := hr k e.symm; have := (x.og.lt k hk).1; omega),
    x.bl.grown hg x.bl.size fun k hk => by have := hr k hk; have := x.e0; omega, x.e0, x.e1⟩
theorem XB.own {h' : Nat → Int} (x : XB w W b0 bg n a0 vg g h) (hg : W.grownBy W' vg.ownBlock) (o : OwnI W' bg vg n h') : XB w W' b0 bg n a0 vg g h' :=
  ⟨intF_grown x.o0 x.l0 hg (fun k e => by have := (x.og.lt k e).1; have := x.e1; omega), x.l0, o,
    x.bl.grown hg x.bl.size fun k hk => by have := (x.og.lt k hk).1; have := x.e0; have := x.e1; omega, x.e0, x.e1⟩
theorem ffO_len {ts : List T3} {n : Int} : ((ffO ts n).getD []).length ≤ 5 := by
  unfold ffO
  split
  · rename_i h
    have h5 := (sv_all h.1).2
    cases e : ff ts n.toNat with
    | none => simp
    | some r => have := (ffN_some e).1; simp only [Option.getD_some]; omega
  · simp
theorem prO_len {ts : List T3} {n : Int} : ((prO ts n).getD []).length ≤ 5 := by
  unfold prO
  split
  · rename_i h
    have h5 := (sv_all h.1).2
    cases e : part ts n.toNat with
    | none => simp
    | some r => have := (srch_some e (fun _ hk => absurd hk (by simp)) (fea_nil _ _ _)).1; simp only [Option.getD_some]; simp at this; omega
  · simp
theorem gotSr_of {base : Nat} {r : Option (List Nat)} {e : Ending} {w' : World} (h : GotAsg base r e w') : GotSr r e w' := by
  obtain ⟨v, rfl, ho⟩ := h
  obtain ⟨a, c, rfl, hi, _, _⟩ := ho.intF
  exact ⟨a, c, rfl, hi⟩
theorem lt_of_intF (hf : IntF W a0 n g) : 0 < n → ∀ b off, a0 = some ⟨b, off, none⟩ → b < W.heap.size := fun hn b off e => by
  obtain ⟨b', off', e', hb, _⟩ := hf 0 hn
  rw [e'] at e
  simp only [Option.some.injEq, Addr.mk.injEq, and_true] at e
  omega

end Go.Proofs.Ytilfmfhbdafogaa
