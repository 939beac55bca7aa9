/- The contract of laws.withCost: a task set in which task i has the given cost, in new memory. Conditions: the slice's cells hold tasks; i is one of its indexes; it has at most 12 tasks. -/
import Derived.Test.YtocppoobcanhiaaWithout
import Derived.Test.YtocppoobcanhiaaDrawOrd
namespace Go.Proofs.Ytocppoobcanhiaa
open Go.RowKit Go.Deep

/-- The tasks with another cost at index i. -/
def wcL (ts : List T3) (i : Nat) (c : Int) : List T3 := ts.set i (c, (tk ts i).2)
theorem wcL_len (ts : List T3) (i : Nat) (c : Int) : (wcL ts i c).length = ts.length := List.length_set
theorem Row.setCost {w : World} {g : Nat} {ts : List T3} (h : Row w (some ⟨g, 0, none⟩) ts) {i : Nat} (hi : i < ts.length) (c : Int) :
    Row (w.setCell ⟨g, i * 3, none⟩ (.int .i64 c)) (some ⟨g, 0, none⟩) (wcL ts i c) := by
  intro k t hk
  have hkl : k < ts.length := by have := (List.getElem?_eq_some_iff.1 hk).1; rw [wcL_len] at this; exact this
  obtain ⟨b, off, ea, hb, c0, c1, c2⟩ := h k ts[k] (List.getElem?_eq_getElem hkl)
  simp only [Option.some.injEq, Addr.mk.injEq, and_true] at ea
  obtain ⟨rfl, rfl⟩ := ea
  have far : ∀ (o : Nat), o ≠ i * 3 → (w.setCell ⟨g, i * 3, none⟩ (.int .i64 c)).cell? ⟨g, o, none⟩ = w.cell? ⟨g, o, none⟩ := fun o ho => World.cell?_setCell_other _ _ _ _ (by simp only [ne_eq, Addr.mk.injEq, true_and, and_true]; omega)
  simp only [Nat.zero_add] at c0 c1 c2
  refine ⟨g, 0, rfl, by simpa [World.setCell] using hb, ?_⟩
  simp only [Nat.zero_add]
  by_cases e : k = i
  · subst e
    have ht : t = (c, (tk ts k).2) := by rw [wcL, List.getElem?_set_self hi] at hk; exact (Option.some.inj hk).symm
    have hk' : ts[k] = tk ts k := by simp [tk, List.getD, List.getElem?_eq_getElem hi]
    rw [hk'] at c0 c1 c2
    subst ht
    exact ⟨World.cell?_setCell_same' _ _ _ (by rw [c0]; rfl), (far _ (by omega)).trans c1, (far _ (by omega)).trans c2⟩
  · have ht : ts[k] = t := by rw [wcL, List.getElem?_set_ne (by omega), List.getElem?_eq_getElem hkl] at hk; exact Option.some.inj hk
    subst ht
    exact ⟨(far _ (by omega)).trans c0, (far _ (by omega)).trans c1, (far _ (by omega)).trans c2⟩
theorem own_empty0 (w : World) : (w.alloc (.cells #[] 46)).ownsRow w.heap.size 46 3 (.slice (some ⟨w.heap.size, 0, none⟩) 0 0) 0 [] :=
  ⟨rfl, .inr ⟨w.heap.size, 0, #[], rfl, Nat.le_refl _, blk_alloc_new _ _, Nat.le_refl _, by simp [maxLen], rfl, rfl⟩⟩
theorem own_thaw {w : World} {base e size n g cap : Nat} {xs : List Value} (h : w.ownsRow base e size (.slice (some ⟨g, 0, none⟩) n cap) n xs) (k : Nat) : w.frozen? ⟨g, k, none⟩ = false ∧ base ≤ g := by
  obtain ⟨_, ⟨e, _⟩ | ⟨g', cap', cur, e, hb, hh, _⟩⟩ := h
  · simp at e
  · simp only [Value.slice.injEq, Option.some.injEq, Addr.mk.injEq, and_true] at e
    obtain ⟨rfl, _⟩ := e
    exact ⟨by simp [World.frozen?, hh], hb⟩

set_option maxHeartbeats 1000000 in
/-- laws.withCost. -/
theorem withCost_any (a : Option Addr) (cap : Nat) (ts : List T3) (i : Nat) (c : Int) (w : World) (hr : Row w a ts) (hi : i < ts.length) (hn : ts.length ≤ 12) :
    Calls Try.prog 42 #[.slice a ts.length cap, .int .i64 i, .int .i64 c] w fun e w' =>
      Left w (wcL ts i c) e w' := by
  obtain ⟨i0, hi0, hz, hsz, hby⟩ := info_parts taskInfo
  have HI := Lib.hid (And.intro hi0 (And.intro hz (And.intro hsz hby)))
  clear hi0 hz hsz hby
  obtain ⟨b, off, rfl, hb, -⟩ := hr.at hi
  have HL := Lib.hid (hr.lies (m := 0) (us := ts) hb (fun k t h => by simpa using h))
  simp only [Nat.zero_mul, Nat.add_zero] at HL
  clear hr
  have h0 : (0 : Int) ≤ i := by omega
  have h1 : (i : Int) < ts.length := by omega
  go_enter Try.func42, Try.ntmps42
  go_wp2_with (
    at_builtin
    refine wpList_append_own _ rfl (.tmp 8) (.tmp 9) 26 rfl w.heap.size 46 i0 _ 3 24 Try.underlying26 HI.out.1 HI.out.2.1 HI.out.2.2.1 HI.out.2.2.2 rfl (by decide) _ 0 [] rfl (own_empty0 w) ⟨b, off, none⟩ ts.length cap (flat ts) rfl (by rw [flat_length]) (HL.out.below (below_box _ _)) (flat_one _) (by unfold maxLen; omega) (by omega) (below_box _ _).size ?_
    intro v' w' hown' hgrow hnil
    have BX : Below w.heap.size w w' := (below_box w _).grown hgrow (below_box w _).size (fun k hk => own_from (own_empty0 w) k hk)
    have O3 : Own w' w.heap.size v' ts := by unfold Own; simpa using hown'
    obtain ⟨a', c', rfl, hrow, hlc, hcm⟩ := O3.row
    obtain ⟨g, rfl⟩ := own_some O3 (by omega)
    have hfz := own_thaw O3 (i * 3)
    have hz1 := hfz.1
    obtain ⟨b', off', ea, hgs, e0, -, -⟩ := hrow.at hi
    simp only [Option.some.injEq, Addr.mk.injEq, and_true] at ea
    obtain ⟨rfl, rfl⟩ := ea
    simp only [Nat.zero_add] at e0
    have HE := Lib.hid (And.intro (hrow.setCost hi c) (And.intro (BX.setCell (p := ⟨g, i * 3, none⟩) hfz.2 (.int .i64 c)) (And.intro hlc hcm)))
    clear hfz hrow O3 hown' hgrow hnil BX hlc hcm)
  go_ret
  exact ⟨some ⟨g, 0, none⟩, c', by rw [wcL_len]; rfl, by rw [wcL_len]; exact HE.out.2.2.1, HE.out.2.2.2, HE.out.1, HE.out.2.1⟩
end Go.Proofs.Ytocppoobcanhiaa
