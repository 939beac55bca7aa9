/- Contracts of spec.l4Fits and spec.FixedFeasible. Conditions: the slices hold what is said, at most 2^20 entries. -/
import Derived.Test.YtocppoobcanhiaaRespSpec
import Derived.StillTailTactics
namespace Go.Proofs.Ytocppoobcanhiaa
open Go.RowKit Go.Deep

/-- The tasks above place k. -/
def abv (os : List Int) (k : Nat) : List Nat := (os.take k).map Int.toNat
theorem abv_len {os : List Int} {k : Nat} (h : k ≤ os.length) : (abv os k).length = k := by simp [abv]; omega
theorem abv_at {os : List Int} {k j : Nat} (h : k ≤ os.length) (hj : j < k) : (abv os k).getD j 0 = (os.getD j 0).toNat := by
  have h1 : j < os.length := by omega
  simp [abv, List.getD, List.getElem?_take_of_lt hj, List.getElem?_eq_getElem h1]
theorem nodup_toNat : ∀ {l : List Int}, l.Nodup → (∀ x ∈ l, 0 ≤ x) → (l.map Int.toNat).Nodup
  | [], _, _ => List.nodup_nil
  | a :: l, h, h0 => by
    rw [List.nodup_cons] at h
    rw [List.map_cons, List.nodup_cons]
    refine ⟨fun hm => ?_, nodup_toNat h.2 fun x hx => h0 x (List.mem_cons_of_mem _ hx)⟩
    obtain ⟨b, hb, e⟩ := List.mem_map.1 hm
    have h1 := h0 b (List.mem_cons_of_mem _ hb)
    have h2 := h0 a List.mem_cons_self
    have : b = a := by omega
    exact h.1 (this ▸ hb)
theorem abv_mem {ts : List T3} {os : List Int} (h : ordB ts os = true) {k j : Nat} : j ∈ abv os k ↔ (j : Int) ∈ os.take k := by
  constructor
  · intro hm
    obtain ⟨b, hb, e⟩ := List.mem_map.1 hm
    have := (ordB_iff.1 h).2.2.1 b (List.mem_of_mem_take hb)
    have e2 : (j : Int) = b := by omega
    exact e2 ▸ hb
  · exact fun hm => List.mem_map.2 ⟨_, hm, by simp⟩
theorem abv_lt {ts : List T3} {os : List Int} (h : ordB ts os = true) {k : Nat} : ∀ j ∈ abv os k, j < ts.length := fun j hj => by
  have := (ordB_iff.1 h).2.2.1 _ (List.mem_of_mem_take ((abv_mem h).1 hj))
  omega
theorem ord_at {ts : List T3} {os : List Int} (h : ordB ts os = true) {k : Nat} (hk : k < os.length) : 0 ≤ os.getD k 0 ∧ os.getD k 0 < ts.length := by
  have e : os.getD k 0 = os[k] := by simp [List.getD, List.getElem?_eq_getElem hk]
  rw [e]
  exact (ordB_iff.1 h).2.2.1 _ (List.getElem_mem _)
theorem abv_getD {ts : List T3} {os : List Int} (h : ordB ts os = true) {k : Nat} : ∀ j, j < (abv os k).length → (abv os k).getD j 0 < ts.length := fun j hj => by
  have e : (abv os k).getD j 0 = (abv os k)[j] := by simp [List.getD, List.getElem?_eq_getElem hj]
  rw [e]
  exact abv_lt h _ (List.getElem_mem _)
theorem IntF.abv {ts : List T3} {os : List Int} (h : ordB ts os = true) {w : World} {a : Option Addr} (hf : IntF w a os.length fun k => os.getD k 0) {k : Nat} (hk : k ≤ os.length) : IntF w a (abv os k).length fun j => ((abv os k).getD j 0 : Nat) := fun j hj => by
  rw [abv_len hk] at hj
  obtain ⟨b, o, e1, e2, e3⟩ := hf j (by omega)
  have h0 := (ord_at h (show j < os.length by omega)).1
  refine ⟨b, o, e1, e2, e3.trans ?_⟩
  simp only [abv_at hk hj]
  congr 2
  omega
theorem rsp_list {ts : List T3} {os : List Int} (h : ordB ts os = true) (k : Nat) :
    lfp (rL ts (abv os k) (os.getD k 0).toNat) (dln (tk ts (os.getD k 0).toNat)) = rspO ts os k := by
  unfold rspO resp
  congr 1
  funext x
  unfold rL rF abv
  rw [wkL_eq (nodup_toNat ((List.take_sublist _ _).nodup (ordB_iff.1 h).2.2.2) fun x hx => ((ordB_iff.1 h).2.2.1 x (List.mem_of_mem_take hx)).1) (abv_lt (k := k) h)]
  congr 2
  funext j
  exact decide_eq_decide.2 (abv_mem h)

/-- All places up to n have a response time. -/
def fitN (ts : List T3) (os : List Int) (n : Nat) : Bool := (List.range n).all fun k => (rspO ts os k).isSome
theorem fitN_succ (ts : List T3) (os : List Int) (n : Nat) : fitN ts os (n + 1) = (fitN ts os n && (rspO ts os n).isSome) := by simp [fitN, List.range_succ, List.all_append]
theorem fitN_no {ts : List T3} {os : List Int} {k : Nat} (h : rspO ts os k = none) : ∀ n, k < n → fitN ts os n = false := fun n hn => by
  rw [fitN, List.all_eq_false]
  exact ⟨k, List.mem_range.2 hn, by simp [h]⟩

set_option maxRecDepth 100000 in
set_option maxHeartbeats 2000000 in
/-- spec.l4Fits, of a valid order. -/
theorem l4Fits_any (ta oa : Option Addr) (tcap ocap : Nat) (ts : List T3) (os : List Int) (w : World) (hr : Row w ta ts) (ho : IntF w oa os.length fun k => os.getD k 0) (hc : os.length ≤ ocap) (hv : ordB ts os = true) :
    Calls Try.prog 52 #[.slice ta ts.length tcap, .slice oa os.length ocap] w fun e w' =>
      e = .returned (.bool (fitN ts os os.length)) ∧ Below w.heap.size w w' := by
  have HR := Lib.hid hr
  have HO := Lib.hid ho
  have HV := Lib.hid hv
  have hn : os.length ≤ 5 := by have := ordB_iff.1 hv; have := (sv_all this.1).2; omega
  clear hr ho hv
  go_enter Try.func52, Try.ntmps52
  go_wp2
  go_loopg [5] os.length (fun m i wr => ∃ k : Nat, m + k = os.length ∧ i = .int .i64 k ∧ fitN ts os k = true ∧ Below w.heap.size w wr)
  case atStart => exact ⟨0, rfl, rfl, rfl, Below.refl _ _⟩
  case round =>
    obtain ⟨k, hk, rfl, hall, hb⟩ := hrel
    have HK := Lib.hid hk
    have HA := Lib.hid hall
    have hk' : k ≤ os.length := by omega
    clear hk hall
    by_cases hlt : k < os.length
    · have RF := Lib.hid (HO.out.below hb)
      obtain ⟨b, off, rfl, hbs, c0⟩ := RF.out k hlt
      have hyb := ord_at HV.out hlt
      have HL := Lib.hid (rsp_list HV.out k)
      obtain ⟨y, hy⟩ : ∃ y, y = (os.getD k 0).toNat := ⟨_, rfl⟩
      rw [← hy] at HL
      have hy' : os.getD k 0 = (y : Int) := by omega
      simp only [hy'] at c0
      have hyl : y < ts.length := by omega
      have hk0 : (0 : Int) ≤ k := by omega
      have hk1 : (k : Int) < os.length := by omega
      have hk2 : (k : Int) ≤ ocap := by omega
      have CX := Lib.hid (fun W (B : Below wr.heap.size wr W) => l4Response_any ta (some ⟨b, off, none⟩) tcap ocap ts (abv os k) y W ((HR.out.below hb).below B)
        ((RF.out.below B).abv HV.out hk') (sv_all (ordB_iff.1 HV.out).1).1 (abv_getD HV.out) (by rw [abv_len hk']; omega) hyl)
      rw [abv_len hk'] at CX
      simp only [HL.out] at CX
      clear hy hyb hy' HL
      cases hz : rspO ts os k with
      | none =>
        simp only [hz, optI] at CX
        go_wp2
        refine wp_region_still_tail 8 (by kernel_rfl) (by kernel_rfl) ?_
        simp only [List.take_succ_cons, List.take_zero, List.drop_succ_cons, List.drop_zero]
        change wpStill _ _ wr.drew (fun a' => wpList _ _ _ _ a' wr.drew) _ _
        iterate 8 still_step
        refine wpStill_nil ?_
        go_wp2_with (go_at_call 49; refine (CX.out _ (Below.refl _ _).drew).mono ?_; rintro e w1 ⟨rfl, b1⟩)
        go_ret
        exact ⟨ret_bool (fitN_no hz _ hlt).symm, hb.drew.trans (b1.mono hb.drew.size)⟩
      | some z =>
        simp only [hz, optI] at CX
        have hz0 : ¬ (z : Int) < 0 := by omega
        go_wp2
        refine wp_region_still_tail 8 (by kernel_rfl) (by kernel_rfl) ?_
        simp only [List.take_succ_cons, List.take_zero, List.drop_succ_cons, List.drop_zero]
        change wpStill _ _ wr.drew (fun a' => wpList _ _ _ _ a' wr.drew) _ _
        iterate 8 still_step
        refine wpStill_nil ?_
        go_wp2_with (go_at_call 49; refine (CX.out _ (Below.refl _ _).drew).mono ?_; rintro e w1 ⟨rfl, b1⟩)
        go_roundg (gk - 1)
        case measure => have := HK.out; omega
        case rel => exact ⟨k + 1, by have := HK.out; omega, by go_num, by rw [fitN_succ, HA.out, hz]; rfl, hb.drew.trans (b1.mono hb.drew.size)⟩
    · obtain rfl : k = os.length := by omega
      go_wp2
      go_ret
      exact ⟨ret_bool HA.out.symm, hb⟩

theorem fixB_fit (ts : List T3) (os : List Int) : fixB ts os = (ordB ts os && fitN ts os os.length) := rfl

/-- spec.FixedFeasible. -/
theorem specFixedFeasible_any (ta oa : Option Addr) (tcap ocap : Nat) (ts : List T3) (os : List Int) (w : World) (hr : Row w ta ts) (ho : IntF w oa os.length fun k => os.getD k 0) (hn : ts.length ≤ 1048576) (hc : os.length ≤ ocap) :
    Calls Try.prog 27 #[.slice ta ts.length tcap, .slice oa os.length ocap] w fun e w' =>
      e = .returned (.bool (fixB ts os)) ∧ Below w.heap.size w w' := by
  have CO := Lib.hid (fun W (B : Below w.heap.size w W) => specOrderValid_any ta oa tcap ocap ts os W (hr.below B) (ho.below B) hn hc)
  cases hv : ordB ts os with
  | false =>
    have hf : fixB ts os = false := by rw [fixB_fit, hv]; rfl
    simp only [hv] at CO
    clear hr ho
    go_enter Try.func27, Try.ntmps27
    go_wp2_with (go_at_call 16; refine (CO.out _ (Below.refl _ _)).mono ?_; rintro e w1 ⟨rfl, b1⟩)
    go_ret
    exact ⟨ret_bool hf.symm, b1⟩
  | true =>
    have CF := Lib.hid (fun W (B : Below w.heap.size w W) => l4Fits_any ta oa tcap ocap ts os W (hr.below B) (ho.below B) hc hv)
    have hf : fixB ts os = fitN ts os os.length := by rw [fixB_fit, hv]; rfl
    simp only [hv] at CO
    clear hr ho
    go_enter Try.func27, Try.ntmps27
    go_wp2_with fail
    refine (CO.out _ (Below.refl _ _)).mono ?_
    rintro e w1 ⟨rfl, b1⟩
    go_wp2_with fail
    refine (CF.out _ b1).mono ?_
    rintro e w2 ⟨rfl, b2⟩
    go_wp2
    go_ret
    exact ⟨ret_bool hf.symm, b1.trans (b2.mono b1.size)⟩

end Go.Proofs.Ytocppoobcanhiaa
