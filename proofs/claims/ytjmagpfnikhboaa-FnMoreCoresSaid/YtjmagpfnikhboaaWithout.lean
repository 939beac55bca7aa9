/- The contract of laws.without: a task set without the task at index i, in new memory. Conditions: the slice's cells hold tasks; i is one of its indexes; it has at most 12 tasks. -/
import Derived.Test.YtjmagpfnikhboaaDrawSet
namespace Go.Proofs.Ytjmagpfnikhboaa
open Go.RowKit Go.Deep

/-- The cells news lie, one behind the other, from off on in block b. -/
def Lies (w : World) (b off : Nat) (news : List Value) : Prop := b < w.heap.size ∧ ∀ (j : Nat) (u : Value), news[j]? = some u → w.cell? ((⟨b, off, none⟩ : Addr).add j) = some u
theorem addr_add (b off j : Nat) : (⟨b, off, none⟩ : Addr).add j = ⟨b, off + j, none⟩ := by
  unfold Addr.add
  split
  · simp_all
  · rfl
theorem flat_find (ts : List (Int × Int × Int)) (j : Nat) (u : Value) (h : (flat ts)[j]? = some u) : ∃ k t, ts[k]? = some t ∧ ((j = k * 3 ∧ u = .int .i64 t.1) ∨ (j = k * 3 + 1 ∧ u = .int .i64 t.2.1) ∨ (j = k * 3 + 2 ∧ u = .int .i64 t.2.2)) := by
  have hj : j < ts.length * 3 := by rw [← flat_length]; exact (List.getElem?_eq_some_iff.1 h).1
  have hk : j / 3 < ts.length := by omega
  obtain ⟨h0, h1, h2⟩ := flat_at ts (j / 3) _ (List.getElem?_eq_getElem hk)
  refine ⟨j / 3, ts[j / 3], List.getElem?_eq_getElem hk, ?_⟩
  have h3 : j % 3 = 0 ∨ j % 3 = 1 ∨ j % 3 = 2 := by omega
  rcases h3 with h3 | h3 | h3
  · have e : j / 3 * 3 = j := by omega
    rw [e, h] at h0
    exact .inl ⟨by omega, by simpa using h0⟩
  · have e : j / 3 * 3 + 1 = j := by omega
    rw [e, h] at h1
    exact .inr (.inl ⟨by omega, by simpa using h1⟩)
  · have e : j / 3 * 3 + 2 = j := by omega
    rw [e, h] at h2
    exact .inr (.inr ⟨by omega, by simpa using h2⟩)
theorem Row.lies {w : World} {b off m : Nat} {ts us : List (Int × Int × Int)} (h : Row w (some ⟨b, off, none⟩) ts) (hb : b < w.heap.size) (hu : ∀ k t, us[k]? = some t → ts[m + k]? = some t) : Lies w b (off + m * 3) (flat us) := by
  refine ⟨hb, fun j u hj => ?_⟩
  obtain ⟨k, t, hk, hc⟩ := flat_find us j u hj
  obtain ⟨b', off', e, _, h0, h1, h2⟩ := h (m + k) t (hu k t hk)
  simp only [Option.some.injEq, Addr.mk.injEq, and_true] at e
  obtain ⟨rfl, rfl⟩ := e
  rw [addr_add]
  have e1 : off + (m + k) * 3 = off + m * 3 + k * 3 := by omega
  rw [e1] at h0 h1 h2
  rcases hc with ⟨rfl, rfl⟩ | ⟨rfl, rfl⟩ | ⟨rfl, rfl⟩
  · exact h0
  · rw [← h1]; congr 2
  · rw [← h2]; congr 2
theorem Lies.drewalloc {w : World} {b off : Nat} {news : List Value} {o : Obj} (h : Lies w b off news) : ∀ (j : Nat) (u : Value), news[j]? = some u → (w.alloc o).drew.cell? ((⟨b, off, none⟩ : Addr).add j) = some u := fun j u hj => by
  rw [addr_add]
  have := h.2 j u hj
  rw [addr_add] at this
  exact ((below_box w o).drew.cell (p := ⟨b, off + j, none⟩) h.1).trans this
theorem Lies.below {w w' : World} {b off : Nat} {news : List Value} (h : Lies w b off news) (hb : Below w.heap.size w w') : ∀ (j : Nat) (u : Value), news[j]? = some u → w'.cell? ((⟨b, off, none⟩ : Addr).add j) = some u := fun j u hj => by
  rw [addr_add]
  have := h.2 j u hj
  rw [addr_add] at this
  exact (hb.cell (p := ⟨b, off + j, none⟩) h.1).trans this
theorem flat_one (ts : List (Int × Int × Int)) : ∀ u ∈ flat ts, u.oneCell' = true := by
  intro u hu
  simp only [flat, List.mem_flatMap] at hu
  obtain ⟨t, _, ht⟩ := hu
  exact one3 _ _ _ u ht
theorem own_empty (w : World) : (w.alloc (.cells #[] 36)).drew.ownsRow w.heap.size 36 3 (.slice (some ⟨w.heap.size, 0, none⟩) 0 0) 0 [] :=
  ⟨rfl, .inr ⟨w.heap.size, 0, #[], rfl, Nat.le_refl _, blk_alloc_new _ _, Nat.le_refl _, by simp [maxLen], rfl, rfl⟩⟩
theorem own_from {w : World} {base e size n : Nat} {v : Value} {xs : List Value} (h : w.ownsRow base e size v n xs) : ∀ k, v.ownBlock = some k → base ≤ k := by
  intro k hk
  obtain ⟨_, ⟨rfl, _⟩ | ⟨g, cap, cur, rfl, hb, _⟩⟩ := h
  · simp [Value.ownBlock] at hk
  · simp only [Value.ownBlock, Option.some.injEq] at hk
    omega

/-- What without leaves: the tasks us in new memory. -/
def Left (w : World) (us : List (Int × Int × Int)) (e : Ending) (w' : World) : Prop :=
  ∃ (a : Option Addr) (cap : Nat), e = .returned (.slice a us.length cap) ∧ us.length ≤ cap ∧ cap ≤ maxLen ∧ Row w' a us ∧ Below w.heap.size w w'

theorem without_end {w w2 : World} {v2 : Value} {i : Nat} {ts : List (Int × Int × Int)} (hi : i < ts.length) (ho : w2.ownsRow w.heap.size 36 3 v2 (0 + i + (ts.length - (i + 1))) ([] ++ flat (ts.take i) ++ flat (ts.drop (i + 1)))) (hb : Below w.heap.size w w2) :
    Left w (wo ts i) (.returned v2) w2 := by
  show Left w (ts.take i ++ ts.drop (i + 1)) (.returned v2) w2
  have hl : (ts.take i ++ ts.drop (i + 1)).length = 0 + i + (ts.length - (i + 1)) := by
    rw [List.length_append, List.length_take, List.length_drop, Nat.min_eq_left (by omega)]
    omega
  have hf : flat (ts.take i ++ ts.drop (i + 1)) = [] ++ flat (ts.take i) ++ flat (ts.drop (i + 1)) := by simp [flat]
  have hown : Own w2 w.heap.size v2 (ts.take i ++ ts.drop (i + 1)) := by
    unfold Own
    rw [hl, hf]
    exact ho
  obtain ⟨a, cap, rfl, hrow, h1, h2⟩ := hown.row
  exact ⟨a, cap, rfl, h1, h2, hrow, hb⟩

theorem without_end0 {w w2 : World} {v2 : Value} {i : Nat} {ts : List (Int × Int × Int)} (hi : i < ts.length) (h0 : ts.length ≤ i + 1) (ho : w2.ownsRow w.heap.size 36 3 v2 (0 + i + 0) ([] ++ flat (ts.take i) ++ flat (ts.drop (i + 1)))) (hb : Below w.heap.size w w2) :
    Left w (wo ts i) (.returned v2) w2 :=
  without_end hi (by have e : ts.length - (i + 1) = 0 := (by omega); rw [e]; exact ho) hb

set_option maxHeartbeats 1000000 in
/-- laws.without. -/
theorem without_any (a : Option Addr) (cap i : Nat) (ts : List (Int × Int × Int)) (w : World) (hr : Row w a ts) (hi : i < ts.length) (hn : ts.length ≤ 12) (hlc : ts.length ≤ cap) (hcm : cap ≤ maxLen) :
    Calls Try.prog 40 #[.slice a ts.length cap, .int .i64 i] w (Left w (wo ts i)) := by
  obtain ⟨i0, hi0, hz, hsz, hby⟩ := info_parts taskInfo
  have HI := Lib.hid (And.intro hi0 (And.intro hz (And.intro hsz hby)))
  clear hi0 hz hsz hby
  unfold maxLen at hcm
  obtain ⟨b, off, rfl, hb, _⟩ := hr i _ (List.getElem?_eq_getElem hi)
  have HN1 := Lib.hid (show Lies w b off (flat (ts.take i)) from by
    have h := Row.lies (m := 0) (us := ts.take i) hr hb (fun k t hk => by
      rw [Nat.zero_add]
      by_cases h : k < i
      · rwa [List.getElem?_take_of_lt h] at hk
      · rw [List.getElem?_eq_none (by simp; omega)] at hk; simp at hk)
    simpa using h)
  have HN2 := Lib.hid (show Lies w b (off + (i + 1) * 3) (flat (ts.drop (i + 1))) from Row.lies (m := i + 1) (us := ts.drop (i + 1)) hr hb (fun k t hk => by rwa [List.getElem?_drop] at hk))
  clear hr
  have q0 : (0 : Int) ≤ i := by omega
  have q1 : (i : Int) ≤ cap := by omega
  have q2 : (i : Int) + 1 ≤ ts.length := by omega
  have q4 : (0 : Int) ≤ (i : Int) + 1 := by omega
  have q3 : (ts.length : Int) ≤ cap := by omega
  have hw : IntKind.i64.wrap ((i : Int) + 1) = (i : Int) + 1 := IntWalk.i64_in _ (by omega)
  by_cases hc : cap = i + 1
  · subst hc
    have q5 : (i : Int) ≤ (i : Int) + 1 := by omega
    have hd : ts.drop (i + 1) = [] := List.drop_eq_nil_of_le (by omega)
    have HN3 := Lib.hid (show Lies w b off (flat (ts.drop (i + 1))) from ⟨hb, fun j u hj => by rw [hd] at hj; simp [flat] at hj⟩)
    clear hd HN2
    have HN2 := HN3
    clear HN3
    go_enter Try.func40, Try.ntmps40
    go_wp2
    --REGION B
    refine wp_region_noPanic ?_
    refine wp_region_held_drew (S := fun w' => b < w'.heap.size) (by kernel_rfl) ?_ (fun hHeld => ?_)
    · (try dsimp only)
      first | exact hb | (simp; omega) | (have := HB2.out.size; omega) | (have := HB1.out.size; omega)
    refine wpAnyH_take (i := 1) (v := ?_) (toArr_get _ 1 _ rfl) (by kernel_rfl) (by kernel_rfl) (by kernel_rfl) (fun _ _ _ h => h) (Or.inl ⟨by rfl, ?_⟩) (by assumption) ?_
    rotate_left
    · (intro w hSw; (try dsimp only at hSw); go_simp; (try with_reducible rfl))
    (try simp only [Act.put, List.setIfInBounds_toArray, List.set_cons_zero, List.set_cons_succ])
    refine wpAnyH_take (i := 2) (v := ?_) (toArr_get _ 2 _ rfl) (by kernel_rfl) (by kernel_rfl) (by kernel_rfl) (fun _ _ _ h => h) (Or.inl ⟨by rfl, ?_⟩) (by assumption) ?_
    rotate_left
    · (intro w hSw; (try dsimp only at hSw); go_simp; (try with_reducible rfl))
    (try simp only [Act.put, List.setIfInBounds_toArray, List.set_cons_zero, List.set_cons_succ])
    refine wpAnyH_take (i := 3) (v := ?_) (toArr_get _ 3 _ rfl) (by kernel_rfl) (by kernel_rfl) (by kernel_rfl) (fun _ _ _ h => h) (Or.inl ⟨by rfl, ?_⟩) (by assumption) ?_
    rotate_left
    · (intro w hSw; (try dsimp only at hSw); go_simp; (try with_reducible rfl))
    (try simp only [Act.put, List.setIfInBounds_toArray, List.set_cons_zero, List.set_cons_succ])
    refine wpAnyH_take (i := 5) (v := ?_) (toArr_get _ 5 _ rfl) (by kernel_rfl) (by kernel_rfl) (by kernel_rfl) (fun _ _ _ h => h) (Or.inl ⟨by rfl, ?_⟩) (by assumption) ?_
    rotate_left
    · (intro w hSw; (try dsimp only at hSw); go_simp; (try with_reducible rfl))
    (try simp only [Act.put, List.setIfInBounds_toArray, List.set_cons_zero, List.set_cons_succ])
    refine wpAnyH_take (i := 6) (v := ?_) (toArr_get _ 6 _ rfl) (by kernel_rfl) (by kernel_rfl) (by kernel_rfl) (fun _ _ _ h => h) (Or.inl ⟨by rfl, ?_⟩) (by assumption) ?_
    rotate_left
    · (intro w hSw; (try dsimp only at hSw); go_simp; (try with_reducible rfl))
    (try simp only [Act.put, List.setIfInBounds_toArray, List.set_cons_zero, List.set_cons_succ])
    refine wpAnyH_take (i := 7) (v := ?_) (toArr_get _ 7 _ rfl) (by kernel_rfl) (by kernel_rfl) (by kernel_rfl) (fun _ _ _ h => h) (Or.inl ⟨by rfl, ?_⟩) (by assumption) ?_
    rotate_left
    · (intro w hSw; (try dsimp only at hSw); go_simp; (try with_reducible rfl))
    (try simp only [Act.put, List.setIfInBounds_toArray, List.set_cons_zero, List.set_cons_succ])
    refine wpAnyH_take (i := 8) (v := ?_) (toArr_get _ 8 _ rfl) (by kernel_rfl) (by kernel_rfl) (by kernel_rfl) (fun _ _ _ h => h) (Or.inl ⟨by rfl, ?_⟩) (by assumption) ?_
    rotate_left
    · (intro w hSw; (try dsimp only at hSw); go_simp; (try with_reducible rfl))
    (try simp only [Act.put, List.setIfInBounds_toArray, List.set_cons_zero, List.set_cons_succ])
    refine wpAnyH_ready (rs := [0]) (by kernel_rfl) (by simp) ?_
    refine AllReadyH.cons (toArr_get _ 0 _ rfl) (fun K hK => ?_) ?_
    · go_simp
      refine hK.out _ _ ?_ (fun hHeld2 => ?_)
      · (try dsimp only)
        first | exact hb | (simp; omega) | (have := HB2.out.size; omega) | (have := HB1.out.size; omega)
      clear hK K hHeld
      have hHeld := hHeld2
      clear hHeld2
      (try simp only [Act.put, List.setIfInBounds_toArray, List.set_cons_zero, List.set_cons_succ])
      refine wpAnyH_ready (rs := [4]) (by kernel_rfl) (by simp) ?_
      refine AllReadyH.cons (toArr_get _ 4 _ rfl) (fun K hK => ?_) ?_
      · rw [if_pos (by rfl)]
        refine wp_append_own _ (.tmp 5) (.tmp 8) 23 rfl w.heap.size 36 i0 _ 3 24 Try.underlying23 HI.out.1 HI.out.2.1 HI.out.2.2.1 HI.out.2.2.2 rfl (by decide) (.slice (some ⟨w.heap.size, 0, none⟩) 0 0) 0 [] rfl (own_empty w) ⟨b, off, none⟩ i _ (flat (ts.take i)) rfl (by rw [flat_length, List.length_take, Nat.min_eq_left (by omega)]) (HN1.out.drewalloc) (flat_one _) (by unfold maxLen; omega) (by omega) (by simp) ?_
        intro v1 w1 hown1 hgrow1 hnil1
        have HO1 := Lib.hid hown1
        have hb1 : Below w.heap.size w w1 := (below_box _ _).drew.grown hgrow1 (by simp) (by simp [Value.ownBlock])
        have HB1 := Lib.hid hb1
        clear hown1 hgrow1 hnil1 hb1
        refine hK.out _ _ ?_ (fun hHeld2 => ?_)
        · (try dsimp only)
          first | exact hb | (simp; omega) | (have := HB2.out.size; omega) | (have := HB1.out.size; omega)
        clear hK K hHeld
        have hHeld := hHeld2
        clear hHeld2
        (try simp only [Act.put, List.setIfInBounds_toArray, List.set_cons_zero, List.set_cons_succ])
        refine wpAnyH_ready (rs := [9]) (by kernel_rfl) (by simp) ?_
        refine AllReadyH.cons (toArr_get _ 9 _ rfl) (fun K hK => ?_) ?_
        · rw [if_pos (by rfl)]
          refine wp_append_own _ (.tmp 9) (.tmp 13) 23 rfl w.heap.size 36 i0 _ 3 24 Try.underlying23 HI.out.1 HI.out.2.1 HI.out.2.2.1 HI.out.2.2.2 rfl (by decide) v1 (0 + i) ([] ++ flat (ts.take i)) rfl HO1.out ⟨b, off, none⟩ 0 _ (flat (ts.drop (i + 1))) rfl (by rw [flat_length, List.length_drop]; first | done | omega) (HN2.out.below HB1.out) (flat_one _) (by unfold maxLen; omega) (by omega) HB1.out.size ?_
          intro v2 w2 hown2 hgrow2 hnil2
          have HO2 := Lib.hid hown2
          have hb2 : Below w.heap.size w w2 := HB1.out.grown hgrow2 HB1.out.size (fun k hk => own_from HO1.out k hk)
          have HB2 := Lib.hid hb2
          clear hown2 hgrow2 hnil2 hb2
          refine hK.out _ _ ?_ (fun hHeld2 => ?_)
          · (try dsimp only)
            first | exact hb | (simp; omega) | (have := HB2.out.size; omega) | (have := HB1.out.size; omega)
          clear hK K hHeld
          have hHeld := hHeld2
          clear hHeld2
          (try simp only [Act.put, List.setIfInBounds_toArray, List.set_cons_zero, List.set_cons_succ])
          refine wpAnyH_take (i := 10) (v := ?_) (toArr_get _ 10 _ rfl) (by kernel_rfl) (by kernel_rfl) (by kernel_rfl) (fun _ _ _ h => h) (Or.inl ⟨by rfl, ?_⟩) (by assumption) ?_
          rotate_left
          · (intro w hSw; (try dsimp only at hSw); go_simp; (try with_reducible rfl))
          (try simp only [Act.put, List.setIfInBounds_toArray, List.set_cons_zero, List.set_cons_succ])
          refine wpAnyH_done (by kernel_rfl) ?_ _
          refine NoPanic.normal ?_
          go_wp2_with fail
          go_ret
          exact without_end0 hi (by omega) HO2.out HB2.out
        exact AllReadyH.nil
      exact AllReadyH.nil
    exact AllReadyH.nil
    --END B
  · go_enter Try.func40, Try.ntmps40
    go_wp2
    --REGION A
    refine wp_region_noPanic ?_
    refine wp_region_held_drew (S := fun w' => b < w'.heap.size) (by kernel_rfl) ?_ (fun hHeld => ?_)
    · (try dsimp only)
      first | exact hb | (simp; omega) | (have := HB2.out.size; omega) | (have := HB1.out.size; omega)
    refine wpAnyH_take (i := 1) (v := ?_) (toArr_get _ 1 _ rfl) (by kernel_rfl) (by kernel_rfl) (by kernel_rfl) (fun _ _ _ h => h) (Or.inl ⟨by rfl, ?_⟩) (by assumption) ?_
    rotate_left
    · (intro w hSw; (try dsimp only at hSw); go_simp; (try with_reducible rfl))
    (try simp only [Act.put, List.setIfInBounds_toArray, List.set_cons_zero, List.set_cons_succ])
    refine wpAnyH_take (i := 2) (v := ?_) (toArr_get _ 2 _ rfl) (by kernel_rfl) (by kernel_rfl) (by kernel_rfl) (fun _ _ _ h => h) (Or.inl ⟨by rfl, ?_⟩) (by assumption) ?_
    rotate_left
    · (intro w hSw; (try dsimp only at hSw); go_simp; (try with_reducible rfl))
    (try simp only [Act.put, List.setIfInBounds_toArray, List.set_cons_zero, List.set_cons_succ])
    refine wpAnyH_take (i := 3) (v := ?_) (toArr_get _ 3 _ rfl) (by kernel_rfl) (by kernel_rfl) (by kernel_rfl) (fun _ _ _ h => h) (Or.inl ⟨by rfl, ?_⟩) (by assumption) ?_
    rotate_left
    · (intro w hSw; (try dsimp only at hSw); go_simp; (try with_reducible rfl))
    (try simp only [Act.put, List.setIfInBounds_toArray, List.set_cons_zero, List.set_cons_succ])
    refine wpAnyH_take (i := 5) (v := ?_) (toArr_get _ 5 _ rfl) (by kernel_rfl) (by kernel_rfl) (by kernel_rfl) (fun _ _ _ h => h) (Or.inl ⟨by rfl, ?_⟩) (by assumption) ?_
    rotate_left
    · (intro w hSw; (try dsimp only at hSw); go_simp; (try with_reducible rfl))
    (try simp only [Act.put, List.setIfInBounds_toArray, List.set_cons_zero, List.set_cons_succ])
    refine wpAnyH_take (i := 6) (v := ?_) (toArr_get _ 6 _ rfl) (by kernel_rfl) (by kernel_rfl) (by kernel_rfl) (fun _ _ _ h => h) (Or.inl ⟨by rfl, ?_⟩) (by assumption) ?_
    rotate_left
    · (intro w hSw; (try dsimp only at hSw); go_simp; (try with_reducible rfl))
    (try simp only [Act.put, List.setIfInBounds_toArray, List.set_cons_zero, List.set_cons_succ])
    refine wpAnyH_take (i := 7) (v := ?_) (toArr_get _ 7 _ rfl) (by kernel_rfl) (by kernel_rfl) (by kernel_rfl) (fun _ _ _ h => h) (Or.inl ⟨by rfl, ?_⟩) (by assumption) ?_
    rotate_left
    · (intro w hSw; (try dsimp only at hSw); go_simp; (try with_reducible rfl))
    (try simp only [Act.put, List.setIfInBounds_toArray, List.set_cons_zero, List.set_cons_succ])
    refine wpAnyH_take (i := 8) (v := ?_) (toArr_get _ 8 _ rfl) (by kernel_rfl) (by kernel_rfl) (by kernel_rfl) (fun _ _ _ h => h) (Or.inl ⟨by rfl, ?_⟩) (by assumption) ?_
    rotate_left
    · (intro w hSw; (try dsimp only at hSw); go_simp; (try with_reducible rfl))
    (try simp only [Act.put, List.setIfInBounds_toArray, List.set_cons_zero, List.set_cons_succ])
    refine wpAnyH_ready (rs := [0]) (by kernel_rfl) (by simp) ?_
    refine AllReadyH.cons (toArr_get _ 0 _ rfl) (fun K hK => ?_) ?_
    · go_simp
      refine hK.out _ _ ?_ (fun hHeld2 => ?_)
      · (try dsimp only)
        first | exact hb | (simp; omega) | (have := HB2.out.size; omega) | (have := HB1.out.size; omega)
      clear hK K hHeld
      have hHeld := hHeld2
      clear hHeld2
      (try simp only [Act.put, List.setIfInBounds_toArray, List.set_cons_zero, List.set_cons_succ])
      refine wpAnyH_ready (rs := [4]) (by kernel_rfl) (by simp) ?_
      refine AllReadyH.cons (toArr_get _ 4 _ rfl) (fun K hK => ?_) ?_
      · rw [if_pos (by rfl)]
        refine wp_append_own _ (.tmp 5) (.tmp 8) 23 rfl w.heap.size 36 i0 _ 3 24 Try.underlying23 HI.out.1 HI.out.2.1 HI.out.2.2.1 HI.out.2.2.2 rfl (by decide) (.slice (some ⟨w.heap.size, 0, none⟩) 0 0) 0 [] rfl (own_empty w) ⟨b, off, none⟩ i _ (flat (ts.take i)) rfl (by rw [flat_length, List.length_take, Nat.min_eq_left (by omega)]) (HN1.out.drewalloc) (flat_one _) (by unfold maxLen; omega) (by omega) (by simp) ?_
        intro v1 w1 hown1 hgrow1 hnil1
        have HO1 := Lib.hid hown1
        have hb1 : Below w.heap.size w w1 := (below_box _ _).drew.grown hgrow1 (by simp) (by simp [Value.ownBlock])
        have HB1 := Lib.hid hb1
        clear hown1 hgrow1 hnil1 hb1
        refine hK.out _ _ ?_ (fun hHeld2 => ?_)
        · (try dsimp only)
          first | exact hb | (simp; omega) | (have := HB2.out.size; omega) | (have := HB1.out.size; omega)
        clear hK K hHeld
        have hHeld := hHeld2
        clear hHeld2
        (try simp only [Act.put, List.setIfInBounds_toArray, List.set_cons_zero, List.set_cons_succ])
        refine wpAnyH_ready (rs := [9]) (by kernel_rfl) (by simp) ?_
        refine AllReadyH.cons (toArr_get _ 9 _ rfl) (fun K hK => ?_) ?_
        · rw [if_pos (by rfl)]
          refine wp_append_own _ (.tmp 9) (.tmp 13) 23 rfl w.heap.size 36 i0 _ 3 24 Try.underlying23 HI.out.1 HI.out.2.1 HI.out.2.2.1 HI.out.2.2.2 rfl (by decide) v1 (0 + i) ([] ++ flat (ts.take i)) rfl HO1.out ⟨b, off + (i + 1) * 3, none⟩ (ts.length - (i + 1)) (cap - (i + 1)) (flat (ts.drop (i + 1))) rfl (by rw [flat_length, List.length_drop]; first | done | omega) (HN2.out.below HB1.out) (flat_one _) (by unfold maxLen; omega) (by omega) HB1.out.size ?_
          intro v2 w2 hown2 hgrow2 hnil2
          have HO2 := Lib.hid hown2
          have hb2 : Below w.heap.size w w2 := HB1.out.grown hgrow2 HB1.out.size (fun k hk => own_from HO1.out k hk)
          have HB2 := Lib.hid hb2
          clear hown2 hgrow2 hnil2 hb2
          refine hK.out _ _ ?_ (fun hHeld2 => ?_)
          · (try dsimp only)
            first | exact hb | (simp; omega) | (have := HB2.out.size; omega) | (have := HB1.out.size; omega)
          clear hK K hHeld
          have hHeld := hHeld2
          clear hHeld2
          (try simp only [Act.put, List.setIfInBounds_toArray, List.set_cons_zero, List.set_cons_succ])
          refine wpAnyH_take (i := 10) (v := ?_) (toArr_get _ 10 _ rfl) (by kernel_rfl) (by kernel_rfl) (by kernel_rfl) (fun _ _ _ h => h) (Or.inl ⟨by rfl, ?_⟩) (by assumption) ?_
          rotate_left
          · (intro w hSw; (try dsimp only at hSw); go_simp; (try with_reducible rfl))
          (try simp only [Act.put, List.setIfInBounds_toArray, List.set_cons_zero, List.set_cons_succ])
          refine wpAnyH_done (by kernel_rfl) ?_ _
          refine NoPanic.normal ?_
          go_wp2_with fail
          go_ret
          exact without_end hi HO2.out HB2.out
        exact AllReadyH.nil
      exact AllReadyH.nil
    exact AllReadyH.nil
    --END A
end Go.Proofs.Ytjmagpfnikhboaa
