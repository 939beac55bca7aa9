/- Plain theory of Audsley's algorithm as the program runs it (one entry of an order is moved down to a level), of an order that is sorted by insertion, and of the places of an order. No dump. -/
import Derived.Test.YtocppoobcanhiaaAudsley
import Derived.Test.YtocppoobcanhiaaHeap
namespace Go.Proofs.Ytocppoobcanhiaa

/-- Two ascending lists with the same members are one. -/
theorem eq_of_up {R : Int → Int → Prop} (irr : ∀ a, ¬ R a a) (asy : ∀ a b, R a b → ¬ R b a) : ∀ {l m : List Int}, l.Pairwise R → m.Pairwise R → (∀ x, x ∈ l ↔ x ∈ m) → l = m
  | [], [], _, _, _ => rfl
  | [], b :: m, _, _, h => absurd ((h b).2 List.mem_cons_self) (by simp)
  | a :: l, [], _, _, h => absurd ((h a).1 List.mem_cons_self) (by simp)
  | a :: l, b :: m, hl, hm, h => by
    rw [List.pairwise_cons] at hl hm
    have hab : a = b := by
      rcases List.mem_cons.1 ((h a).1 List.mem_cons_self) with e | e
      · exact e
      · rcases List.mem_cons.1 ((h b).2 List.mem_cons_self) with e2 | e2
        · exact e2.symm
        · exact absurd (hl.1 b e2) (asy _ _ (hm.1 a e))
    subst hab
    refine congrArg (a :: ·) (eq_of_up irr asy hl.2 hm.2 fun x => ⟨fun hx => ?_, fun hx => ?_⟩)
    · rcases List.mem_cons.1 ((h x).1 (List.mem_cons_of_mem _ hx)) with e | e
      · subst e; exact absurd (hl.1 _ hx) (irr _)
      · exact e
    · rcases List.mem_cons.1 ((h x).2 (List.mem_cons_of_mem _ hx)) with e | e
      · subst e; exact absurd (hm.1 _ hx) (irr _)
      · exact e

/-! ### One entry moved down -/
def lowL (os : List Int) (i j : Nat) : List Int := (os.eraseIdx i).insertIdx j (os.getD i 0)
theorem lowL_len {os : List Int} {i j : Nat} (hi : i < os.length) (hj : j < os.length) : (lowL os i j).length = os.length := by
  unfold lowL
  rw [List.length_insertIdx, List.length_eraseIdx_of_lt hi, if_pos (by omega)]
  omega
/-- The same by its entries. -/
def lowF (f : Nat → Int) (i j k : Nat) : Int := if k = j then f i else if i ≤ k ∧ k < j then f (k + 1) else f k
theorem lowL_at {os : List Int} {i j k : Nat} (hij : i ≤ j) (hj : j < os.length) : (lowL os i j).getD k 0 = lowF (fun k => os.getD k 0) i j k := by
  have hl : (os.eraseIdx i).length = os.length - 1 := List.length_eraseIdx_of_lt (by omega)
  unfold lowL lowF
  simp only [List.getD_eq_getElem?_getD, List.getElem?_insertIdx, List.getElem?_eraseIdx]
  by_cases h1 : k < j
  · rw [if_pos h1, if_neg (show ¬ k = j by omega)]
    by_cases h2 : k < i
    · rw [if_pos h2, if_neg (show ¬ (i ≤ k ∧ k < j) by omega)]
    · rw [if_neg h2, if_pos (show i ≤ k ∧ k < j by omega)]
  · rw [if_neg h1]
    by_cases h2 : k = j
    · rw [if_pos h2, if_pos (by omega), if_pos h2]
      rfl
    · rw [if_neg h2, if_neg h2, if_neg (show ¬ k - 1 < i by omega), if_neg (show ¬ (i ≤ k ∧ k < j) by omega)]
      congr 2
      omega

/-! ### Audsley's algorithm, from the order of the tasks that have no level yet -/
def unL (low : List Int) (n : Nat) : List Int := ((List.range n).map fun i : Nat => (i : Int)).filter fun x => decide (x ∉ low)
theorem unL_mem {low : List Int} {n : Nat} {x : Int} : x ∈ unL low n ↔ (0 ≤ x ∧ x < n) ∧ x ∉ low := by
  simp only [unL, List.mem_filter, List.mem_map, List.mem_range, decide_eq_true_eq]
  constructor
  · rintro ⟨⟨i, h1, rfl⟩, h2⟩
    exact ⟨by omega, h2⟩
  · rintro ⟨h1, h2⟩
    exact ⟨⟨x.toNat, by omega, by omega⟩, h2⟩
theorem unL_up (low : List Int) (n : Nat) : (unL low n).Pairwise (· < ·) := by
  refine List.Pairwise.filter _ ?_
  rw [List.pairwise_map]
  exact List.pairwise_lt_range.imp fun h => by omega
theorem unL_nd (low : List Int) (n : Nat) : (unL low n).Nodup := (unL_up low n).imp fun h => by omega
theorem unL_nil (n : Nat) : unL [] n = (List.range n).map fun i : Nat => (i : Int) := by
  unfold unL
  rw [List.filter_eq_self]
  intro x _
  simp
theorem au_ord {ts : List T3} {low : List Int} (hs : svB ts = true) (h : Low ts low) : ordB ts (unL low ts.length ++ low) = true := by
  have hnd : (unL low ts.length ++ low).Nodup := List.nodup_append.2 ⟨unL_nd _ _, h.nd, fun a ha b hb e => by subst e; exact (unL_mem.1 ha).2 hb⟩
  have hr : ∀ x ∈ unL low ts.length ++ low, 0 ≤ x ∧ x < ts.length := fun x hx => by
    rcases List.mem_append.1 hx with h1 | h1
    · exact (unL_mem.1 h1).1
    · exact h.rng x h1
  refine ordB_iff.2 ⟨hs, Nat.le_antisymm (len_le_of_nodup _ _ hnd hr) (len_ge _ _ fun i hi => ?_), hr, hnd⟩
  by_cases hm : (i : Int) ∈ low
  · exact List.mem_append.2 (.inr hm)
  · exact List.mem_append.2 (.inl (unL_mem.2 ⟨by omega, hm⟩))
theorem au_len {ts : List T3} {low : List Int} (hs : svB ts = true) (h : Low ts low) : (unL low ts.length).length + low.length = ts.length := by
  have := (ordB_iff.1 (au_ord hs h)).2.1
  rwa [List.length_append] at this
theorem unL_erase {low : List Int} {n i : Nat} (hi : i < (unL low n).length) : (unL low n).eraseIdx i = unL ((unL low n)[i] :: low) n := by
  refine eq_of_up (R := (· < ·)) (fun a h => by omega) (fun a b h1 h2 => by omega) (List.Pairwise.sublist (List.eraseIdx_sublist _ _) (unL_up low n)) (unL_up _ n) fun x => ?_
  rw [List.mem_eraseIdx_iff_getElem, unL_mem]
  constructor
  · rintro ⟨j, hj, hne, rfl⟩
    have h1 := unL_mem.1 (List.getElem_mem hj)
    refine ⟨h1.1, fun hm => ?_⟩
    rcases List.mem_cons.1 hm with e | e
    · exact hne ((List.getElem_inj (unL_nd low n)).1 e)
    · exact h1.2 e
  · rintro ⟨h1, h2⟩
    have hx : x ∈ unL low n := unL_mem.2 ⟨h1, fun hm => h2 (List.mem_cons_of_mem _ hm)⟩
    obtain ⟨j, hj, rfl⟩ := List.getElem_of_mem hx
    exact ⟨j, hj, fun e => by subst e; exact h2 List.mem_cons_self, rfl⟩
/-- The entry i of those that have no level goes to their last place. -/
theorem au_low {low : List Int} {n i L : Nat} (hL : (unL low n).length = L + 1) (hi : i ≤ L) : ∃ x : Nat, (unL low n)[i]? = some (x : Int) ∧ lowL (unL low n ++ low) i L = unL ((x : Int) :: low) n ++ (x : Int) :: low ∧ (unL ((x : Int) :: low) n).length = L := by
  have hl : i < (unL low n).length := by omega
  have h0 := (unL_mem.1 (List.getElem_mem hl)).1
  obtain ⟨x, hx⟩ := Int.eq_ofNat_of_zero_le h0.1
  have he := unL_erase hl
  rw [hx] at he
  have hel : ((unL low n).eraseIdx i).length = L := by rw [List.length_eraseIdx_of_lt hl]; omega
  refine ⟨x, by rw [List.getElem?_eq_getElem hl, hx], ?_, by rw [← he]; exact hel⟩
  unfold lowL
  have hg : (unL low n ++ low).getD i 0 = (x : Int) := by
    rw [List.getD_eq_getElem?_getD, List.getElem?_append_left hl, List.getElem?_eq_getElem hl, hx]
    rfl
  rw [hg, List.eraseIdx_append_of_lt_length hl, ← he]
  obtain ⟨A, hA⟩ : ∃ A, A = (unL low n).eraseIdx i := ⟨_, rfl⟩
  rw [← hA] at hel ⊢
  subst hel
  clear hA he hL hi
  induction A with
  | nil => rfl
  | cons a A ih => simpa using ih
theorem au_resp {ts : List T3} {low : List Int} {x L : Nat} (hl : (x : Int) ∉ low) (hL : (unL ((x : Int) :: low) ts.length).length = L) : (rspO ts (unL ((x : Int) :: low) ts.length ++ (x : Int) :: low) L).isSome = fitB ts low x := by
  unfold rspO fitB
  rw [decide_eq_true hl, Bool.true_and]
  have h1 : (unL ((x : Int) :: low) ts.length ++ (x : Int) :: low).getD L 0 = (x : Int) := by
    rw [List.getD_eq_getElem?_getD, List.getElem?_append_right (by omega), hL, Nat.sub_self]
    rfl
  have h2 : (unL ((x : Int) :: low) ts.length ++ (x : Int) :: low).take L = unL ((x : Int) :: low) ts.length := by
    rw [← hL]
    exact List.take_left
  rw [h1, h2, Int.toNat_natCast]
  congr 1
  exact resp_congr fun j hj => by
    rw [decide_eq_decide, unL_mem]
    exact ⟨fun h => h.2, fun h => ⟨by omega, h⟩⟩
theorem pickA_first {ts : List T3} {low : List Int} {i : Nat} (hi : fitB ts low i = true) (h0 : ∀ j, j < i → fitB ts low j = false) : ∀ n, i < n → pickA ts low n = some i
  | 0, h => absurd h (Nat.not_lt_zero _)
  | n + 1, h => by
    simp only [pickA]
    by_cases e : i = n
    · subst e
      have : pickA ts low i = none := by
        cases hp : pickA ts low i with
        | none => rfl
        | some j =>
          obtain ⟨h1, h2⟩ := pickA_some hp
          rw [h0 j h1] at h2
          simp at h2
      rw [this]
      simp [hi]
    · rw [pickA_first hi h0 n (by omega)]
theorem fitB_low {ts : List T3} {low : List Int} {j : Nat} (h : (j : Int) ∈ low) : fitB ts low j = false := by
  simp [fitB, h]
/-- The first entry that fits is the one that is picked. -/
theorem au_pick {ts : List T3} {low : List Int} {i x : Nat} (hx : (unL low ts.length)[i]? = some (x : Int)) (hf : fitB ts low x = true) (h0 : ∀ (j y : Nat), j < i → (unL low ts.length)[j]? = some (y : Int) → fitB ts low y = false) : pickA ts low ts.length = some x := by
  obtain ⟨hl, hxe⟩ := List.getElem?_eq_some_iff.1 hx
  have hxm := unL_mem.1 (List.getElem_mem hl)
  rw [hxe] at hxm
  refine pickA_first hf (fun y hy => ?_) _ (by omega)
  by_cases hm : (y : Int) ∈ low
  · exact fitB_low hm
  · have hu : (y : Int) ∈ unL low ts.length := unL_mem.2 ⟨by omega, hm⟩
    obtain ⟨j, hj, e⟩ := List.getElem_of_mem hu
    refine h0 j y ?_ (by rw [List.getElem?_eq_getElem hj, e])
    rcases Nat.lt_trichotomy j i with h | h | h
    · exact h
    · subst h; omega
    · have := List.pairwise_iff_getElem.1 (unL_up low ts.length) i j hl hj h
      omega
theorem au_pick_none {ts : List T3} {low : List Int} (h0 : ∀ (j y : Nat), (unL low ts.length)[j]? = some (y : Int) → fitB ts low y = false) : pickA ts low ts.length = none := by
  cases hp : pickA ts low ts.length with
  | none => rfl
  | some y =>
    obtain ⟨h1, h2⟩ := pickA_some hp
    have hm : (y : Int) ∉ low := fun hm => by rw [fitB_low hm] at h2; simp at h2
    obtain ⟨j, hj, e⟩ := List.getElem_of_mem (unL_mem.2 ⟨⟨by omega, by omega⟩, hm⟩ : (y : Int) ∈ unL low ts.length)
    rw [h0 j y (by rw [List.getElem?_eq_getElem hj, e])] at h2
    simp at h2

/-! ### Insertion -/
/-- The first n values of f are those of 0..n-1, in some order. -/
structure PermF (f : Nat → Nat) (n : Nat) : Prop where
  lt : ∀ k, k < n → f k < n
  inj : ∀ a b, a < n → b < n → f a = f b → a = b
theorem PermF.swap {f : Nat → Nat} {n i j : Nat} (h : PermF f n) (hi : i < n) (hj : j < n) : PermF (swp f i j) n := by
  refine ⟨fun k hk => ?_, (Mixed.ofSwp f hi hj).inj h.inj⟩
  unfold swp
  split
  · exact h.lt _ hi
  · split
    · exact h.lt _ hj
    · exact h.lt _ hk
theorem PermF.start (n : Nat) : PermF (fun k => k) n := ⟨fun _ hk => hk, fun _ _ _ _ e => e⟩
/-- The first m values ascend. -/
def SrtF (ts : List T3) (f : Nat → Nat) (m : Nat) : Prop := ∀ a b, a < b → b < m → dmB ts (f a) (f b) = true
/-- The first i + 1 values ascend but for the one at j, which comes before those behind it. -/
structure InsF (ts : List T3) (f : Nat → Nat) (i j : Nat) : Prop where
  srt : ∀ a b, a < b → b ≤ i → a ≠ j → b ≠ j → dmB ts (f a) (f b) = true
  low : ∀ b, j < b → b ≤ i → dmB ts (f j) (f b) = true
theorem InsF.start {ts : List T3} {f : Nat → Nat} {i : Nat} (h : SrtF ts f i) : InsF ts f i i := ⟨fun a b hab hb _ h2 => h a b hab (by omega), fun b h1 h2 => by omega⟩
theorem dmB_or {ts : List T3} {a b : Nat} (h : a ≠ b) (h1 : ¬ dmB ts a b = true) : dmB ts b a = true := by
  simp only [dmB, decide_eq_true_eq] at h1 ⊢
  omega
theorem dmB_tr {ts : List T3} {a b c : Nat} (h : dmB ts a b = true) (h1 : dmB ts b c = true) : dmB ts a c = true := by
  simp only [dmB, decide_eq_true_eq] at h h1 ⊢
  omega
theorem InsF.step {ts : List T3} {f : Nat → Nat} {i j : Nat} (h : InsF ts f i (j + 1)) (hj : j + 1 ≤ i) (hl : dmB ts (f (j + 1)) (f j) = true) : InsF ts (swp f (j + 1) j) i j := by
  have e0 : swp f (j + 1) j j = f (j + 1) := by simp [swp]
  have e1 : swp f (j + 1) j (j + 1) = f j := by simp [swp]
  have e2 : ∀ k, k ≠ j → k ≠ j + 1 → swp f (j + 1) j k = f k := fun k h1 h2 => by simp [swp, h1, h2]
  refine ⟨fun a b hab hb ha hbj => ?_, fun b hb hbi => ?_⟩
  · by_cases ha1 : a = j + 1
    · subst ha1
      rw [e1, e2 b (by omega) (by omega)]
      exact h.srt j b (by omega) hb (by omega) (by omega)
    · rw [e2 a ha ha1]
      by_cases hb1 : b = j + 1
      · subst hb1
        rw [e1]
        exact h.srt a j (by omega) (by omega) ha1 (by omega)
      · rw [e2 b hbj hb1]
        exact h.srt a b hab hb ha1 hb1
  · rw [e0]
    by_cases hb1 : b = j + 1
    · subst hb1
      rw [e1]
      exact hl
    · rw [e2 b (by omega) hb1]
      exact h.low b (by omega) hbi
theorem InsF.done {ts : List T3} {f : Nat → Nat} {n i j : Nat} (h : InsF ts f i j) (hp : PermF f n) (hi : i < n) (hji : j ≤ i) (hj : j = 0 ∨ ¬ dmB ts (f j) (f (j - 1)) = true) : SrtF ts f (i + 1) := by
  intro a b hab hb
  by_cases ha : a = j
  · subst ha
    exact h.low b hab (by omega)
  · by_cases hbj : b = j
    · subst hbj
      rcases hj with e | e
      · omega
      · have h1 := dmB_or (fun e => by have := hp.inj _ _ (by omega) (by omega) e; omega) e
        by_cases ha1 : a = b - 1
        · subst ha1; exact h1
        · exact dmB_tr (h.srt a (b - 1) (by omega) (by omega) ha (by omega)) h1
    · exact h.srt a b hab (by omega) ha hbj
theorem surj_of_inj : ∀ {n : Nat} {f : Nat → Nat}, PermF f n → ∀ y, y < n → ∃ k, k < n ∧ f k = y := by
  intro n f h y hy
  apply Classical.byContradiction
  intro hn
  have hnd : ((y : Int) :: (List.range n).map fun k => (f k : Int)).Nodup := by
    refine List.nodup_cons.2 ⟨fun hm => ?_, ?_⟩
    · obtain ⟨k, hk, e⟩ := List.mem_map.1 hm
      exact hn ⟨k, List.mem_range.1 hk, by omega⟩
    · rw [List.Nodup, List.pairwise_map, List.pairwise_iff_getElem]
      intro i j hi hj hij e
      simp only [List.length_range] at hi hj
      simp only [List.getElem_range] at e
      have := h.inj i j hi hj (by omega)
      omega
  have := len_le_of_nodup n _ hnd (fun x hx => by
    rcases List.mem_cons.1 hx with e | e
    · omega
    · obtain ⟨k, hk, rfl⟩ := List.mem_map.1 e
      have := h.lt k (List.mem_range.1 hk)
      omega)
  simp only [List.length_cons, List.length_map, List.length_range] at this
  omega
/-- A sorted permutation is the deadline-monotonic order. -/
theorem srt_dm {ts : List T3} {f : Nat → Nat} (hs : svB ts = true) (hp : PermF f ts.length) (h : SrtF ts f ts.length) : (List.range ts.length).map (fun k => (f k : Int)) = dmO ts := by
  refine eq_of_up (R := DmLt ts) (fun a h => h.ne rfl) (fun a b h1 h2 => ?_) ?_ dmD_up fun x => ?_
  · simp only [DmLt, dmB, decide_eq_true_eq] at h1 h2
    omega
  · rw [List.pairwise_map, List.pairwise_iff_getElem]
    intro i j hi hj hij
    simp only [List.length_range] at hi hj
    simp only [List.getElem_range, DmLt, Int.toNat_natCast]
    exact h i j hij hj
  · obtain ⟨_, hl, hr, _⟩ := ordB_iff.1 (dm_ord hs)
    constructor
    · intro hx
      obtain ⟨k, hk, rfl⟩ := List.mem_map.1 hx
      exact ord_all (dm_ord hs) (hp.lt k (List.mem_range.1 hk))
    · intro hx
      have h1 := hr x hx
      obtain ⟨k, hk, e⟩ := surj_of_inj hp x.toNat (by omega)
      exact List.mem_map.2 ⟨k, List.mem_range.2 hk, by omega⟩

end Go.Proofs.Ytocppoobcanhiaa
