/- Plain theory of a binary heap of numbers, ordered by a key: moving up, moving down, and what the elements are. No dump. -/
import Derived.Test.YtocppoobcanhiaaSim
namespace Go.Proofs.Ytocppoobcanhiaa

/-- The parent of a place. -/
def par (c : Nat) : Nat := (c - 1) / 2
/-- Two places exchanged. -/
def swp (f : Nat → Nat) (i j : Nat) : Nat → Nat := fun k => if k = j then f i else if k = i then f j else f k
theorem swp_left (f : Nat → Nat) (i j : Nat) : swp f i j i = f j := by
  unfold swp
  by_cases h : i = j
  · subst h; simp
  · rw [if_neg h, if_pos rfl]
theorem swp_right (f : Nat → Nat) (i j : Nat) : swp f i j j = f i := by simp [swp]
theorem swp_other (f : Nat → Nat) {i j k : Nat} (h1 : k ≠ i) (h2 : k ≠ j) : swp f i j k = f k := by simp [swp, h1, h2]
theorem swp_swp (f : Nat → Nat) (i j k : Nat) : swp f i j (if k = j then i else if k = i then j else k) = f k := by
  unfold swp
  by_cases h1 : k = j <;> by_cases h2 : k = i <;> by_cases h3 : i = j <;> simp_all
/-- The first n elements are the same ones, in another order. -/
structure Mixed (n : Nat) (f f' : Nat → Nat) : Prop where
  inj : (∀ a b, a < n → b < n → f a = f b → a = b) → ∀ a b, a < n → b < n → f' a = f' b → a = b
  to : ∀ k, k < n → ∃ m, m < n ∧ f' m = f k
  fro : ∀ k, k < n → ∃ m, m < n ∧ f m = f' k
theorem Mixed.refl (n : Nat) (f : Nat → Nat) : Mixed n f f := ⟨fun h => h, fun k hk => ⟨k, hk, rfl⟩, fun k hk => ⟨k, hk, rfl⟩⟩
theorem Mixed.trans {n : Nat} {f g h : Nat → Nat} (a : Mixed n f g) (b : Mixed n g h) : Mixed n f h :=
  ⟨fun i => b.inj (a.inj i), fun k hk => by obtain ⟨m, h1, h2⟩ := a.to k hk; obtain ⟨m', h3, h4⟩ := b.to m h1; exact ⟨m', h3, h4.trans h2⟩,
   fun k hk => by obtain ⟨m, h1, h2⟩ := b.fro k hk; obtain ⟨m', h3, h4⟩ := a.fro m h1; exact ⟨m', h3, h4.trans h2⟩⟩
theorem pick_lt {n i j k : Nat} (hi : i < n) (hj : j < n) (hk : k < n) : (if k = j then i else if k = i then j else k) < n := by
  split
  · exact hi
  · split
    · exact hj
    · exact hk
theorem Mixed.ofSwp {n i j : Nat} (f : Nat → Nat) (hi : i < n) (hj : j < n) : Mixed n f (swp f i j) := by
  have back : ∀ k, k < n → ∃ m, m < n ∧ f m = swp f i j k := by
    intro k hk
    by_cases h2 : k = j
    · subst h2; exact ⟨i, hi, (swp_right f i k).symm⟩
    · by_cases h1 : k = i
      · subst h1; exact ⟨j, hj, (swp_left f k j).symm⟩
      · exact ⟨k, hk, (swp_other f h1 h2).symm⟩
  refine ⟨fun inj a b ha hb e => ?_, fun k hk => ⟨if k = j then i else if k = i then j else k, pick_lt hi hj hk, swp_swp f i j k⟩, back⟩
  have v : ∀ k, k < n → swp f i j k = f (if k = j then i else if k = i then j else k) := fun k _ => by
    unfold swp
    by_cases h1 : k = j
    · simp [h1]
    · rw [if_neg h1, if_neg h1]
      split <;> rfl
  rw [v a ha, v b hb] at e
  have := inj _ _ (pick_lt hi hj ha) (pick_lt hi hj hb) e
  by_cases a1 : a = j <;> by_cases a2 : a = i <;> by_cases b1 : b = j <;> by_cases b2 : b = i <;> simp_all
variable {K f : Nat → Nat} {n i j : Nat}
/-- Heap order among the first n. -/
def HeapOk (K f : Nat → Nat) (n : Nat) : Prop := ∀ c, 0 < c → c < n → K (f (par c)) ≤ K (f c)
/-- Heap order but for place j, which may be too small for its parent. -/
structure UpOk (K f : Nat → Nat) (n j : Nat) : Prop where
  le : ∀ c, 0 < c → c < n → c ≠ j → K (f (par c)) ≤ K (f c)
  up : 0 < j → ∀ c, 0 < c → c < n → par c = j → K (f (par j)) ≤ K (f c)
/-- Heap order but for place i, which may be too large for its children. -/
structure DownOk (K f : Nat → Nat) (n i : Nat) : Prop where
  le : ∀ c, 0 < c → c < n → par c ≠ i → K (f (par c)) ≤ K (f c)
  up : 0 < i → ∀ c, 0 < c → c < n → par c = i → K (f (par i)) ≤ K (f c)
theorem HeapOk.top (h : HeapOk K f n) : ∀ k, k < n → K (f 0) ≤ K (f k) := by
  intro k
  induction k using Nat.strongRecOn with
  | ind k ih =>
    intro hk
    by_cases h0 : k = 0
    · subst h0; exact Nat.le_refl _
    · have hp : par k < k := by unfold par; omega
      exact Nat.le_trans (ih (par k) hp (by omega)) (h k (by omega) hk)
theorem upOk_push (h : HeapOk K f n) : UpOk K f (n + 1) n :=
  ⟨fun c h0 hc hne => h c h0 (by omega), fun h0 c hc0 hc hp => by unfold par at hp; omega⟩
theorem UpOk.done0 (h : UpOk K f n 0) : HeapOk K f n := fun c h0 hc => h.le c h0 hc (by omega)
theorem UpOk.done (h : UpOk K f n j) (hle : K (f (par j)) ≤ K (f j)) : HeapOk K f n := fun c h0 hc => by
  by_cases e : c = j
  · subst e; exact hle
  · exact h.le c h0 hc e
theorem UpOk.step (h : UpOk K f n j) (h0 : 0 < j) (hj : j < n) (hlt : K (f j) < K (f (par j))) : UpOk K (swp f (par j) j) n (par j) := by
  have hpj : par j < j := by unfold par; omega
  refine ⟨fun c c0 hc hne => ?_, fun p0 c c0 hc hp => ?_⟩
  · by_cases e : c = j
    · subst e
      rw [swp_left, swp_right]
      omega
    · rw [swp_other f hne e]
      by_cases e2 : par c = j
      · rw [e2, swp_right]
        exact h.up h0 c c0 hc e2
      · by_cases e3 : par c = par j
        · rw [e3, swp_left]
          have := h.le c c0 hc e
          rw [e3] at this
          omega
        · rw [swp_other f e3 e2]
          exact h.le c c0 hc e
  · have hpp : par (par j) < par j := by unfold par at p0 ⊢; omega
    rw [swp_other f (by omega) (by omega)]
    have g1 := h.le (par j) p0 (by omega) (by omega)
    by_cases e : c = j
    · subst e
      rw [swp_right]
      exact g1
    · have hcp : c ≠ par j := by intro e2; rw [e2] at hp; omega
      rw [swp_other f hcp e]
      have := h.le c c0 hc e
      rw [hp] at this
      omega
theorem downOk_start (h : HeapOk K f (n + 1)) : DownOk K (swp f 0 n) n 0 :=
  ⟨fun c c0 hc hne => by
    have e1 : par c ≠ n := by unfold par; omega
    rw [swp_other f hne e1, swp_other f (by omega) (by omega)]
    exact h c c0 (by omega), fun h0 => absurd h0 (by omega)⟩
theorem par_left (i : Nat) : par (2 * i + 1) = i := by unfold par; omega
theorem par_right (i : Nat) : par (2 * i + 2) = i := by unfold par; omega
theorem par_two {c i : Nat} (h : par c = i) (h0 : 0 < c) : c = 2 * i + 1 ∨ c = 2 * i + 2 := by unfold par at h; omega
theorem DownOk.done (h : DownOk K f n i) (hc : ∀ c, 0 < c → c < n → par c = i → K (f i) ≤ K (f c)) : HeapOk K f n := fun c h0 hcn => by
  by_cases e : par c = i
  · rw [e]; exact hc c h0 hcn e
  · exact h.le c h0 hcn e
theorem DownOk.leaf (h : DownOk K f n i) (hn : n ≤ 2 * i + 1) : HeapOk K f n := h.done fun c h0 hc hp => by rcases par_two hp h0 with e | e <;> omega
/-- Place i is exchanged with its smaller child j. -/
theorem DownOk.step (h : DownOk K f n i) (hj : j < n) (hp : par j = i) (h0 : 0 < j) (hlt : K (f j) < K (f i)) (hs : ∀ c, 0 < c → c < n → par c = i → K (f j) ≤ K (f c)) : DownOk K (swp f i j) n j := by
  have hij : i < j := by unfold par at hp; omega
  refine ⟨fun c c0 hc hne => ?_, fun _ c c0 hc hpc => ?_⟩
  · by_cases e : par c = i
    · rw [e, swp_left]
      by_cases e2 : c = j
      · subst e2; rw [swp_right]; omega
      · have hci : c ≠ i := by intro e3; unfold par at e; omega
        rw [swp_other f hci e2]
        exact hs c c0 hc e
    · rw [swp_other f e hne]
      have hcj : c ≠ j := by intro e3; subst e3; exact e hp
      by_cases e4 : c = i
      · subst e4
        rw [swp_left]
        exact h.up c0 j h0 hj hp
      · rw [swp_other f e4 hcj]
        exact h.le c c0 hc e
  · rw [hp, swp_left]
    have hci : c ≠ i := by intro e; unfold par at hpc; omega
    have hcj : c ≠ j := by intro e; unfold par at hpc; omega
    rw [swp_other f hci hcj]
    have := h.le c c0 hc (by omega)
    rwa [hpc] at this
/-- What the n + 1 elements are once the top one has been taken out: the others. -/
theorem Mixed.popped {f' : Nat → Nat} (inj : ∀ a b, a < n + 1 → b < n + 1 → f a = f b → a = b) (h : Mixed n (swp f 0 n) f') :
    (∀ a b, a < n → b < n → f' a = f' b → a = b) ∧ ∀ x, (∃ k, k < n ∧ f' k = x) ↔ (∃ k, k < n + 1 ∧ f k = x) ∧ x ≠ f 0 := by
  have v : ∀ k, k < n → ∃ m, 0 < m ∧ m < n + 1 ∧ swp f 0 n k = f m := fun k hk => by
    by_cases e : k = 0
    · subst e; exact ⟨n, hk, by omega, swp_left f 0 n⟩
    · exact ⟨k, by omega, by omega, swp_other f e (by omega)⟩
  have m1 := Mixed.ofSwp f (show 0 < n + 1 by omega) (show n < n + 1 by omega)
  have inj1 := m1.inj inj
  refine ⟨h.inj fun a b ha hb e => inj1 a b (by omega) (by omega) e, fun x => ⟨?_, ?_⟩⟩
  · rintro ⟨k, hk, rfl⟩
    obtain ⟨m, hm, e⟩ := h.fro k hk
    obtain ⟨m', h0, hm', e'⟩ := v m hm
    rw [← e, e']
    exact ⟨⟨m', hm', rfl⟩, fun e2 => by have := inj m' 0 hm' (by omega) e2; omega⟩
  · rintro ⟨⟨k, hk, rfl⟩, hne⟩
    have h0 : 0 < k := by
      rcases Nat.eq_zero_or_pos k with e | e
      · subst e; exact absurd rfl hne
      · exact e
    obtain ⟨m, hm, e⟩ : ∃ m, m < n ∧ swp f 0 n m = f k := by
      by_cases e : k = n
      · subst e; exact ⟨0, h0, swp_left f 0 k⟩
      · exact ⟨k, by omega, swp_other f (by omega) e⟩
    obtain ⟨m', hm', e'⟩ := h.to m hm
    exact ⟨m', hm', e'.trans e⟩

end Go.Proofs.Ytocppoobcanhiaa
