/- Partitioned scheduling as plain arithmetic: the tasks on a processor, first fit, the search, the smallest number of processors. No dump. -/
import Derived.Test.YtdgihkmiolnglaaGreatDoorPlain
namespace Go.Proofs.YtdgihkmiolnglaaGreatDoor

/-! ### Fewer tasks stay feasible -/
theorem dem_sub {as bs : List T3} (h : as.Sublist bs) (x : Nat) : dem as x ≤ dem bs x := by
  induction h with
  | slnil => exact Nat.le_refl _
  | @cons l1 l2 a _ ih =>
    have e : dem (a :: l2) x = dem [a] x + dem l2 x := dem_append [a] l2 x
    omega
  | @cons_cons l1 l2 a _ ih =>
    have e1 : dem (a :: l1) x = dem [a] x + dem l1 x := dem_append [a] l1 x
    have e2 : dem (a :: l2) x = dem [a] x + dem l2 x := dem_append [a] l2 x
    omega
theorem sv_sub {as bs : List T3} (h : as.Sublist bs) (hs : svB bs = true) : svB as = true := by
  unfold svB at hs ⊢
  simp only [Bool.and_eq_true, decide_eq_true_eq, List.all_eq_true] at hs ⊢
  exact ⟨fun x hx => hs.1 x (h.subset hx), Nat.le_trans h.length_le hs.2⟩
theorem edf_sub {as bs : List T3} (h : as.Sublist bs) (he : edf bs = true) : edf as = true :=
  edf_iff.2 ⟨sv_sub h (edf_iff.1 he).1, fun t _ _ => Nat.le_trans (dem_sub h t) (edf_any he t)⟩
theorem edf_nil : edf [] = true := edf_iff.2 ⟨rfl, fun _ _ _ => Nat.zero_le _⟩
theorem edf_one {t : T3} (h : tv t = true) : edf [t] = true := by
  have hb := tv_bd h
  refine edf_iff.2 ⟨by simp [svB, h], fun x h1 h2 => ?_⟩
  have hy : hyp [t] = per t := by simp [hyp]
  rw [hy] at h2
  show 0 + dem1 t x ≤ x
  unfold dem1
  split
  · rename_i hd
    have : (x - dln t) / per t = 0 := Nat.div_eq_of_lt (by omega)
    rw [this]
    omega
  · omega

/-! ### The tasks on a processor -/
/-- Of the first k tasks, those that f gives to processor c. -/
def onN (ts : List T3) (f : Nat → Int) (c : Int) : Nat → List T3
  | 0 => []
  | k + 1 => if f k = c then onN ts f c k ++ [tk ts k] else onN ts f c k
theorem onN_congr {ts : List T3} {f g : Nat → Int} {c : Int} : ∀ {k : Nat}, (∀ j, j < k → f j = g j) → onN ts f c k = onN ts g c k
  | 0, _ => rfl
  | k + 1, h => by
    simp only [onN]
    rw [h k (by omega), onN_congr (ts := ts) (c := c) (k := k) fun j hj => h j (by omega)]
theorem onN_map {ts : List T3} {f g : Nat → Int} {c d : Int} : ∀ {k : Nat}, (∀ j, j < k → (f j = c ↔ g j = d)) → onN ts f c k = onN ts g d k
  | 0, _ => rfl
  | k + 1, h => by
    simp only [onN]
    have ih := onN_map (ts := ts) (f := f) (g := g) (c := c) (d := d) (k := k) fun j hj => h j (by omega)
    rw [ih]
    by_cases e : f k = c
    · rw [if_pos e, if_pos ((h k (by omega)).1 e)]
    · rw [if_neg e, if_neg (fun e' => e ((h k (by omega)).2 e'))]
theorem onN_le (ts : List T3) (f : Nat → Int) (c : Int) : ∀ {m k : Nat}, m ≤ k → (onN ts f c m).Sublist (onN ts f c k) := by
  intro m k h
  induction k with
  | zero => obtain rfl : m = 0 := by omega
            exact List.Sublist.refl _
  | succ k ih =>
    by_cases e : m = k + 1
    · subst e; exact List.Sublist.refl _
    · have h1 := ih (by omega)
      simp only [onN]
      split
      · exact h1.trans (List.sublist_append_left _ _)
      · exact h1
theorem onN_len (ts : List T3) (f : Nat → Int) (c : Int) : ∀ k, (onN ts f c k).length ≤ k
  | 0 => Nat.le_refl _
  | k + 1 => by
    have := onN_len ts f c k
    simp only [onN]
    split
    · simp; omega
    · omega
theorem onN_mem {ts : List T3} {f : Nat → Int} {c : Int} {x : T3} : ∀ {k : Nat}, x ∈ onN ts f c k → ∃ j, j < k ∧ f j = c ∧ x = tk ts j
  | 0, h => by simp [onN] at h
  | k + 1, h => by
    simp only [onN] at h
    split at h
    · rename_i e
      rcases List.mem_append.1 h with h | h
      · obtain ⟨j, h1, h2⟩ := onN_mem h
        exact ⟨j, by omega, h2⟩
      · exact ⟨k, by omega, e, by simpa using h⟩
    · obtain ⟨j, h1, h2⟩ := onN_mem h
      exact ⟨j, by omega, h2⟩
theorem onN_sv {ts : List T3} (h : svB ts = true) (f : Nat → Int) (c : Int) {k : Nat} (hk : k ≤ ts.length) : svB (onN ts f c k) = true := by
  unfold svB at h ⊢
  simp only [Bool.and_eq_true, decide_eq_true_eq] at h ⊢
  refine ⟨List.all_eq_true.2 fun x hx => ?_, Nat.le_trans (onN_len ts f c k) (by omega)⟩
  obtain ⟨j, hj, _, rfl⟩ := onN_mem hx
  exact tk_tv h.1 (by omega)
theorem onN_all (ts : List T3) : ∀ {k : Nat}, k ≤ ts.length → onN ts (fun _ => 0) 0 k = ts.take k
  | 0, _ => by simp [onN]
  | k + 1, h => by
    rw [show onN ts (fun _ => 0) 0 (k + 1) = onN ts (fun _ => 0) 0 k ++ [tk ts k] from if_pos rfl, onN_all ts (k := k) (by omega)]
    have e : tk ts k = ts[k] := by simp [tk, show k < ts.length by omega]
    rw [e, List.take_append_getElem]

/-! ### Feasible assignments -/
/-- Every processor below n can run its tasks. -/
def Fea (ts : List T3) (n : Nat) (f : Nat → Int) (k : Nat) : Prop := ∀ c : Nat, c < n → edf (onN ts f c k) = true
instance (ts : List T3) (n : Nat) (f : Nat → Int) (k : Nat) : Decidable (Fea ts n f k) := by unfold Fea; infer_instance
/-- A valid assignment. -/
def avB (ts : List T3) (n : Int) (as : List Int) : Bool := svB ts && decide (1 ≤ n ∧ n ≤ 5) && decide (as.length = ts.length) && as.all fun a => decide (0 ≤ a ∧ a < n)
theorem avB_iff {ts : List T3} {n : Int} {as : List Int} : avB ts n as = true ↔ svB ts = true ∧ (1 ≤ n ∧ n ≤ 5) ∧ as.length = ts.length ∧ ∀ k, k < as.length → 0 ≤ as.getD k 0 ∧ as.getD k 0 < n := by
  simp only [avB, Bool.and_eq_true, decide_eq_true_eq, List.all_eq_true, and_assoc]
  constructor
  · rintro ⟨h1, h2, h3, h4, h5⟩
    refine ⟨h1, h2, h3, h4, fun k hk => ?_⟩
    rw [List.getD_eq_getElem?_getD, List.getElem?_eq_getElem hk]
    exact h5 _ (List.getElem_mem hk)
  · rintro ⟨h1, h2, h3, h4, h5⟩
    refine ⟨h1, h2, h3, h4, fun x hx => ?_⟩
    obtain ⟨k, hk, rfl⟩ := List.getElem_of_mem hx
    have := h5 k hk
    rw [List.getD_eq_getElem?_getD, List.getElem?_eq_getElem hk] at this
    exact this
/-- A feasible assignment. -/
def afB (ts : List T3) (n : Int) (as : List Int) : Bool := avB ts n as && decide (Fea ts n.toNat (fun k => as.getD k 0) as.length)
theorem afB_iff {ts : List T3} {n : Int} {as : List Int} : afB ts n as = true ↔ avB ts n as = true ∧ Fea ts n.toNat (fun k => as.getD k 0) as.length := by simp only [afB, Bool.and_eq_true, decide_eq_true_eq]
/-- A list of processors as numbers. -/
def nz (as : List Nat) : Nat → Int := fun k => ((as.getD k 0 : Nat) : Int)
theorem nz_snoc (as : List Nat) (c : Nat) : (∀ k, k < as.length → nz (as ++ [c]) k = nz as k) ∧ nz (as ++ [c]) as.length = c := by
  constructor
  · intro k hk
    simp [nz, List.getD_eq_getElem?_getD, List.getElem?_append_left hk]
  · simp [nz, List.getD_eq_getElem?_getD]
/-- Can processor c take task k besides those that it has? -/
def fit (ts : List T3) (f : Nat → Int) (k : Nat) (c : Nat) : Bool := edf (onN ts f c k ++ [tk ts k])
theorem onN_snoc (ts : List T3) (as : List Nat) (c d : Nat) : onN ts (nz (as ++ [c])) d (as.length + 1) = if c = d then onN ts (nz as) d as.length ++ [tk ts as.length] else onN ts (nz as) d as.length := by
  simp only [onN]
  rw [(nz_snoc as c).2, onN_congr (nz_snoc as c).1]
  by_cases e : c = d
  · rw [if_pos (by omega), if_pos e]
  · rw [if_neg (by omega), if_neg e]
theorem fea_snoc {ts : List T3} {n : Nat} {as : List Nat} (h : Fea ts n (nz as) as.length) {c : Nat} (hf : fit ts (nz as) as.length c = true) : Fea ts n (nz (as ++ [c])) (as ++ [c]).length := by
  intro d hd
  rw [List.length_append, show [c].length = 1 from rfl, onN_snoc]
  split
  · next e => subst e; exact hf
  · exact h d hd
theorem fea_nil (ts : List T3) (n : Nat) (f : Nat → Int) : Fea ts n f 0 := fun _ _ => edf_nil

/-! ### First fit -/
def low (p : Nat → Bool) (n : Nat) : Option Nat := (List.range n).find? p
theorem low_some {p : Nat → Bool} : ∀ {n c : Nat}, low p n = some c → c < n ∧ p c = true ∧ ∀ d, d < c → p d = false := by
  intro n
  induction n with
  | zero => intro c h; simp [low] at h
  | succ n ih =>
    intro c h
    unfold low at h ih
    rw [List.range_succ, List.find?_append] at h
    cases e : (List.range n).find? p with
    | some b =>
      rw [e] at h
      obtain rfl : b = c := by simpa using h
      obtain ⟨h1, h2⟩ := ih e
      exact ⟨by omega, h2⟩
    | none =>
      rw [e] at h
      simp only [Option.none_or, List.find?_cons, List.find?_nil] at h
      split at h
      · rename_i hp
        obtain rfl : n = c := by simpa using h
        refine ⟨by omega, hp, fun d hd => ?_⟩
        have := List.find?_eq_none.1 e d (List.mem_range.2 hd)
        simpa using this
      · simp at h
theorem low_none {p : Nat → Bool} {n : Nat} (h : low p n = none) : ∀ d, d < n → p d = false := fun d hd => by
  have := List.find?_eq_none.1 h d (List.mem_range.2 hd)
  simpa using this
theorem low_is {p : Nat → Bool} {n c : Nat} (hc : c < n) (hp : p c = true) (hl : ∀ d, d < c → p d = false) : low p n = some c := by
  cases e : low p n with
  | none => have := low_none e c hc; rw [hp] at this; simp at this
  | some b =>
    obtain ⟨h1, h2, h3⟩ := low_some e
    rcases Nat.lt_trichotomy b c with h | h | h
    · have := hl b h; rw [h2] at this; simp at this
    · rw [h]
    · have := h3 c h; rw [hp] at this; simp at this
theorem low_not {p : Nat → Bool} {n : Nat} (hl : ∀ d, d < n → p d = false) : low p n = none := by
  cases e : low p n with
  | none => rfl
  | some b =>
    obtain ⟨h1, h2, _⟩ := low_some e
    have := hl b h1
    rw [h2] at this
    simp at this
/-- What first fit has placed of the first i tasks. -/
def ffN (ts : List T3) (n : Nat) : Nat → Option (List Nat)
  | 0 => some []
  | i + 1 => match ffN ts n i with
    | none => none
    | some as => match low (fit ts (nz as) i) n with
      | none => none
      | some c => some (as ++ [c])
def ff (ts : List T3) (n : Nat) : Option (List Nat) := ffN ts n ts.length
theorem ffN_some {ts : List T3} {n : Nat} : ∀ {i : Nat} {as : List Nat}, ffN ts n i = some as → as.length = i ∧ (∀ k, k < i → as.getD k 0 < n) ∧ Fea ts n (nz as) i ∧
    ∀ k, k < i → fit ts (nz as) k (as.getD k 0) = true ∧ ∀ d, d < as.getD k 0 → fit ts (nz as) k d = false
  | 0, as, h => by
    obtain rfl : [] = as := by simpa [ffN] using h
    exact ⟨rfl, fun _ hk => absurd hk (Nat.not_lt_zero _), fea_nil _ _ _, fun _ hk => absurd hk (Nat.not_lt_zero _)⟩
  | i + 1, as, h => by
    simp only [ffN] at h
    cases e : ffN ts n i with
    | none => rw [e] at h; simp at h
    | some bs =>
      rw [e] at h
      simp only at h
      cases e2 : low (fit ts (nz bs) i) n with
      | none => rw [e2] at h; simp at h
      | some c =>
        rw [e2] at h
        obtain rfl : bs ++ [c] = as := by simpa using h
        obtain ⟨h1, h2, h3, h4⟩ := ffN_some e
        obtain ⟨c1, c2, c3⟩ := low_some e2
        subst h1
        have hg : ∀ k, k < bs.length → (bs ++ [c]).getD k 0 = bs.getD k 0 := fun k hk => by simp [List.getD_eq_getElem?_getD, List.getElem?_append_left hk]
        have hl : (bs ++ [c]).getD bs.length 0 = c := by simp [List.getD_eq_getElem?_getD]
        have hf : ∀ k, k ≤ bs.length → ∀ d, fit ts (nz (bs ++ [c])) k d = fit ts (nz bs) k d := fun k hk d => by
          unfold fit
          rw [onN_congr (k := k) fun j hj => (nz_snoc bs c).1 j (by omega)]
        refine ⟨by simp, fun k hk => ?_, by have := fea_snoc h3 c2; rwa [List.length_append] at this, fun k hk => ?_⟩
        · by_cases e : k = bs.length
          · rw [e, hl]; exact c1
          · rw [hg k (by omega)]; exact h2 k (by omega)
        · by_cases e : k = bs.length
          · rw [e, hl]
            exact ⟨by rw [hf _ (Nat.le_refl _)]; exact c2, fun d hd => by rw [hf _ (Nat.le_refl _)]; exact c3 d hd⟩
          · rw [hg k (by omega)]
            have := h4 k (by omega)
            exact ⟨by rw [hf k (by omega)]; exact this.1, fun d hd => by rw [hf k (by omega)]; exact this.2 d hd⟩
theorem ffN_more {ts : List T3} {n m : Nat} (h : n ≤ m) : ∀ {i : Nat} {as : List Nat}, ffN ts n i = some as → ffN ts m i = some as
  | 0, _, h => h
  | i + 1, as, h1 => by
    simp only [ffN] at h1 ⊢
    cases e : ffN ts n i with
    | none => rw [e] at h1; simp at h1
    | some bs =>
      rw [e] at h1
      simp only at h1
      rw [ffN_more h e]
      simp only
      cases e2 : low (fit ts (nz bs) i) n with
      | none => rw [e2] at h1; simp at h1
      | some c =>
        rw [e2] at h1
        obtain ⟨c1, c2, c3⟩ := low_some e2
        rw [low_is (Nat.lt_of_lt_of_le c1 h) c2 c3]
        exact h1
/-- With one processor. -/
theorem ffN_one {ts : List T3} : ∀ {i : Nat}, i ≤ ts.length → ffN ts 1 i = if edf (ts.take i) = true then some (List.replicate i 0) else none
  | 0, _ => by
    have : edf (ts.take 0) = true := by rw [List.take_zero]; exact edf_nil
    rw [if_pos this]
    rfl
  | i + 1, hi => by
    have ih := ffN_one (ts := ts) (i := i) (by omega)
    have e1 : tk ts i = ts[i] := by simp [tk, show i < ts.length by omega]
    have e2 : ts.take (i + 1) = ts.take i ++ [tk ts i] := by rw [e1, List.take_append_getElem]
    simp only [ffN]
    by_cases h : edf (ts.take i) = true
    · rw [ih, if_pos h]
      simp only
      have hz : onN ts (nz (List.replicate i 0)) 0 i = ts.take i := by
        rw [← onN_all ts (k := i) (by omega)]
        refine onN_congr fun j hj => ?_
        simp [nz, List.getD_eq_getElem?_getD, hj]
      have hfit : fit ts (nz (List.replicate i 0)) i 0 = edf (ts.take (i + 1)) := by
        unfold fit
        rw [e2]
        exact congrArg (fun l => edf (l ++ [tk ts i])) hz
      by_cases h2 : edf (ts.take (i + 1)) = true
      · rw [if_pos h2, low_is (c := 0) (by omega) (by rw [hfit]; exact h2) (fun d hd => absurd hd (Nat.not_lt_zero _))]
        simp [List.replicate_succ']
      · rw [if_neg h2, low_not]
        intro d hd
        obtain rfl : d = 0 := by omega
        rw [hfit]
        simpa using h2
    · rw [ih, if_neg h, if_neg]
      intro h2
      rw [e2] at h2
      exact h (edf_sub (List.sublist_append_left _ _) h2)

/-! ### The search -/
def top : List Nat → Nat
  | [] => 0
  | a :: as => max (a + 1) (top as)
theorem top_snoc (as : List Nat) (c : Nat) : top (as ++ [c]) = max (top as) (c + 1) := by
  induction as with
  | nil => simp [top]
  | cons a as ih => simp only [List.cons_append, top]; rw [ih]; omega
theorem top_ge {as : List Nat} : ∀ {k : Nat}, k < as.length → as.getD k 0 < top as := by
  induction as with
  | nil => intro k hk; simp at hk
  | cons a as ih =>
    intro k hk
    cases k with
    | zero => simp [top]; omega
    | succ k =>
      have := ih (k := k) (by simpa using hk)
      simp only [top, List.getD_cons_succ]
      omega
theorem top_le {as : List Nat} {n : Nat} (h : ∀ k, k < as.length → as.getD k 0 < n) : top as ≤ n := by
  induction as with
  | nil => exact Nat.zero_le _
  | cons a as ih =>
    have h0 := h 0 (by simp)
    have h1 := ih fun k hk => by have := h (k + 1) (by simpa using hk); simpa using this
    simp only [top]
    simp at h0
    omega
/-- The first result of the processors below n, in order. -/
def firstR {α : Type} (p : Nat → Option α) : Nat → Nat → Option α
  | _, 0 => none
  | c, m + 1 => match p c with
    | some r => some r
    | none => firstR p (c + 1) m
theorem firstR_some {α : Type} {p : Nat → Option α} {r : α} : ∀ {m c : Nat}, firstR p c m = some r → ∃ d, c ≤ d ∧ d < c + m ∧ p d = some r ∧ ∀ e, c ≤ e → e < d → p e = none
  | 0, _, h => by simp [firstR] at h
  | m + 1, c, h => by
    simp only [firstR] at h
    cases e : p c with
    | some x =>
      rw [e] at h
      obtain rfl : x = r := by simpa using h
      exact ⟨c, Nat.le_refl _, by omega, e, fun _ h1 h2 => by omega⟩
    | none =>
      rw [e] at h
      obtain ⟨d, h1, h2, h3, h4⟩ := firstR_some h
      refine ⟨d, by omega, by omega, h3, fun x hx hx2 => ?_⟩
      by_cases ex : x = c
      · subst ex; exact e
      · exact h4 x (by omega) hx2
theorem firstR_none {α : Type} {p : Nat → Option α} : ∀ {m c : Nat}, firstR p c m = none → ∀ d, c ≤ d → d < c + m → p d = none
  | 0, _, _ => fun d h1 h2 => by omega
  | m + 1, c, h => fun d h1 h2 => by
    simp only [firstR] at h
    cases e : p c with
    | some x => rw [e] at h; simp at h
    | none =>
      rw [e] at h
      by_cases ed : d = c
      · subst ed; exact e
      · exact firstR_none h d (by omega) (by omega)
/-- Extends an assignment by m tasks more. -/
def srch (ts : List T3) (n : Nat) : Nat → List Nat → Option (List Nat)
  | 0, as => some as
  | m + 1, as => firstR (fun c => if fit ts (nz as) as.length c = true then srch ts n m (as ++ [c]) else none) 0 (min n (top as + 1))
def part (ts : List T3) (n : Nat) : Option (List Nat) := srch ts n ts.length []
theorem srch_some {ts : List T3} {n : Nat} : ∀ {m : Nat} {as r : List Nat}, srch ts n m as = some r → (∀ k, k < as.length → as.getD k 0 < n) → Fea ts n (nz as) as.length →
    r.length = as.length + m ∧ (∀ k, k < as.length → r.getD k 0 = as.getD k 0) ∧ (∀ k, k < r.length → r.getD k 0 < n) ∧ Fea ts n (nz r) r.length
  | 0, as, r, h, hn, hf => by
    obtain rfl : as = r := by simpa [srch] using h
    exact ⟨rfl, fun _ _ => rfl, hn, hf⟩
  | m + 1, as, r, h, hn, hf => by
    simp only [srch] at h
    obtain ⟨c, _, hc, hp, _⟩ := firstR_some h
    (try simp only at hp)
    split at hp
    · rename_i hfit
      obtain ⟨h1, h2, h3, h4⟩ := srch_some hp (fun k hk => by
        rw [List.length_append] at hk
        by_cases e : k = as.length
        · subst e; simp [List.getD_eq_getElem?_getD]; omega
        · have hk' : k < as.length := by simp at hk; omega
          have e2 : (as ++ [c]).getD k 0 = as.getD k 0 := by simp [List.getD_eq_getElem?_getD, List.getElem?_append_left hk']
          rw [e2]; exact hn k hk') (fea_snoc hf hfit)
      refine ⟨by rw [h1, List.length_append]; simp; omega, fun k hk => ?_, h3, h4⟩
      rw [h2 k (by rw [List.length_append]; omega)]
      simp [List.getD_eq_getElem?_getD, List.getElem?_append_left hk]
    · simp at hp
/-- At the first place where they differ, r is the smaller one. -/
def LexLe (r g : List Nat) : Prop := ∀ i, (∀ j, j < i → r.getD j 0 = g.getD j 0) → r.getD i 0 ≤ g.getD i 0
/-- The search finds an assignment, and none that follows g, if g is one that it may find. -/
theorem srch_le {ts : List T3} {n : Nat} (g : List Nat) (hn : ∀ k, k < g.length → g.getD k 0 < n) (hg : ∀ k, k < g.length → g.getD k 0 ≤ top (g.take k)) (hf : ∀ k, k < g.length → fit ts (nz g) k (g.getD k 0) = true) :
    ∀ (m : Nat) (as : List Nat), as = g.take as.length → as.length + m = g.length → ∃ r, srch ts n m as = some r ∧ r.length = g.length ∧ (∀ k, k < as.length → r.getD k 0 = g.getD k 0) ∧ LexLe r g
  | 0, as, ha, hl => by
    have e : as = g := by rw [ha, List.take_of_length_le (by omega)]
    subst e
    exact ⟨as, rfl, rfl, fun _ _ => rfl, fun _ _ => Nat.le_refl _⟩
  | m + 1, as, ha, hl => by
    have hk : as.length < g.length := by omega
    have hgc : g.getD as.length 0 = g[as.length] := by simp [List.getD_eq_getElem?_getD, List.getElem?_eq_getElem hk]
    obtain ⟨c, hc⟩ : ∃ c, c = g.getD as.length 0 := ⟨_, rfl⟩
    have ha2 : as ++ [c] = g.take (as.length + 1) := by
      rw [List.take_succ_eq_append_getElem hk, ← ha, hc, hgc]
    have hnz : ∀ k, k < as.length → nz g k = nz as k := fun k hk2 => by
      unfold nz
      congr 1
      rw [ha]
      simp [List.getD_eq_getElem?_getD, hk2]
    have hfit : fit ts (nz as) as.length c = true := by
      have := hf as.length hk
      unfold fit at this ⊢
      rw [onN_congr hnz, ← hc] at this
      exact this
    obtain ⟨r, hr, hrl, hrp, hrx⟩ := srch_le g hn hg hf m (as ++ [c]) (by rw [List.length_append]; exact ha2) (by rw [List.length_append]; simp; omega)
    have hct : c < min n (top as + 1) := by
      have h1 := hn as.length hk
      have h2 := hg as.length hk
      rw [← ha, ← hc] at h2
      rw [← hc] at h1
      omega
    simp only [srch]
    cases e : firstR (fun c => if fit ts (nz as) as.length c = true then srch ts n m (as ++ [c]) else none) 0 (min n (top as + 1)) with
    | none =>
      have := firstR_none e c (Nat.zero_le _) (by omega)
      (try simp only at this)
      rw [if_pos hfit, hr] at this
      simp at this
    | some q =>
      obtain ⟨d, _, hd, hp, hno⟩ := firstR_some e
      (try simp only at hp)
      split at hp
      · rename_i hfd
        have hdc : d ≤ c := by
          apply Classical.byContradiction
          intro hcon
          have := hno c (Nat.zero_le _) (by omega)
          (try simp only at this)
          rw [if_pos hfit, hr] at this
          simp at this
        by_cases edc : d = c
        · subst edc
          rw [hr] at hp
          obtain rfl : r = q := by simpa using hp
          exact ⟨r, rfl, hrl, fun k hk2 => hrp k (by rw [List.length_append]; omega), hrx⟩
        · -- the result begins as ++ [d], d < c
          have pre : ∀ {m : Nat} {as r : List Nat}, srch ts n m as = some r → r.length = as.length + m ∧ ∀ k, k < as.length → r.getD k 0 = as.getD k 0 := by
            intro m
            induction m with
            | zero => intro as r h; obtain rfl : as = r := by simpa [srch] using h
                      exact ⟨rfl, fun _ _ => rfl⟩
            | succ m ih =>
              intro as r h
              simp only [srch] at h
              obtain ⟨x, _, _, hp, _⟩ := firstR_some h
              (try simp only at hp)
              split at hp
              · obtain ⟨h1, h2⟩ := ih hp
                refine ⟨by rw [h1, List.length_append]; simp; omega, fun k hk => ?_⟩
                rw [h2 k (by rw [List.length_append]; omega)]
                simp [List.getD_eq_getElem?_getD, List.getElem?_append_left hk]
              · simp at hp
          obtain ⟨q1, q2⟩ := pre hp
          have hqa : ∀ k, k < as.length → q.getD k 0 = g.getD k 0 := fun k hk2 => by
            rw [q2 k (by rw [List.length_append]; omega)]
            have h1 : (as ++ [d]).getD k 0 = as.getD k 0 := by simp [List.getD_eq_getElem?_getD, List.getElem?_append_left hk2]
            have h2 := hnz k hk2
            unfold nz at h2
            rw [h1]
            omega
          have hqd : q.getD as.length 0 = d := by
            rw [q2 as.length (by rw [List.length_append]; simp)]
            simp [List.getD_eq_getElem?_getD]
          refine ⟨q, rfl, by rw [q1, List.length_append]; simp; omega, hqa, fun i hi => ?_⟩
          rcases Nat.lt_trichotomy i as.length with h | h | h
          · rw [hqa i h]; exact Nat.le_refl _
          · subst h; rw [hqd, ← hc]; exact hdc
          · have := hi as.length h
            rw [hqd, ← hc] at this
            exact absurd this edc
      · simp at hp
/-- First fit opens processors in order. -/
theorem ff_top {ts : List T3} (hv : svB ts = true) {n : Nat} {as : List Nat} (h : ff ts n = some as) : ∀ k, k < as.length → as.getD k 0 ≤ top (as.take k) := by
  obtain ⟨h1, h2, h3, h4⟩ := ffN_some h
  intro k hk
  apply Classical.byContradiction
  intro hc
  have h5 := (h4 k (by omega)).2 (top (as.take k)) (by omega)
  have h6 : onN ts (nz as) ((top (as.take k) : Nat) : Int) k = [] := by
    have hno : ∀ j, j < k → as.getD j 0 < top (as.take k) := fun j hj => by
      have := top_ge (as := as.take k) (k := j) (by rw [List.length_take]; omega)
      have e : (as.take k).getD j 0 = as.getD j 0 := by simp [List.getD_eq_getElem?_getD, hj]
      rw [e] at this
      exact this
    have : ∀ {m : Nat}, m ≤ k → onN ts (nz as) ((top (as.take k) : Nat) : Int) m = [] := by
      intro m
      induction m with
      | zero => intro _; rfl
      | succ m ih =>
        intro hm
        simp only [onN]
        rw [if_neg, ih (by omega)]
        have := hno m (by omega)
        unfold nz
        omega
    exact this (Nat.le_refl _)
  unfold fit at h5
  rw [h6, List.nil_append, edf_one (tk_tv (all_of_sv hv) (by omega))] at h5
  simp at h5
theorem ff_part {ts : List T3} (hv : svB ts = true) {n : Nat} {as : List Nat} (h : ff ts n = some as) : ∃ r, part ts n = some r ∧ r.length = as.length ∧ LexLe r as := by
  obtain ⟨h1, h2, h3, h4⟩ := ffN_some h
  obtain ⟨r, e, e1, _, e3⟩ := srch_le (ts := ts) (n := n) as (fun k hk => h2 k (by omega)) (ff_top hv h) (fun k hk => (h4 k (by omega)).1) as.length [] (by simp) (by simp)
  rw [h1] at e
  exact ⟨r, e, e1, e3⟩
/-- Two processors change their names. -/
def swpC (a b : Int) (x : Int) : Int := if x = a then b else if x = b then a else x
theorem swpC_iff (a b x y : Int) : swpC a b x = swpC a b y ↔ x = y := by
  unfold swpC
  split <;> split <;> (try split) <;> (try split) <;> omega
/-- If any assignment that begins so is feasible, the search finds one. -/
theorem srch_found {ts : List T3} {n : Nat} : ∀ (m : Nat) (as : List Nat) (f : Nat → Int), as.length + m = ts.length → (∀ k, k < as.length → as.getD k 0 < n) → (∀ k, k < as.length → f k = nz as k) → (∀ k, k < ts.length → 0 ≤ f k ∧ f k < n) → Fea ts n f ts.length → ∃ r, srch ts n m as = some r
  | 0, as, _, _, _, _, _, _ => ⟨as, rfl⟩
  | m + 1, as, f, hl, hn, hp, hb, hf => by
    have hk : as.length < ts.length := by omega
    -- a name for the next processor that the search tries
    have key : ∀ g : Nat → Int, (∀ k, k < as.length → g k = nz as k) → (∀ k, k < ts.length → 0 ≤ g k ∧ g k < n) → Fea ts n g ts.length → g as.length ≤ top as → ∃ r, srch ts n (m + 1) as = some r := by
      intro g gp gb gf gt
      obtain ⟨c, hc⟩ : ∃ c : Nat, g as.length = (c : Int) := ⟨(g as.length).toNat, by have := gb as.length hk; omega⟩
      have hcn : c < n := by have := gb as.length hk; omega
      have hfit : fit ts (nz as) as.length c = true := by
        unfold fit
        have h1 := gf c hcn
        refine edf_sub ?_ h1
        have h2 := onN_le ts g c (m := as.length + 1) (k := ts.length) (by omega)
        simp only [onN] at h2
        rw [if_pos hc, onN_congr gp] at h2
        exact h2
      have hn2 : ∀ k, k < (as ++ [c]).length → (as ++ [c]).getD k 0 < n := fun k hk2 => by
        rw [List.length_append] at hk2
        by_cases e : k = as.length
        · subst e; simp [List.getD_eq_getElem?_getD]; omega
        · have hk' : k < as.length := by simp at hk2; omega
          have e2 : (as ++ [c]).getD k 0 = as.getD k 0 := by simp [List.getD_eq_getElem?_getD, List.getElem?_append_left hk']
          rw [e2]; exact hn k hk'
      have hp2 : ∀ k, k < (as ++ [c]).length → g k = nz (as ++ [c]) k := fun k hk2 => by
        rw [List.length_append] at hk2
        by_cases e : k = as.length
        · subst e; rw [(nz_snoc as c).2]; exact hc
        · have hk' : k < as.length := by simp at hk2; omega
          rw [(nz_snoc as c).1 k hk']; exact gp k hk'
      obtain ⟨r, hr⟩ := srch_found m (as ++ [c]) g (by rw [List.length_append]; simp; omega) hn2 hp2 gb gf
      simp only [srch]
      cases e : firstR (fun c => if fit ts (nz as) as.length c = true then srch ts n m (as ++ [c]) else none) 0 (min n (top as + 1)) with
      | some q => exact ⟨q, rfl⟩
      | none =>
        have := firstR_none e c (Nat.zero_le _) (by omega)
        (try simp only at this)
        rw [if_pos hfit, hr] at this
        simp at this
    by_cases ht : f as.length ≤ top as
    · exact key f hp hb hf ht
    · have htn := hb as.length hk
      have htop : top as < n := by omega
      refine key (fun k => swpC (f as.length) (top as : Nat) (f k)) (fun k hk2 => ?_) (fun k hk2 => ?_) ?_ ?_
      · have h1 := hp k hk2
        have h2 := top_ge hk2
        unfold nz at h1 ⊢
        unfold swpC
        rw [if_neg (by omega), if_neg (by omega)]
        exact h1
      · have := hb k hk2
        unfold swpC
        split
        · omega
        · split <;> omega
      · intro c hc
        have hsw : ∃ d : Nat, d < n ∧ swpC (f as.length) (top as : Nat) d = (c : Int) := by
          refine ⟨(swpC (f as.length) (top as : Nat) (c : Int)).toNat, ?_, ?_⟩
          · unfold swpC
            split
            · omega
            · split <;> omega
          · unfold swpC
            split
            · rename_i e; split <;> (try split) <;> omega
            · split
              · split <;> (try split) <;> omega
              · split <;> (try split) <;> omega
        obtain ⟨d, hd, e⟩ := hsw
        have := hf d hd
        rw [onN_map (g := fun k => swpC (f as.length) (top as : Nat) (f k)) (d := (c : Int)) fun j hj => by rw [← e]; exact (swpC_iff _ _ _ _).symm] at this
        exact this
      · show swpC (f as.length) (top as : Nat) (f as.length) ≤ top as
        unfold swpC
        rw [if_pos rfl]
        exact Int.le_refl _
theorem part_found {ts : List T3} {n : Nat} {f : Nat → Int} (hb : ∀ k, k < ts.length → 0 ≤ f k ∧ f k < n) (hf : Fea ts n f ts.length) : ∃ r, part ts n = some r :=
  srch_found ts.length [] f (by simp) (fun _ hk => absurd hk (by simp)) (fun _ hk => absurd hk (by simp)) hb hf
theorem part_some {ts : List T3} {n : Nat} {r : List Nat} (h : part ts n = some r) : r.length = ts.length ∧ (∀ k, k < ts.length → r.getD k 0 < n) ∧ Fea ts n (nz r) ts.length := by
  obtain ⟨h1, _, h3, h4⟩ := srch_some h (fun _ hk => absurd hk (by simp)) (fea_nil _ _ _)
  simp at h1
  rw [h1] at h3 h4
  exact ⟨h1, h3, h4⟩
theorem part_more {ts : List T3} {n : Nat} {r : List Nat} (h : part ts n = some r) : ∃ q, part ts (n + 1) = some q := by
  obtain ⟨h1, h2, h3⟩ := part_some h
  refine part_found (f := nz r) (fun k hk => by have := h2 k hk; unfold nz; omega) fun c hc => ?_
  by_cases e : c < n
  · exact h3 c e
  · have : ∀ {m : Nat}, m ≤ ts.length → onN ts (nz r) c m = [] := by
      intro m
      induction m with
      | zero => intro _; rfl
      | succ m ih =>
        intro hm
        simp only [onN]
        rw [if_neg, ih (by omega)]
        have := h2 m (by omega)
        unfold nz
        omega
    rw [this (Nat.le_refl _)]
    exact edf_nil
theorem part_one {ts : List T3} : (∃ r, part ts 1 = some r) ↔ edf ts = true := by
  constructor
  · rintro ⟨r, h⟩
    obtain ⟨h1, h2, h3⟩ := part_some h
    have := h3 0 (by omega)
    rw [show onN ts (nz r) ((0 : Nat) : Int) ts.length = onN ts (fun _ => 0) 0 ts.length from onN_congr fun j hj => by have := h2 j hj; unfold nz; omega, onN_all ts (Nat.le_refl _), List.take_length] at this
    exact this
  · intro h
    refine part_found (f := fun _ => 0) (fun k hk => by omega) fun c hc => ?_
    obtain rfl : c = 0 := by omega
    show edf (onN ts (fun _ => 0) 0 ts.length) = true
    rw [onN_all ts (Nat.le_refl _), List.take_length]
    exact h
/-- As many processors as tasks are enough. -/
theorem part_len {ts : List T3} (hv : svB ts = true) : ∃ r, part ts ts.length = some r := by
  refine part_found (f := fun k => (k : Int)) (fun k hk => by omega) fun c hc => ?_
  have : ∀ {m : Nat}, m ≤ ts.length → onN ts (fun k => (k : Int)) c m = if c < m then [tk ts c] else [] := by
    intro m
    induction m with
    | zero => intro _; rfl
    | succ m ih =>
      intro hm
      simp only [onN]
      rw [ih (by omega)]
      by_cases e : m = c
      · subst e
        rw [if_pos rfl, if_neg (by omega), if_pos (by omega)]
        rfl
      · rw [if_neg (by omega)]
        by_cases e2 : c < m
        · rw [if_pos e2, if_pos (by omega)]
        · rw [if_neg e2, if_neg (by omega)]
  rw [this (Nat.le_refl _), if_pos hc]
  exact edf_one (tk_tv (all_of_sv hv) hc)
theorem part_mono {ts : List T3} {n m : Nat} (h : n ≤ m) (hr : ∃ r, part ts n = some r) : ∃ r, part ts m = some r := by
  induction m with
  | zero => obtain rfl : n = 0 := by omega
            exact hr
  | succ m ih =>
    by_cases e : n = m + 1
    · subst e; exact hr
    · obtain ⟨r, h1⟩ := ih (by omega)
      exact part_more h1
/-- The smallest number of processors. -/
def mcN (ts : List T3) : Nat := if (part ts 1).isSome then 1 else if (part ts 2).isSome then 2 else if (part ts 3).isSome then 3 else if (part ts 4).isSome then 4 else 5
theorem mcN_part {ts : List T3} (hv : svB ts = true) : 1 ≤ mcN ts ∧ mcN ts ≤ 5 ∧ (∃ r, part ts (mcN ts) = some r) ∧ ∀ n, 1 ≤ n → n < mcN ts → part ts n = none := by
  have h5 : ∃ r, part ts 5 = some r := part_mono (by unfold svB at hv; simp only [Bool.and_eq_true, decide_eq_true_eq] at hv; exact hv.2) (part_len hv)
  have hs : ∀ n, (part ts n).isSome = true → ∃ r, part ts n = some r := fun n h => Option.isSome_iff_exists.1 h
  have hn : ∀ n, ¬ (part ts n).isSome = true → part ts n = none := fun n h => by simpa using h
  unfold mcN
  by_cases e1 : (part ts 1).isSome = true
  · rw [if_pos e1]; exact ⟨by omega, by omega, hs 1 e1, fun n h1 h2 => by omega⟩
  rw [if_neg e1]
  by_cases e2 : (part ts 2).isSome = true
  · rw [if_pos e2]
    refine ⟨by omega, by omega, hs 2 e2, fun n h1 h2 => ?_⟩
    obtain rfl : n = 1 := by omega
    exact hn 1 e1
  rw [if_neg e2]
  by_cases e3 : (part ts 3).isSome = true
  · rw [if_pos e3]
    refine ⟨by omega, by omega, hs 3 e3, fun n h1 h2 => ?_⟩
    rcases (by omega : n = 1 ∨ n = 2) with rfl | rfl
    · exact hn 1 e1
    · exact hn 2 e2
  rw [if_neg e3]
  by_cases e4 : (part ts 4).isSome = true
  · rw [if_pos e4]
    refine ⟨by omega, by omega, hs 4 e4, fun n h1 h2 => ?_⟩
    rcases (by omega : n = 1 ∨ n = 2 ∨ n = 3) with rfl | rfl | rfl
    · exact hn 1 e1
    · exact hn 2 e2
    · exact hn 3 e3
  rw [if_neg e4]
  refine ⟨by omega, by omega, h5, fun n h1 h2 => ?_⟩
  rcases (by omega : n = 1 ∨ n = 2 ∨ n = 3 ∨ n = 4) with rfl | rfl | rfl | rfl
  · exact hn 1 e1
  · exact hn 2 e2
  · exact hn 3 e3
  · exact hn 4 e4
theorem mcN_le {ts : List T3} {n : Nat} (h1 : 1 ≤ n) (hv : svB ts = true) (h : ∃ r, part ts n = some r) : mcN ts ≤ n := by
  obtain ⟨_, _, _, h4⟩ := mcN_part hv
  apply Classical.byContradiction
  intro hc
  obtain ⟨r, hr⟩ := h
  have := h4 n h1 (by omega)
  rw [hr] at this
  simp at this
theorem mcN_len {ts : List T3} (hv : svB ts = true) : mcN ts ≤ max 1 ts.length := by
  by_cases h : 1 ≤ ts.length
  · have := mcN_le h hv (part_len hv)
    omega
  · have e : ts = [] := by
      cases ts with
      | nil => rfl
      | cons a l => simp at h
    have := mcN_le (n := 1) (Nat.le_refl _) hv (part_one.2 (by rw [e]; exact edf_nil))
    omega
theorem mcN_one {ts : List T3} (hv : svB ts = true) : mcN ts = 1 ↔ edf ts = true := by
  rw [← part_one]
  constructor
  · intro h
    have := (mcN_part hv).2.2.1
    rw [h] at this
    exact this
  · intro h
    have h1 := mcN_le (Nat.le_refl 1) hv h
    have := (mcN_part hv).1
    omega
/-- Fewer tasks need no more processors. -/
theorem onN_wo (ts : List T3) (f : Nat → Int) (c : Int) {i : Nat} (hi : i < ts.length) : ∀ {k : Nat}, k ≤ (wo ts i).length → (onN (wo ts i) (fun k => if k < i then f k else f (k + 1)) c k).Sublist (onN ts f c (if k ≤ i then k else k + 1))
  | 0, _ => by simp [onN]
  | k + 1, hk => by
    have ih := onN_wo ts f c hi (k := k) (by omega)
    have hlen := wo_length hi
    by_cases h : k < i
    · have et : tk (wo ts i) k = tk ts k := by
        unfold tk wo
        simp [List.getD_eq_getElem?_getD, List.getElem?_append_left (show k < (ts.take i).length by rw [List.length_take]; omega), h]
      rw [if_pos (by omega)] at ih ⊢
      rw [show onN ts f c (k + 1) = if f k = c then onN ts f c k ++ [tk ts k] else onN ts f c k from rfl]
      rw [show onN (wo ts i) (fun k => if k < i then f k else f (k + 1)) c (k + 1) = if (if k < i then f k else f (k + 1)) = c then onN (wo ts i) (fun k => if k < i then f k else f (k + 1)) c k ++ [tk (wo ts i) k] else onN (wo ts i) (fun k => if k < i then f k else f (k + 1)) c k from rfl]
      rw [if_pos h, et]
      split
      · exact ih.append (List.Sublist.refl _)
      · exact ih
    · have et : tk (wo ts i) k = tk ts (k + 1) := by
        unfold tk wo
        rw [List.getD_eq_getElem?_getD, List.getD_eq_getElem?_getD, List.getElem?_append_right (by rw [List.length_take]; omega), List.length_take, List.getElem?_drop]
        congr 2
        omega
      rw [if_neg (by omega)]
      have ih2 : (onN (wo ts i) (fun k => if k < i then f k else f (k + 1)) c k).Sublist (onN ts f c (k + 1)) := by
        by_cases e : k ≤ i
        · rw [if_pos e] at ih
          exact ih.trans (onN_le ts f c (by omega))
        · rw [if_neg e] at ih
          exact ih
      rw [show onN ts f c (k + 1 + 1) = if f (k + 1) = c then onN ts f c (k + 1) ++ [tk ts (k + 1)] else onN ts f c (k + 1) from rfl]
      rw [show onN (wo ts i) (fun k => if k < i then f k else f (k + 1)) c (k + 1) = if (if k < i then f k else f (k + 1)) = c then onN (wo ts i) (fun k => if k < i then f k else f (k + 1)) c k ++ [tk (wo ts i) k] else onN (wo ts i) (fun k => if k < i then f k else f (k + 1)) c k from rfl]
      rw [if_neg (show ¬ k < i from h), et]
      split
      · exact ih2.append (List.Sublist.refl _)
      · exact ih2
theorem mcN_wo {ts : List T3} (hv : svB ts = true) {i : Nat} (hi : i < ts.length) : mcN (wo ts i) ≤ mcN ts := by
  obtain ⟨h1, h2, ⟨r, hr⟩, _⟩ := mcN_part hv
  obtain ⟨r1, r2, r3⟩ := part_some hr
  have hlen := wo_length hi
  refine mcN_le h1 (sv_wo hv i) (part_found (f := fun k => if k < i then nz r k else nz r (k + 1)) (fun k hk => ?_) fun c hc => ?_)
  · split
    · have := r2 k (by omega); unfold nz; omega
    · have := r2 (k + 1) (by omega); unfold nz; omega
  · have h3 := onN_wo ts (nz r) c hi (Nat.le_refl (wo ts i).length)
    by_cases e : (wo ts i).length ≤ i
    · rw [if_pos e] at h3
      exact edf_sub (h3.trans (onN_le ts (nz r) c (by omega))) (r3 c hc)
    · rw [if_neg e, hlen] at h3
      exact edf_sub h3 (r3 c hc)

/-! ### Sums over the processors -/
theorem onN_sum {ts : List T3} {f : Nat → Int} {n : Nat} {g : List T3 → Nat} (g0 : g [] = 0) (gs : ∀ l t, g (l ++ [t]) = g l + g [t]) : ∀ {k : Nat}, k ≤ ts.length → (∀ j, j < k → 0 ≤ f j ∧ f j < n) → sumN (fun c => g (onN ts f c k)) n = g (ts.take k)
  | 0, _, _ => by
    rw [List.take_zero, g0]
    exact sumN_zero fun _ _ => g0
  | k + 1, hk, h => by
    have ih := onN_sum (ts := ts) (f := f) (n := n) g0 gs (k := k) (by omega) fun j hj => h j (by omega)
    have hf := h k (by omega)
    obtain ⟨c, hc⟩ : ∃ c : Nat, f k = (c : Int) := ⟨(f k).toNat, by omega⟩
    have e1 : tk ts k = ts[k] := by simp [tk, show k < ts.length by omega]
    have e2 : ts.take (k + 1) = ts.take k ++ [tk ts k] := by rw [e1, List.take_append_getElem]
    rw [e2, gs, ← ih]
    refine sumN_one (b := c) (by omega) (fun d _ hne => ?_) ?_
    · show g (if f k = (d : Int) then onN ts f d k ++ [tk ts k] else onN ts f d k) = _
      rw [if_neg (by omega)]
    · show g (if f k = (c : Int) then onN ts f c k ++ [tk ts k] else onN ts f c k) = _
      rw [if_pos hc, gs]
theorem onN_count {ts : List T3} {f : Nat → Int} {n : Nat} (h : ∀ j, j < ts.length → 0 ≤ f j ∧ f j < n) : sumN (fun c => (onN ts f c ts.length).length) n = ts.length := by
  have := onN_sum (ts := ts) (f := f) (n := n) (g := List.length) rfl (fun l t => by simp) (Nat.le_refl _) h
  rw [List.take_length] at this
  exact this
theorem sumN_all {f : Nat → Nat} {b : Nat} : ∀ {n : Nat}, (∀ i, i < n → f i ≤ b) → sumN f n ≤ n * b
  | 0, _ => by simp [sumN]
  | n + 1, h => by
    have ih := sumN_all (f := f) (b := b) (n := n) fun i hi => h i (by omega)
    have := h n (by omega)
    rw [show sumN f (n + 1) = sumN f n + f n from rfl, Nat.succ_mul]
    omega
/-- Utilization is at most the number of processors. -/
theorem ut_part {ts : List T3} (hv : svB ts = true) {n : Nat} {r : List Nat} (h : part ts n = some r) : utN ts ≤ n * utD ts := by
  obtain ⟨r1, r2, r3⟩ := part_some h
  have hall := all_of_sv hv
  have hH := (hyp_bd ts hall).1
  have hF := frac_ut hv hH
  have h1 : wrk (hyp ts) ts ≤ n * hyp ts := by
    have hs := onN_sum (ts := ts) (f := nz r) (n := n) (g := wrk (hyp ts)) rfl (fun l t => by rw [wrk_snoc, wrk_one]) (Nat.le_refl _) fun j hj => by have := r2 j hj; unfold nz; omega
    rw [List.take_length] at hs
    rw [← hs]
    refine sumN_all fun c hc => ?_
    have hsv := onN_sv hv (nz r) (c : Int) (Nat.le_refl ts.length)
    rw [← dem_hyper (all_of_sv hsv) (fun t ht => ?_) hH]
    · exact edf_any (r3 c hc) _
    · obtain ⟨j, hj, _, rfl⟩ := onN_mem ht
      have e1 : tk ts j = ts[j] := by simp [tk, hj]
      rw [e1]
      exact per_dvd_hyp (List.getElem_mem hj)
  have h2 : utN ts * hyp ts ≤ (n * utD ts) * hyp ts := by
    rw [hF.2.2, Nat.mul_comm n, Nat.mul_assoc]
    exact Nat.mul_le_mul_left _ h1
  exact Nat.le_of_mul_le_mul_right h2 hH

end Go.Proofs.YtdgihkmiolnglaaGreatDoor
