/- Plain arithmetic of chapter 4: priority orders (promise 52), ranks, feasibility of an order; jobs of lower priority do not disturb others (promise 55). No dump. -/
import Derived.Test.YtocppoobcanhiaaCrit
namespace Go.Proofs.Ytocppoobcanhiaa

/-! ### Lower priorities do not disturb -/
theorem best_is {rel left key : Nat → Nat} {now b n : Nat} (hb : b < n) (hr : rel b ≤ now) (hl : 0 < left b) (hm : ∀ i, i < n → rel i ≤ now → 0 < left i → key b < key i ∨ (key b = key i ∧ b ≤ i)) : best rel left key now n = some b := by
  cases h : best rel left key now n with
  | none => exact absurd ⟨hr, hl⟩ (best_none h b hb)
  | some c =>
    obtain ⟨c1, c2, c3, c4⟩ := best_some h
    have h1 := hm c c1 c2 c3
    have h2 := c4 b hb hr hl
    congr 1
    omega
/-- Q's jobs are some of P's, in their order; P's others come behind all of them. -/
theorem Pat.sub {P Q : Pat} {σ : Nat → Nat} (hσ : ∀ a b, a < b → b < Q.n → σ a < σ b) (hn : ∀ k, k < Q.n → σ k < P.n) (h : ∀ k, k < Q.n → P.rel (σ k) = Q.rel k ∧ P.ex (σ k) = Q.ex k ∧ P.key (σ k) = Q.key k)
    (hlow : ∀ i, i < P.n → (∀ k, k < Q.n → σ k ≠ i) → ∀ k, k < Q.n → Q.key k < P.key i) (t : Nat) : ∀ k, k < Q.n → P.left t (σ k) = Q.left t k ∧ P.fin t (σ k) = Q.fin t k := by
  have inj : ∀ a b, a < Q.n → b < Q.n → σ a = σ b → a = b := fun a b ha hb e => by
    rcases Nat.lt_trichotomy a b with h | h | h
    · have := hσ a b h hb; omega
    · exact h
    · have := hσ b a h ha; omega
  have mono : ∀ a b, a ≤ b → b < Q.n → σ a ≤ σ b := fun a b hab hb => by
    rcases Nat.lt_or_eq_of_le hab with h | h
    · exact Nat.le_of_lt (hσ a b h hb)
    · rw [h]; exact Nat.le_refl _
  induction t with
  | zero => exact fun k hk => ⟨(h k hk).2.1, rfl⟩
  | succ t ih =>
    have run : ∀ k, k < Q.n → (P.run t = some (σ k) ↔ Q.run t = some k) := by
      intro k hk
      cases hq : Q.run t with
      | none =>
        refine ⟨fun hp => ?_, fun h => by simp at h⟩
        obtain ⟨p1, p2, p3⟩ := Pat.run_pos hp
        exact absurd ⟨by rw [← (h k hk).1]; exact p2, by rw [← (ih k hk).1]; exact p3⟩ (best_none hq k hk)
      | some b =>
        obtain ⟨b1, b2, b3, b4⟩ := best_some hq
        have hp : P.run t = some (σ b) := best_is (hn b b1) (by rw [(h b b1).1]; exact b2) (by rw [(ih b b1).1]; exact b3) fun i hi h2 h3 => by
          by_cases hc : ∃ c, c < Q.n ∧ σ c = i
          · obtain ⟨c, hc1, rfl⟩ := hc
            rw [(h b b1).2.2, (h c hc1).2.2]
            rcases b4 c hc1 (by rw [← (h c hc1).1]; exact h2) (by rw [← (ih c hc1).1]; exact h3) with e | ⟨e, e2⟩
            · exact .inl e
            · exact .inr ⟨e, mono b c e2 hc1⟩
          · have := hlow i hi (fun c hc1 e => hc ⟨c, hc1, e⟩) b b1
            rw [(h b b1).2.2]
            exact .inl this
        rw [hp]
        constructor
        · intro e
          simp only [Option.some.injEq] at e
          rw [inj b k b1 hk e]
        · intro e
          simp only [Option.some.injEq] at e
          rw [e]
    intro k hk
    have e1 : P.left (t + 1) (σ k) = Q.left (t + 1) k := by
      rw [P.left_succ, Q.left_succ, (ih k hk).1]
      by_cases hr : Q.run t = some k
      · rw [if_pos hr, if_pos ((run k hk).2 hr)]
      · rw [if_neg hr, if_neg (fun e => hr ((run k hk).1 e))]
    refine ⟨e1, ?_⟩
    rw [P.fin_succ, Q.fin_succ, e1, (ih k hk).2]
    by_cases hr : Q.run t = some k ∧ Q.left (t + 1) k = 0
    · rw [if_pos hr, if_pos ⟨(run k hk).2 hr.1, hr.2⟩]
    · rw [if_neg hr, if_neg (fun e => hr ⟨(run k hk).1 e.1, e.2⟩)]

/-! ### Orders -/
/-- A permutation of the indices of a valid set. -/
def ordB (ts : List T3) (os : List Int) : Bool := svB ts && decide (os.length = ts.length) && decide (∀ x ∈ os, 0 ≤ x ∧ x < ts.length) && decide os.Nodup
theorem ordB_iff {ts : List T3} {os : List Int} : ordB ts os = true ↔ svB ts = true ∧ os.length = ts.length ∧ (∀ x ∈ os, 0 ≤ x ∧ x < ts.length) ∧ os.Nodup := by
  simp only [ordB, Bool.and_eq_true, decide_eq_true_eq, and_assoc]
theorem len_le_of_nodup : ∀ (n : Nat) (l : List Int), l.Nodup → (∀ x ∈ l, 0 ≤ x ∧ x < n) → l.length ≤ n
  | 0, l, _, h => by
    cases l with
    | nil => simp
    | cons x l => have := h x (List.mem_cons_self ..); omega
  | n + 1, l, hnd, h => by
    by_cases hm : (n : Int) ∈ l
    · have ih := len_le_of_nodup n (l.erase (n : Int)) (hnd.erase _) (fun x hx => by
        have h1 := h x (List.mem_of_mem_erase hx)
        have h2 : x ≠ (n : Int) := fun e => by rw [e] at hx; exact hnd.not_mem_erase hx
        omega)
      rw [List.length_erase_of_mem hm] at ih
      omega
    · have ih := len_le_of_nodup n l hnd (fun x hx => by
        have h1 := h x hx
        have h2 : x ≠ (n : Int) := fun e => hm (e ▸ hx)
        omega)
      omega
theorem ord_all {ts : List T3} {os : List Int} (h : ordB ts os = true) {i : Nat} (hi : i < ts.length) : (i : Int) ∈ os := by
  obtain ⟨_, h1, h2, h3⟩ := ordB_iff.1 h
  apply Classical.byContradiction
  intro hn
  have := len_le_of_nodup ts.length ((i : Int) :: os) (List.nodup_cons.2 ⟨hn, h3⟩) (fun x hx => by
    rcases List.mem_cons.1 hx with e | e
    · subst e; omega
    · exact h2 x e)
  simp only [List.length_cons] at this
  omega
/-- The place of a task in an order. -/
def rk (os : List Int) (i : Nat) : Nat := os.idxOf (i : Int)
theorem rk_lt {os : List Int} {i : Nat} (h : (i : Int) ∈ os) : rk os i < os.length := List.idxOf_lt_length_of_mem h
theorem rk_at {os : List Int} {i : Nat} (h : (i : Int) ∈ os) : os[rk os i]? = some (i : Int) := by
  have hl := rk_lt h
  rw [List.getElem?_eq_getElem hl]
  congr 1
  exact List.getElem_idxOf hl
theorem rk_inj {ts : List T3} {os : List Int} (h : ordB ts os = true) : ∀ i j, i < ts.length → j < ts.length → rk os i = rk os j → i = j := fun i j hi hj e => by
  have h1 := rk_at (ord_all h hi)
  have h2 := rk_at (ord_all h hj)
  rw [e, h2] at h1
  simp only [Option.some.injEq] at h1
  omega
/-- Before place k lie the tasks of smaller rank. -/
theorem mem_take {os : List Int} (hnd : os.Nodup) {k j : Nat} (hj : (j : Int) ∈ os) : (j : Int) ∈ os.take k ↔ rk os j < k := by
  constructor
  · intro h
    obtain ⟨p, hp, e⟩ := List.getElem_of_mem h
    rw [List.getElem_take] at e
    have hp' : p < k ∧ p < os.length := by rw [List.length_take] at hp; omega
    have h1 := rk_at hj
    have h2 : os[p]? = some (j : Int) := by rw [List.getElem?_eq_getElem hp'.2, e]
    have h3 := (List.getElem?_inj hp'.2 hnd).1 (h2.trans h1.symm)
    omega
  · intro h
    have h1 := rk_at hj
    have h2 : (os.take k)[rk os j]? = some (j : Int) := by rw [List.getElem?_take_of_lt h]; exact h1
    exact List.mem_of_getElem? h2
/-- The response time of the task at place k. -/
def rspO (ts : List T3) (os : List Int) (k : Nat) : Option Nat := resp ts (fun j => decide ((j : Int) ∈ os.take k)) (os.getD k 0).toNat
theorem rspO_rk {ts : List T3} {os : List Int} (h : ordB ts os = true) {i : Nat} (hi : i < ts.length) : rspO ts os (rk os i) = resp ts (fun j => decide (rk os j < rk os i)) i := by
  have h1 := rk_at (ord_all h hi)
  unfold rspO
  rw [List.getD, h1]
  show resp ts _ ((i : Int)).toNat = _
  rw [Int.toNat_natCast]
  exact resp_congr fun j hj => by
    rw [decide_eq_decide]
    exact mem_take (ordB_iff.1 h).2.2.2 (ord_all h hj)
/-- Feasible in this order. -/
def fixB (ts : List T3) (os : List Int) : Bool := ordB ts os && (List.range os.length).all fun k => (rspO ts os k).isSome
theorem fixB_iff {ts : List T3} {os : List Int} : fixB ts os = true ↔ ordB ts os = true ∧ FeasR ts (rk os) := by
  simp only [fixB, Bool.and_eq_true, List.all_eq_true, List.mem_range]
  constructor
  · rintro ⟨h, h2⟩
    refine ⟨h, rk_inj h, fun i hi hn => ?_⟩
    have h3 := h2 (rk os i) (rk_lt (ord_all h hi))
    rw [rspO_rk h hi, hn] at h3
    simp at h3
  · rintro ⟨h, h2⟩
    refine ⟨h, fun k hk => ?_⟩
    obtain ⟨_, hl, hr, hnd⟩ := ordB_iff.1 h
    have hx := hr os[k] (List.getElem_mem hk)
    obtain ⟨i, hi⟩ := Int.eq_ofNat_of_zero_le hx.1
    have hit : i < ts.length := by omega
    have hk2 : rk os i = k := by
      have h1 := rk_at (ord_all h hit)
      have h3 : os[k]? = some (i : Int) := by rw [List.getElem?_eq_getElem hk, hi]
      exact (List.getElem?_inj (rk_lt (ord_all h hit)) hnd).1 (h1.trans h3.symm)
    have h4 := h2.2 i hit
    rw [← rspO_rk h hit, hk2] at h4
    cases e : rspO ts os k with
    | none => exact absurd e h4
    | some r => rfl
theorem ord_rev {ts : List T3} {os : List Int} (h : ordB ts os = true) : ordB ts os.reverse = true := by
  obtain ⟨h0, h1, h2, h3⟩ := ordB_iff.1 h
  exact ordB_iff.2 ⟨h0, by simpa using h1, fun x hx => h2 x (by simpa using hx), (List.reverse_perm os).nodup_iff.2 h3⟩

end Go.Proofs.Ytocppoobcanhiaa
