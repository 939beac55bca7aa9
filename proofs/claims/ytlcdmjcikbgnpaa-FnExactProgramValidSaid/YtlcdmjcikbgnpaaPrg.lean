/- Structured programs as plain arithmetic: valid nodes, best and worst case, what an execution takes, the choices of a worst one. No dump. -/
import Derived.Test.YtlcdmjcikbgnpaaPlain
namespace Go.Proofs.Ytlcdmjcikbgnpaa

/-- A node: its kind, cost, two children, bound. -/
abbrev N5 := Int × Int × Int × Int × Int
def nd8 (ps : List N5) (i : Nat) : N5 := ps.getD i (0, 0, 0, 0, 0)
/-- A valid node at index k. -/
def nvB (n : N5) (k : Nat) : Bool :=
  if n.1 = 1 then decide (1 ≤ n.2.1 ∧ n.2.1 ≤ 9 ∧ n.2.2.1 = 0 ∧ n.2.2.2.1 = 0 ∧ n.2.2.2.2 = 0)
  else if n.1 = 2 then decide (n.2.1 = 0 ∧ 0 ≤ n.2.2.1 ∧ n.2.2.1 < k ∧ 0 ≤ n.2.2.2.1 ∧ n.2.2.2.1 < k ∧ n.2.2.2.2 = 0)
  else if n.1 = 3 then decide (1 ≤ n.2.1 ∧ n.2.1 ≤ 9 ∧ 0 ≤ n.2.2.1 ∧ n.2.2.1 < k ∧ 0 ≤ n.2.2.2.1 ∧ n.2.2.2.1 < k ∧ n.2.2.2.2 = 0)
  else if n.1 = 4 then decide (1 ≤ n.2.1 ∧ n.2.1 ≤ 9 ∧ 0 ≤ n.2.2.1 ∧ n.2.2.1 < k ∧ n.2.2.2.1 = 0 ∧ 0 ≤ n.2.2.2.2 ∧ n.2.2.2.2 ≤ 4)
  else false
/-- The four kinds of a valid node, with natural numbers in it. -/
inductive NV (n : N5) (k : Nat) : Prop where
  | block (c : Nat) (h : n = (1, (c : Int), 0, 0, 0)) (h1 : 1 ≤ c) (h9 : c ≤ 9)
  | seq (a b : Nat) (h : n = (2, 0, (a : Int), (b : Int), 0)) (ha : a < k) (hb : b < k)
  | branch (c a b : Nat) (h : n = (3, (c : Int), (a : Int), (b : Int), 0)) (h1 : 1 ≤ c) (h9 : c ≤ 9) (ha : a < k) (hb : b < k)
  | loop (c a m : Nat) (h : n = (4, (c : Int), (a : Int), 0, (m : Int))) (h1 : 1 ≤ c) (h9 : c ≤ 9) (ha : a < k) (hm : m ≤ 4)
theorem nv_of {n : N5} {k : Nat} (h : nvB n k = true) : NV n k := by
  obtain ⟨q, c, a, b, m⟩ := n
  unfold nvB at h
  simp only at h
  split at h
  · rename_i hq
    simp only [decide_eq_true_eq] at h
    exact .block c.toNat (by simp only [Prod.mk.injEq]; omega) (by omega) (by omega)
  · split at h
    · simp only [decide_eq_true_eq] at h
      exact .seq a.toNat b.toNat (by simp only [Prod.mk.injEq]; omega) (by omega) (by omega)
    · split at h
      · simp only [decide_eq_true_eq] at h
        exact .branch c.toNat a.toNat b.toNat (by simp only [Prod.mk.injEq]; omega) (by omega) (by omega) (by omega) (by omega)
      · split at h
        · simp only [decide_eq_true_eq] at h
          exact .loop c.toNat a.toNat m.toNat (by simp only [Prod.mk.injEq]; omega) (by omega) (by omega) (by omega) (by omega)
        · simp at h

/-! ### A table over the nodes, in their order -/
def tbL8 {α : Type} (g : N5 → (Nat → α) → α) (d : α) (ps : List N5) : Nat → List α
  | 0 => []
  | k + 1 => tbL8 g d ps k ++ [g (nd8 ps k) fun j => (tbL8 g d ps k).getD j d]
def tb8 {α : Type} (g : N5 → (Nat → α) → α) (d : α) (ps : List N5) (i : Nat) : α := (tbL8 g d ps (i + 1)).getD i d
theorem tbL8_len {α : Type} (g : N5 → (Nat → α) → α) (d : α) (ps : List N5) : ∀ k, (tbL8 g d ps k).length = k
  | 0 => rfl
  | k + 1 => by simp only [tbL8, List.length_append, List.length_singleton]; rw [tbL8_len g d ps k]
theorem tbL8_at {α : Type} (g : N5 → (Nat → α) → α) (d : α) (ps : List N5) : ∀ {k i : Nat}, i < k → (tbL8 g d ps k).getD i d = tb8 g d ps i
  | 0, _, h => absurd h (Nat.not_lt_zero _)
  | k + 1, i, h => by
    by_cases e : i = k
    · subst e; rfl
    · have hl := tbL8_len g d ps k
      have : i < k := by omega
      rw [← tbL8_at g d ps this]
      simp [tbL8, List.getD_eq_getElem?_getD, List.getElem?_append_left (show i < (tbL8 g d ps k).length by omega)]
theorem tb8_eq {α : Type} (g : N5 → (Nat → α) → α) (d : α) (ps : List N5) (i : Nat) : tb8 g d ps i = g (nd8 ps i) fun j => (tbL8 g d ps i).getD j d := by
  have hl := tbL8_len g d ps i
  unfold tb8
  simp only [tbL8]
  rw [List.getD_eq_getElem?_getD, List.getElem?_append_right (by omega), hl]
  simp
/-- What a valid node looks at are earlier nodes. -/
theorem tb8_block {α : Type} {g : N5 → (Nat → α) → α} {d : α} {ps : List N5} {i : Nat} {n : N5} (h : nd8 ps i = n) : tb8 g d ps i = g n fun j => (tbL8 g d ps i).getD j d := by rw [tb8_eq, h]

/-! ### Costs -/
def gC (w : Bool) (n : N5) (f : Nat → Nat) : Nat :=
  if n.1 = 1 then n.2.1.toNat
  else if n.1 = 2 then f n.2.2.1.toNat + f n.2.2.2.1.toNat
  else if n.1 = 3 then n.2.1.toNat + (if w = true then max (f n.2.2.1.toNat) (f n.2.2.2.1.toNat) else min (f n.2.2.1.toNat) (f n.2.2.2.1.toNat))
  else if w = true then n.2.1.toNat + n.2.2.2.2.toNat * (n.2.1.toNat + f n.2.2.1.toNat) else n.2.1.toNat
/-- The worst case (w) or the best case. -/
def wc8 (w : Bool) (ps : List N5) (i : Nat) : Nat := tb8 (gC w) 0 ps i
/-- The same, limited to 601. -/
def cp8 (w : Bool) (ps : List N5) (i : Nat) : Nat := tb8 (fun n f => min (gC w n f) 601) 0 ps i
def PV (ps : List N5) : Prop := ∀ i, i < ps.length → nvB (nd8 ps i) i = true
theorem wc8_block {w : Bool} {ps : List N5} {i c : Nat} (h : nd8 ps i = (1, (c : Int), 0, 0, 0)) : wc8 w ps i = c := by unfold wc8; rw [tb8_block h]; simp [gC]
theorem wc8_seq {w : Bool} {ps : List N5} {i a b : Nat} (h : nd8 ps i = (2, 0, (a : Int), (b : Int), 0)) (ha : a < i) (hb : b < i) : wc8 w ps i = wc8 w ps a + wc8 w ps b := by
  unfold wc8; rw [tb8_block h]; simp only [gC]; rw [if_neg (by decide), if_pos (by decide)]; simp only [Int.toNat_natCast]; rw [tbL8_at _ _ _ ha, tbL8_at _ _ _ hb]
theorem wc8_branch {w : Bool} {ps : List N5} {i c a b : Nat} (h : nd8 ps i = (3, (c : Int), (a : Int), (b : Int), 0)) (ha : a < i) (hb : b < i) : wc8 w ps i = c + (if w = true then max (wc8 w ps a) (wc8 w ps b) else min (wc8 w ps a) (wc8 w ps b)) := by
  unfold wc8; rw [tb8_block h]; simp only [gC]; rw [if_neg (by decide), if_neg (by decide), if_pos (by decide)]; simp only [Int.toNat_natCast]; rw [tbL8_at _ _ _ ha, tbL8_at _ _ _ hb]
theorem wc8_loop {w : Bool} {ps : List N5} {i c a m : Nat} (h : nd8 ps i = (4, (c : Int), (a : Int), 0, (m : Int))) (ha : a < i) : wc8 w ps i = if w = true then c + m * (c + wc8 w ps a) else c := by
  unfold wc8; rw [tb8_block h]; simp only [gC]; rw [if_neg (by decide), if_neg (by decide), if_neg (by decide)]; simp only [Int.toNat_natCast]; rw [tbL8_at _ _ _ ha]
theorem cp8_block {w : Bool} {ps : List N5} {i c : Nat} (h : nd8 ps i = (1, (c : Int), 0, 0, 0)) : cp8 w ps i = min c 601 := by unfold cp8; rw [tb8_block h]; simp [gC]
theorem cp8_seq {w : Bool} {ps : List N5} {i a b : Nat} (h : nd8 ps i = (2, 0, (a : Int), (b : Int), 0)) (ha : a < i) (hb : b < i) : cp8 w ps i = min (cp8 w ps a + cp8 w ps b) 601 := by
  unfold cp8; rw [tb8_block h]; simp only [gC]; rw [if_neg (by decide), if_pos (by decide)]; simp only [Int.toNat_natCast]; rw [tbL8_at _ _ _ ha, tbL8_at _ _ _ hb]
theorem cp8_branch {w : Bool} {ps : List N5} {i c a b : Nat} (h : nd8 ps i = (3, (c : Int), (a : Int), (b : Int), 0)) (ha : a < i) (hb : b < i) : cp8 w ps i = min (c + (if w = true then max (cp8 w ps a) (cp8 w ps b) else min (cp8 w ps a) (cp8 w ps b))) 601 := by
  unfold cp8; rw [tb8_block h]; simp only [gC]; rw [if_neg (by decide), if_neg (by decide), if_pos (by decide)]; simp only [Int.toNat_natCast]; rw [tbL8_at _ _ _ ha, tbL8_at _ _ _ hb]
theorem cp8_loop {w : Bool} {ps : List N5} {i c a m : Nat} (h : nd8 ps i = (4, (c : Int), (a : Int), 0, (m : Int))) (ha : a < i) : cp8 w ps i = min (if w = true then c + m * (c + cp8 w ps a) else c) 601 := by
  unfold cp8; rw [tb8_block h]; simp only [gC]; rw [if_neg (by decide), if_neg (by decide), if_neg (by decide)]; simp only [Int.toNat_natCast]; rw [tbL8_at _ _ _ ha]
theorem cp8_le {w : Bool} {ps : List N5} (i : Nat) : cp8 w ps i ≤ 601 := by unfold cp8; rw [tb8_eq]; exact Nat.min_le_right _ _
/-- The limit does not change what is below it. -/
theorem cp8_is {w : Bool} {ps : List N5} (hv : PV ps) : ∀ (i : Nat), i < ps.length → cp8 w ps i = min (wc8 w ps i) 601 := by
  intro i
  induction i using Nat.strongRecOn with
  | _ i ih =>
    intro hi
    cases nv_of (hv i hi) with
    | block c h h1 h9 => rw [cp8_block h, wc8_block h]
    | seq a b h ha hb =>
      rw [cp8_seq h ha hb, wc8_seq h ha hb, ih a ha (by omega), ih b hb (by omega)]
      omega
    | branch c a b h h1 h9 ha hb =>
      rw [cp8_branch h ha hb, wc8_branch h ha hb, ih a ha (by omega), ih b hb (by omega)]
      split <;> omega
    | loop c a m h h1 h9 ha hm =>
      rw [cp8_loop h ha, wc8_loop h ha, ih a ha (by omega)]
      split
      · by_cases e : wc8 w ps a ≤ 601
        · rw [Nat.min_eq_left e]
        · rcases Nat.eq_zero_or_pos m with hm0 | hm0
          · subst hm0; simp
          · rw [show min (wc8 w ps a) 601 = 601 by omega]
            have h2 : 1 * (c + 601) ≤ m * (c + 601) := Nat.mul_le_mul_right _ hm0
            have h3 : 1 * (c + wc8 w ps a) ≤ m * (c + wc8 w ps a) := Nat.mul_le_mul_right _ hm0
            omega
      · rfl
theorem wc8_pos {w : Bool} {ps : List N5} (hv : PV ps) : ∀ (i : Nat), i < ps.length → 1 ≤ wc8 w ps i := by
  intro i
  induction i using Nat.strongRecOn with
  | _ i ih =>
    intro hi
    cases nv_of (hv i hi) with
    | block c h h1 h9 => rw [wc8_block h]; omega
    | seq a b h ha hb => rw [wc8_seq h ha hb]; have := ih a ha (by omega); omega
    | branch c a b h h1 h9 ha hb => rw [wc8_branch h ha hb]; omega
    | loop c a m h h1 h9 ha hm => rw [wc8_loop h ha]; split <;> omega

/-! ### An execution -/
/-- The next choice among m, and those that are left. -/
def tk8 (m : Nat) : List Int → Nat × List Int
  | [] => (0, [])
  | c :: r => ((Int.emod c m).toNat, r)
/-- A loop's k rounds. -/
def itr8 (f : List Int → Nat × List Int) (c : Nat) : Nat → Nat × List Int → Nat × List Int
  | 0, s => s
  | k + 1, s => itr8 f c k (s.1 + c + (f s.2).1, (f s.2).2)
def gR (n : N5) (f : Nat → List Int → Nat × List Int) (cs : List Int) : Nat × List Int :=
  if n.1 = 1 then (n.2.1.toNat, cs)
  else if n.1 = 2 then ((f n.2.2.1.toNat cs).1 + (f n.2.2.2.1.toNat (f n.2.2.1.toNat cs).2).1, (f n.2.2.2.1.toNat (f n.2.2.1.toNat cs).2).2)
  else if n.1 = 3 then (n.2.1.toNat + (f (if (tk8 2 cs).1 = 1 then n.2.2.2.1.toNat else n.2.2.1.toNat) (tk8 2 cs).2).1, (f (if (tk8 2 cs).1 = 1 then n.2.2.2.1.toNat else n.2.2.1.toNat) (tk8 2 cs).2).2)
  else itr8 (f n.2.2.1.toNat) n.2.1.toNat (tk8 (n.2.2.2.2.toNat + 1) cs).1 (n.2.1.toNat, (tk8 (n.2.2.2.2.toNat + 1) cs).2)
/-- What node i takes with the choices cs, and what is left of them. -/
def rn8 (ps : List N5) (i : Nat) : List Int → Nat × List Int := tb8 gR (fun cs => (0, cs)) ps i
theorem rn8_block {ps : List N5} {i c : Nat} (h : nd8 ps i = (1, (c : Int), 0, 0, 0)) (cs : List Int) : rn8 ps i cs = (c, cs) := by unfold rn8; rw [tb8_block h]; simp [gR]
theorem rn8_seq {ps : List N5} {i a b : Nat} (h : nd8 ps i = (2, 0, (a : Int), (b : Int), 0)) (ha : a < i) (hb : b < i) (cs : List Int) : rn8 ps i cs = ((rn8 ps a cs).1 + (rn8 ps b (rn8 ps a cs).2).1, (rn8 ps b (rn8 ps a cs).2).2) := by
  unfold rn8; rw [tb8_block h]; simp only [gR]; rw [if_neg (by decide), if_pos (by decide)]; simp only [Int.toNat_natCast]; rw [tbL8_at _ _ _ ha, tbL8_at _ _ _ hb]
theorem rn8_branch {ps : List N5} {i c a b : Nat} (h : nd8 ps i = (3, (c : Int), (a : Int), (b : Int), 0)) (ha : a < i) (hb : b < i) (cs : List Int) : rn8 ps i cs = (c + (rn8 ps (if (tk8 2 cs).1 = 1 then b else a) (tk8 2 cs).2).1, (rn8 ps (if (tk8 2 cs).1 = 1 then b else a) (tk8 2 cs).2).2) := by
  unfold rn8; rw [tb8_block h]; simp only [gR]; rw [if_neg (by decide), if_neg (by decide), if_pos (by decide)]; simp only [Int.toNat_natCast]
  split
  · rw [tbL8_at _ _ _ hb]
  · rw [tbL8_at _ _ _ ha]
theorem rn8_loop {ps : List N5} {i c a m : Nat} (h : nd8 ps i = (4, (c : Int), (a : Int), 0, (m : Int))) (ha : a < i) (cs : List Int) : rn8 ps i cs = itr8 (rn8 ps a) c (tk8 (m + 1) cs).1 (c, (tk8 (m + 1) cs).2) := by
  unfold rn8; rw [tb8_block h]; simp only [gR]; rw [if_neg (by decide), if_neg (by decide), if_neg (by decide)]; simp only [Int.toNat_natCast]; rw [tbL8_at _ _ _ ha]
theorem tk8_lt {m : Nat} (hm : 1 ≤ m) (cs : List Int) : (tk8 m cs).1 < m := by
  cases cs with
  | nil => simp [tk8]; omega
  | cons c r =>
    have h1 := Int.emod_nonneg c (show (m : Int) ≠ 0 by omega)
    have h2 := Int.emod_lt_of_pos c (show (0 : Int) < m by omega)
    show (Int.emod c m).toNat < m
    have e : Int.emod c m = c % m := rfl
    rw [e]
    omega
theorem itr8_cost {f : List Int → Nat × List Int} {c lo hi : Nat} (hf : ∀ cs, lo ≤ (f cs).1 ∧ (f cs).1 ≤ hi) : ∀ (k : Nat) (s : Nat × List Int), s.1 + k * (c + lo) ≤ (itr8 f c k s).1 ∧ (itr8 f c k s).1 ≤ s.1 + k * (c + hi)
  | 0, s => by simp [itr8]
  | k + 1, s => by
    have h1 := itr8_cost (c := c) hf k (s.1 + c + (f s.2).1, (f s.2).2)
    have h2 := hf s.2
    simp only [itr8]
    simp only at h1
    rw [Nat.add_mul, Nat.add_mul, Nat.one_mul, Nat.one_mul]
    omega
/-- Every execution lies between the bounds. -/
theorem rn8_bounds {ps : List N5} (hv : PV ps) : ∀ (i : Nat), i < ps.length → ∀ cs, wc8 false ps i ≤ (rn8 ps i cs).1 ∧ (rn8 ps i cs).1 ≤ wc8 true ps i := by
  intro i
  induction i using Nat.strongRecOn with
  | _ i ih =>
    intro hi cs
    cases nv_of (hv i hi) with
    | block c h h1 h9 => rw [rn8_block h, wc8_block h, wc8_block h]; simp
    | seq a b h ha hb =>
      rw [rn8_seq h ha hb, wc8_seq h ha hb, wc8_seq h ha hb]
      have h1 := ih a ha (by omega) cs
      have h2 := ih b hb (by omega) (rn8 ps a cs).2
      simp only
      omega
    | branch c a b h h1 h9 ha hb =>
      rw [rn8_branch h ha hb, wc8_branch h ha hb, wc8_branch h ha hb]
      rw [if_neg (by decide), if_pos rfl]
      have h1 := ih a ha (by omega) (tk8 2 cs).2
      have h2 := ih b hb (by omega) (tk8 2 cs).2
      simp only
      split <;> omega
    | loop c a m h h1 h9 ha hm =>
      rw [rn8_loop h ha, wc8_loop h ha, wc8_loop h ha]
      rw [if_neg (by decide), if_pos rfl]
      have h2 := itr8_cost (c := c) (ih a ha (by omega)) (tk8 (m + 1) cs).1 (c, (tk8 (m + 1) cs).2)
      have h3 := tk8_lt (show 1 ≤ m + 1 by omega) cs
      have h4 : (tk8 (m + 1) cs).1 * (c + wc8 true ps a) ≤ m * (c + wc8 true ps a) := Nat.mul_le_mul_right _ (by omega)
      simp only at h2
      omega
/-- What is left is what is behind. -/
theorem tk8_suf (m : Nat) (cs : List Int) : (tk8 m cs).2 <:+ cs := by
  cases cs with
  | nil => exact List.suffix_refl _
  | cons c r => exact List.suffix_cons _ _
theorem itr8_suf {f : List Int → Nat × List Int} {c : Nat} (hf : ∀ cs, (f cs).2 <:+ cs) : ∀ (k : Nat) (s : Nat × List Int), (itr8 f c k s).2 <:+ s.2
  | 0, s => List.suffix_refl _
  | k + 1, s => by
    simp only [itr8]
    exact (itr8_suf hf k _).trans (hf s.2)
theorem rn8_suf {ps : List N5} (hv : PV ps) : ∀ (i : Nat), i < ps.length → ∀ cs, (rn8 ps i cs).2 <:+ cs := by
  intro i
  induction i using Nat.strongRecOn with
  | _ i ih =>
    intro hi cs
    cases nv_of (hv i hi) with
    | block c h h1 h9 => rw [rn8_block h]; exact List.suffix_refl _
    | seq a b h ha hb => rw [rn8_seq h ha hb]; exact (ih b hb (by omega) _).trans (ih a ha (by omega) _)
    | branch c a b h h1 h9 ha hb =>
      rw [rn8_branch h ha hb]
      refine List.IsSuffix.trans ?_ (tk8_suf 2 cs)
      simp only
      split
      · exact ih b hb (by omega) _
      · exact ih a ha (by omega) _
    | loop c a m h h1 h9 ha hm => rw [rn8_loop h ha]; exact (itr8_suf (ih a ha (by omega)) _ _).trans (tk8_suf _ cs)
/-- Choices that look alk8 lead to the same execution. -/
theorem itr8_rel {f : List Int → Nat × List Int} {c : Nat} {P : List Int → List Int → Prop} (hf : ∀ cs cs', P cs cs' → (f cs).1 = (f cs').1 ∧ P (f cs).2 (f cs').2) : ∀ (k : Nat) (s s' : Nat × List Int), s.1 = s'.1 → P s.2 s'.2 → (itr8 f c k s).1 = (itr8 f c k s').1 ∧ P (itr8 f c k s).2 (itr8 f c k s').2
  | 0, _, _, h1, h2 => ⟨h1, h2⟩
  | k + 1, s, s', h1, h2 => by
    have h3 := hf _ _ h2
    simp only [itr8]
    exact itr8_rel hf k _ _ (by simp only; rw [h1, h3.1]) h3.2
theorem rn8_rel {ps : List N5} (hv : PV ps) {P : List Int → List Int → Prop} (hP : ∀ cs cs', P cs cs' → ∀ m, 1 ≤ m → m ≤ 5 → (tk8 m cs).1 = (tk8 m cs').1 ∧ P (tk8 m cs).2 (tk8 m cs').2) : ∀ (i : Nat), i < ps.length → ∀ cs cs', P cs cs' → (rn8 ps i cs).1 = (rn8 ps i cs').1 ∧ P (rn8 ps i cs).2 (rn8 ps i cs').2 := by
  intro i
  induction i using Nat.strongRecOn with
  | _ i ih =>
    intro hi cs cs' hp
    cases nv_of (hv i hi) with
    | block c h h1 h9 => rw [rn8_block h, rn8_block h]; exact ⟨rfl, hp⟩
    | seq a b h ha hb =>
      rw [rn8_seq h ha hb, rn8_seq h ha hb]
      have h1 := ih a ha (by omega) cs cs' hp
      have h2 := ih b hb (by omega) _ _ h1.2
      exact ⟨by simp only; rw [h1.1, h2.1], h2.2⟩
    | branch c a b h h1 h9 ha hb =>
      rw [rn8_branch h ha hb, rn8_branch h ha hb]
      have h2 := hP cs cs' hp 2 (by omega) (by omega)
      rw [h2.1]
      simp only
      split
      · have h3 := ih b hb (by omega) _ _ h2.2
        exact ⟨by rw [h3.1], h3.2⟩
      · have h3 := ih a ha (by omega) _ _ h2.2
        exact ⟨by rw [h3.1], h3.2⟩
    | loop c a m h h1 h9 ha hm =>
      rw [rn8_loop h ha, rn8_loop h ha]
      have h2 := hP cs cs' hp (m + 1) (by omega) (by omega)
      rw [h2.1]
      exact itr8_rel (ih a ha (by omega)) _ _ _ rfl h2.2
/-- Zeros behind the choices. -/
theorem rn8_zeros {ps : List N5} (hv : PV ps) {i : Nat} (hi : i < ps.length) (cs : List Int) (m : Nat) : (rn8 ps i (cs ++ List.replicate m 0)).1 = (rn8 ps i cs).1 := by
  refine (rn8_rel hv (P := fun x y => ∃ q, x = y ++ List.replicate q 0) ?_ i hi _ _ ⟨m, rfl⟩).1
  rintro x y ⟨q, rfl⟩ n h1 h5
  cases y with
  | nil =>
    cases q with
    | zero => exact ⟨rfl, 0, rfl⟩
    | succ q =>
      have e : Int.emod 0 (n : Int) = 0 := Int.zero_emod _
      exact ⟨by simp [tk8, List.replicate_succ, e], q, by simp [tk8, List.replicate_succ]⟩
  | cons c r => exact ⟨rfl, q, rfl⟩
/-- Sixty more is no other choice. -/
def alk8 : List Int → List Int → Prop
  | [], [] => True
  | c :: r, d :: s => (d = c ∨ d = c + 60) ∧ alk8 r s
  | _, _ => False
theorem rn8_alike {ps : List N5} (hv : PV ps) {i : Nat} (hi : i < ps.length) {cs ds : List Int} (h : alk8 cs ds) : (rn8 ps i ds).1 = (rn8 ps i cs).1 := by
  refine ((rn8_rel hv (P := alk8) ?_ i hi _ _ h).1).symm
  intro x y hxy n h1 h5
  cases x with
  | nil => cases y with
    | nil => exact ⟨rfl, trivial⟩
    | cons d s => exact absurd hxy (by simp [alk8])
  | cons c r => cases y with
    | nil => exact absurd hxy (by simp [alk8])
    | cons d s =>
      obtain ⟨h2, h3⟩ := hxy
      refine ⟨?_, h3⟩
      show (Int.emod c n).toNat = (Int.emod d n).toNat
      rcases h2 with rfl | rfl
      · rfl
      · congr 1
        show c % (n : Int) = (c + 60) % (n : Int)
        rcases (show n = 1 ∨ n = 2 ∨ n = 3 ∨ n = 4 ∨ n = 5 by omega) with rfl | rfl | rfl | rfl | rfl <;> omega

/-! ### A worst execution -/
def gW (ps : List N5) (n : N5) (f : Nat → List Int) : List Int :=
  if n.1 = 1 then []
  else if n.1 = 2 then f n.2.2.1.toNat ++ f n.2.2.2.1.toNat
  else if n.1 = 3 then (if cp8 true ps n.2.2.2.1.toNat ≤ cp8 true ps n.2.2.1.toNat then 0 :: f n.2.2.1.toNat else 1 :: f n.2.2.2.1.toNat)
  else n.2.2.2.2 :: (List.replicate n.2.2.2.2.toNat (f n.2.2.1.toNat)).flatten
def ws8 (ps : List N5) (i : Nat) : List Int := tb8 (gW ps) [] ps i
theorem ws8_block {ps : List N5} {i c : Nat} (h : nd8 ps i = (1, (c : Int), 0, 0, 0)) : ws8 ps i = [] := by unfold ws8; rw [tb8_block h]; simp [gW]
theorem ws8_seq {ps : List N5} {i a b : Nat} (h : nd8 ps i = (2, 0, (a : Int), (b : Int), 0)) (ha : a < i) (hb : b < i) : ws8 ps i = ws8 ps a ++ ws8 ps b := by
  unfold ws8; rw [tb8_block h]; simp only [gW]; rw [if_neg (by decide), if_pos (by decide)]; simp only [Int.toNat_natCast]; rw [tbL8_at _ _ _ ha, tbL8_at _ _ _ hb]
theorem ws8_branch {ps : List N5} {i c a b : Nat} (h : nd8 ps i = (3, (c : Int), (a : Int), (b : Int), 0)) (ha : a < i) (hb : b < i) : ws8 ps i = if cp8 true ps b ≤ cp8 true ps a then 0 :: ws8 ps a else 1 :: ws8 ps b := by
  unfold ws8; rw [tb8_block h]; simp only [gW]; rw [if_neg (by decide), if_neg (by decide), if_pos (by decide)]; simp only [Int.toNat_natCast]; rw [tbL8_at _ _ _ ha, tbL8_at _ _ _ hb]
theorem ws8_loop {ps : List N5} {i c a m : Nat} (h : nd8 ps i = (4, (c : Int), (a : Int), 0, (m : Int))) (ha : a < i) : ws8 ps i = (m : Int) :: (List.replicate m (ws8 ps a)).flatten := by
  unfold ws8; rw [tb8_block h]; simp only [gW]; rw [if_neg (by decide), if_neg (by decide), if_neg (by decide)]; simp only [Int.toNat_natCast]; rw [tbL8_at _ _ _ ha]
theorem itr8_worst {f : List Int → Nat × List Int} {c x : Nat} {l : List Int} (hf : ∀ rest, f (l ++ rest) = (x, rest)) : ∀ (k : Nat) (s : Nat) (rest : List Int), itr8 f c k (s, (List.replicate k l).flatten ++ rest) = (s + k * (c + x), rest)
  | 0, s, rest => by simp [itr8]
  | k + 1, s, rest => by
    simp only [itr8, List.replicate_succ, List.flatten_cons, List.append_assoc]
    rw [hf]
    simp only
    rw [itr8_worst hf k (s + c + x) rest, Nat.add_mul, Nat.one_mul]
    congr 1
    omega
/-- The worst case is attained. -/
theorem rn8_worst {ps : List N5} (hv : PV ps) : ∀ (i : Nat), i < ps.length → wc8 true ps i ≤ 600 → ∀ rest, rn8 ps i (ws8 ps i ++ rest) = (wc8 true ps i, rest) := by
  intro i
  induction i using Nat.strongRecOn with
  | _ i ih =>
    intro hi h6 rest
    cases nv_of (hv i hi) with
    | block c h h1 h9 => rw [rn8_block h, ws8_block h, wc8_block h]; rfl
    | seq a b h ha hb =>
      rw [wc8_seq h ha hb] at h6 ⊢
      rw [rn8_seq h ha hb, ws8_seq h ha hb, List.append_assoc, ih a ha (by omega) (by omega)]
      simp only
      rw [ih b hb (by omega) (by omega)]
    | branch c a b h h1 h9 ha hb =>
      rw [wc8_branch h ha hb, if_pos rfl] at h6 ⊢
      rw [rn8_branch h ha hb, ws8_branch h ha hb]
      have ka := cp8_is (w := true) hv a (by omega)
      have kb := cp8_is (w := true) hv b (by omega)
      by_cases e : cp8 true ps b ≤ cp8 true ps a
      · rw [if_pos e]
        have t : tk8 2 (0 :: ws8 ps a ++ rest) = (0, ws8 ps a ++ rest) := rfl
        rw [t]
        simp only
        rw [if_neg (by decide), ih a ha (by omega) (by omega)]
        simp only [Prod.mk.injEq, and_true]
        omega
      · rw [if_neg e]
        have t : tk8 2 (1 :: ws8 ps b ++ rest) = (1, ws8 ps b ++ rest) := rfl
        rw [t]
        simp only
        rw [if_pos trivial, ih b hb (by omega) (by omega)]
        simp only [Prod.mk.injEq, and_true]
        omega
    | loop c a m h h1 h9 ha hm =>
      rw [wc8_loop h ha, if_pos rfl] at h6 ⊢
      rw [rn8_loop h ha, ws8_loop h ha]
      have t : tk8 (m + 1) ((m : Int) :: (List.replicate m (ws8 ps a)).flatten ++ rest) = (m, (List.replicate m (ws8 ps a)).flatten ++ rest) := by
        show ((Int.emod (m : Int) ((m + 1 : Nat) : Int)).toNat, _) = _
        have e : Int.emod (m : Int) ((m + 1 : Nat) : Int) = m := Int.emod_eq_of_lt (by omega) (by omega)
        rw [e]
        rfl
      rw [t]
      rcases Nat.eq_zero_or_pos m with hm0 | hm0
      · subst hm0; simp [itr8]
      · have h2 : 1 * (c + wc8 true ps a) ≤ m * (c + wc8 true ps a) := Nat.mul_le_mul_right _ hm0
        exact itr8_worst (ih a ha (by omega) (by omega)) m c rest
theorem ws8_len {ps : List N5} (hv : PV ps) : ∀ (i : Nat), i < ps.length → (ws8 ps i).length ≤ wc8 true ps i := by
  intro i
  induction i using Nat.strongRecOn with
  | _ i ih =>
    intro hi
    cases nv_of (hv i hi) with
    | block c h h1 h9 => rw [ws8_block h]; simp
    | seq a b h ha hb =>
      rw [ws8_seq h ha hb, wc8_seq h ha hb, List.length_append]
      have h1 := ih a ha (by omega)
      have h2 := ih b hb (by omega)
      omega
    | branch c a b h h1 h9 ha hb =>
      rw [ws8_branch h ha hb, wc8_branch h ha hb, if_pos rfl]
      have h1 := ih a ha (by omega)
      have h2 := ih b hb (by omega)
      split <;> simp only [List.length_cons] <;> omega
    | loop c a m h h1 h9 ha hm =>
      rw [ws8_loop h ha, wc8_loop h ha, if_pos rfl]
      have h2 := ih a ha (by omega)
      have h3 : m * (ws8 ps a).length ≤ m * (c + wc8 true ps a) := Nat.mul_le_mul_left _ (by omega)
      simp only [List.length_cons, List.length_flatten, List.map_replicate, List.sum_replicate_nat]
      omega

/-! ### Valid programs -/
def pvB (ps : List N5) : Bool := decide (1 ≤ ps.length ∧ ps.length ≤ 12) && decide (∀ i, i < ps.length → nvB (nd8 ps i) i = true) && decide (cp8 true ps (ps.length - 1) ≤ 600)
theorem pv_iff {ps : List N5} : pvB ps = true ↔ (1 ≤ ps.length ∧ ps.length ≤ 12) ∧ PV ps ∧ cp8 true ps (ps.length - 1) ≤ 600 := by
  simp only [pvB, Bool.and_eq_true, decide_eq_true_eq, and_assoc]
  rfl
theorem pv_cst {ps : List N5} (h : pvB ps = true) : wc8 true ps (ps.length - 1) ≤ 600 := by
  obtain ⟨h1, h2, h3⟩ := pv_iff.1 h
  rw [cp8_is h2 _ (by omega)] at h3
  omega
/-- The best and the worst case of a program. -/
def bd8 (w : Bool) (ps : List N5) : Int := if pvB ps = true then (cp8 w ps (ps.length - 1) : Nat) else -1
theorem wc8_le {ps : List N5} (hv : PV ps) {i : Nat} (hi : i < ps.length) : wc8 false ps i ≤ wc8 true ps i := Nat.le_trans (rn8_bounds hv i hi []).1 (rn8_bounds hv i hi []).2
theorem bd8_is {w : Bool} {ps : List N5} (h : pvB ps = true) : bd8 w ps = (wc8 w ps (ps.length - 1) : Nat) := by
  obtain ⟨h1, h2, h3⟩ := pv_iff.1 h
  have h4 := pv_cst h
  have h5 := wc8_le h2 (show ps.length - 1 < ps.length by omega)
  unfold bd8
  rw [if_pos h, cp8_is h2 _ (by omega)]
  cases w <;> congr 1 <;> omega
/-- What an execution takes. -/
def ex8 (ps : List N5) (cs : List Int) : Int := if pvB ps = true then ((rn8 ps (ps.length - 1) cs).1 : Nat) else -1
def wh8 (ps : List N5) : List Int := if pvB ps = true then ws8 ps (ps.length - 1) else []
theorem ex8_le {ps : List N5} (h : pvB ps = true) (cs : List Int) : bd8 false ps ≤ ex8 ps cs ∧ ex8 ps cs ≤ bd8 true ps ∧ 1 ≤ bd8 false ps ∧ bd8 true ps ≤ 600 := by
  obtain ⟨h1, h2, h3⟩ := pv_iff.1 h
  have h4 := pv_cst h
  have h5 := rn8_bounds h2 (ps.length - 1) (by omega) cs
  have h6 := wc8_pos (w := false) h2 (ps.length - 1) (by omega)
  rw [bd8_is h, bd8_is h]
  unfold ex8
  rw [if_pos h]
  omega
theorem ex8_worst {ps : List N5} (h : pvB ps = true) : ex8 ps (wh8 ps) = bd8 true ps := by
  obtain ⟨h1, h2, h3⟩ := pv_iff.1 h
  have h5 := rn8_worst h2 (ps.length - 1) (by omega) (pv_cst h) []
  rw [List.append_nil] at h5
  rw [bd8_is h]
  unfold ex8 wh8
  rw [if_pos h, if_pos h, h5]
theorem wh8_len (ps : List N5) : (wh8 ps).length ≤ 600 := by
  unfold wh8
  split
  · rename_i h
    obtain ⟨h1, h2, h3⟩ := pv_iff.1 h
    exact Nat.le_trans (ws8_len h2 _ (by omega)) (pv_cst h)
  · simp
theorem ex8_zeros (ps : List N5) (cs : List Int) (m : Nat) : ex8 ps (cs ++ List.replicate m 0) = ex8 ps cs := by
  unfold ex8
  split
  · rename_i h
    obtain ⟨h1, h2, h3⟩ := pv_iff.1 h
    rw [rn8_zeros h2 (by omega)]
  · rfl
theorem ex8_alike (ps : List N5) {cs ds : List Int} (ha : alk8 cs ds) : ex8 ps ds = ex8 ps cs := by
  unfold ex8
  split
  · rename_i h
    obtain ⟨h1, h2, h3⟩ := pv_iff.1 h
    rw [rn8_alike h2 (by omega) ha]
  · rfl
theorem pv_first {ps : List N5} (h : pvB ps = true) : pvB (ps.take 1) = true := by
  obtain ⟨h1, h2, h3⟩ := pv_iff.1 h
  have hl : (ps.take 1).length = 1 := by rw [List.length_take]; omega
  have hn : nd8 (ps.take 1) 0 = nd8 ps 0 := by simp [nd8, List.getD_eq_getElem?_getD]
  refine pv_iff.2 ⟨by omega, fun i hi => ?_, ?_⟩
  · obtain rfl : i = 0 := by omega
    rw [hn]; exact h2 0 (by omega)
  · rw [hl]
    cases nv_of (h2 0 (by omega)) with
    | block c h h1 h9 => rw [← hn] at h; rw [cp8_block h]; omega
    | seq a b h ha hb => omega
    | branch c a b h h1 h9 ha hb => omega
    | loop c a m h h1 h9 ha hm => omega
theorem pv_self (ps : List N5) : pvB (ps ++ [(2, 0, (ps.length : Int), 0, 0)]) = false := by
  cases e : pvB (ps ++ [(2, 0, (ps.length : Int), 0, 0)]) with
  | false => rfl
  | true =>
    obtain ⟨h1, h2, h3⟩ := pv_iff.1 e
    have := h2 ps.length (by simp)
    have hn : nd8 (ps ++ [(2, 0, (ps.length : Int), 0, 0)]) ps.length = (2, 0, (ps.length : Int), 0, 0) := by simp [nd8, List.getD_eq_getElem?_getD]
    rw [hn] at this
    simp [nvB] at this
theorem pv_nil : pvB [] = false := rfl
/-- One block costs one more. -/
theorem wc8_more {w : Bool} {ps : List N5} {k c : Nat} (hv : PV ps) (hk : nd8 ps k = (1, (c : Int), 0, 0, 0)) (hkl : k < ps.length) : ∀ (i : Nat), i < ps.length → wc8 w ps i ≤ wc8 w (ps.set k (1, (c : Int) + 1, 0, 0, 0)) i := by
  intro i
  induction i using Nat.strongRecOn with
  | _ i ih =>
    intro hi
    by_cases e : i = k
    · subst e
      have hn : nd8 (ps.set i (1, (c : Int) + 1, 0, 0, 0)) i = (1, ((c + 1 : Nat) : Int), 0, 0, 0) := by simp [nd8, List.getD_eq_getElem?_getD, hi]
      rw [wc8_block hk, wc8_block hn]
      omega
    · have hn : nd8 (ps.set k (1, (c : Int) + 1, 0, 0, 0)) i = nd8 ps i := by simp [nd8, List.getD_eq_getElem?_getD, List.getElem?_set_ne (Ne.symm e)]
      cases nv_of (hv i hi) with
      | block c h h1 h9 => rw [wc8_block h, wc8_block (hn.trans h)]; exact Nat.le_refl _
      | seq a b h ha hb =>
        rw [wc8_seq h ha hb, wc8_seq (hn.trans h) ha hb]
        have h1 := ih a ha (by omega)
        have h2 := ih b hb (by omega)
        omega
      | branch c a b h h1 h9 ha hb =>
        rw [wc8_branch h ha hb, wc8_branch (hn.trans h) ha hb]
        have h1 := ih a ha (by omega)
        have h2 := ih b hb (by omega)
        split <;> omega
      | loop c a m h h1 h9 ha hm =>
        rw [wc8_loop h ha, wc8_loop (hn.trans h) ha]
        have h1 := ih a ha (by omega)
        split
        · have h3 : m * (c + wc8 w ps a) ≤ m * (c + wc8 w (ps.set k _) a) := Nat.mul_le_mul_left _ (Nat.add_le_add_left h1 _)
          omega
        · exact Nat.le_refl _
theorem bd8_more {w : Bool} {ps : List N5} {k c : Nat} (h : pvB ps = true) (hk : nd8 ps k = (1, (c : Int), 0, 0, 0)) (hkl : k < ps.length) (h' : pvB (ps.set k (1, (c : Int) + 1, 0, 0, 0)) = true) : bd8 w ps ≤ bd8 w (ps.set k (1, (c : Int) + 1, 0, 0, 0)) := by
  obtain ⟨h1, h2, h3⟩ := pv_iff.1 h
  rw [bd8_is h, bd8_is h', List.length_set]
  have := wc8_more (w := w) h2 hk hkl (ps.length - 1) (by omega)
  omega

end Go.Proofs.Ytlcdmjcikbgnpaa
