/- Plain theory of chapter 5, without any program: the state of a constant bandwidth server, the simulation by earliest deadlines with servers, and isolation (8): where the demand and the bandwidth fit, nothing is left of a job at its deadline, whatever arrives at the servers. Conditions: those that each theorem names. -/
import Derived.Test.YtnhbmegglpgkoaaPlain
namespace Go.Proofs.Ytnhbmegglpgkoaa

/-! ### One server -/
/-- A request: its time, its execution time. -/
abbrev A2 := Int × Int
def aT (al : List A2) (i : Nat) : Nat := (al.getD i (0, 0)).1.toNat
def aX (al : List A2) (i : Nat) : Nat := (al.getD i (0, 0)).2.toNat
/-- The state of a server: remaining budget, deadline, requests that have come, request being served, what remains of it. -/
structure SV where
  left : Nat
  dl : Nat
  come : Nat
  head : Nat
  rest : Nat
/-- A request of length x arrives now. -/
def SV.take (s : SV) (q p x now : Nat) : SV :=
  if s.head = s.come then
    (if ((s.dl : Int) - now) * q ≤ (s.left : Int) * p then ⟨q, now + p, s.come + 1, s.head, x⟩ else ⟨s.left, s.dl, s.come + 1, s.head, x⟩)
  else ⟨s.left, s.dl, s.come + 1, s.head, s.rest⟩
def SV.arrN (q p : Nat) (al : List A2) (now : Nat) : Nat → SV → SV
  | 0, s => s
  | n + 1, s => if s.come < al.length ∧ aT al s.come = now then SV.arrN q p al now n (s.take q p (aX al s.come) now) else s
/-- All requests that arrive now are admitted. -/
def SV.arr (q p : Nat) (al : List A2) (now : Nat) (s : SV) : SV := SV.arrN q p al now (al.length - s.come) s
theorem take_come (s : SV) (q p x now : Nat) : (s.take q p x now).come = s.come + 1 ∧ (s.take q p x now).head = s.head := by
  unfold SV.take
  split
  · split <;> exact ⟨rfl, rfl⟩
  · exact ⟨rfl, rfl⟩
theorem arr_step {s : SV} {q p now : Nat} {al : List A2} (h : s.come < al.length ∧ aT al s.come = now) : s.arr q p al now = (s.take q p (aX al s.come) now).arr q p al now := by
  unfold SV.arr
  rw [(take_come s q p _ now).1]
  obtain ⟨n, hn⟩ : ∃ n, al.length - s.come = n + 1 := ⟨al.length - s.come - 1, by omega⟩
  rw [hn, show al.length - (s.come + 1) = n by omega]
  simp only [SV.arrN]
  rw [if_pos h]
theorem arr_stop {s : SV} {q p now : Nat} {al : List A2} (h : ¬ (s.come < al.length ∧ aT al s.come = now)) : s.arr q p al now = s := by
  unfold SV.arr
  cases al.length - s.come with
  | zero => rfl
  | succ n =>
    simp only [SV.arrN]
    rw [if_neg h]
/-- Whatever every single arrival keeps, all of them keep. -/
theorem arr_ind {I : SV → Prop} {q p now : Nat} {al : List A2} (h : ∀ s : SV, I s → s.come < al.length → aT al s.come = now → I (s.take q p (aX al s.come) now)) : ∀ {n : Nat} {s : SV}, al.length - s.come ≤ n → I s → I (s.arr q p al now) ∧ ¬ ((s.arr q p al now).come < al.length ∧ aT al (s.arr q p al now).come = now)
  | 0, s, hn, hs => by
    rw [arr_stop (by omega)]
    exact ⟨hs, by omega⟩
  | n + 1, s, hn, hs => by
    by_cases hc : s.come < al.length ∧ aT al s.come = now
    · rw [arr_step hc]
      exact arr_ind h (n := n) (by rw [(take_come s q p _ now).1]; omega) (h s hs hc.1 hc.2)
    · rw [arr_stop hc]
      exact ⟨hs, hc⟩
/-- One tick of service. -/
def SV.serve (s : SV) (q p : Nat) (al : List A2) : SV :=
  ⟨if s.left - 1 = 0 then q else s.left - 1, if s.left - 1 = 0 then s.dl + p else s.dl, s.come, if s.rest - 1 = 0 then s.head + 1 else s.head,
    if s.rest - 1 = 0 then (if s.head + 1 < s.come then aX al (s.head + 1) else 0) else s.rest - 1⟩
/-- What a server's state is always like. -/
structure SvOk (q : Nat) (al : List A2) (s : SV) : Prop where
  l1 : 1 ≤ s.left
  lq : s.left ≤ q
  hc : s.head ≤ s.come
  cl : s.come ≤ al.length
  r1 : s.head < s.come → 1 ≤ s.rest
/-- Every request has a length of at least 1. -/
def AlOk (al : List A2) : Prop := ∀ i, i < al.length → 1 ≤ aX al i
theorem SvOk.take {q p x now : Nat} {al : List A2} {s : SV} (h : SvOk q al s) (hq : 1 ≤ q) (hx : 1 ≤ x) (hl : s.come < al.length) : SvOk q al (s.take q p x now) := by
  obtain ⟨h1, h2, h3, h4, h5⟩ := h
  unfold SV.take
  split
  · split
    · exact ⟨hq, Nat.le_refl _, by show s.head ≤ s.come + 1; omega, by show s.come + 1 ≤ al.length; omega, fun _ => hx⟩
    · exact ⟨h1, h2, by show s.head ≤ s.come + 1; omega, by show s.come + 1 ≤ al.length; omega, fun _ => hx⟩
  · exact ⟨h1, h2, by show s.head ≤ s.come + 1; omega, by show s.come + 1 ≤ al.length; omega, fun _ => h5 (by omega)⟩
theorem SvOk.arr {q p now : Nat} {al : List A2} {s : SV} (h : SvOk q al s) (hq : 1 ≤ q) (ha : AlOk al) : SvOk q al (s.arr q p al now) :=
  (arr_ind (I := SvOk q al) (fun _ hs hl _ => hs.take hq (ha _ hl) hl) (Nat.le_refl _) h).1
theorem SvOk.serve {q p : Nat} {al : List A2} {s : SV} (h : SvOk q al s) (hq : 1 ≤ q) (ha : AlOk al) (hp : s.head < s.come) : SvOk q al (s.serve q p al) := by
  obtain ⟨h1, h2, h3, h4, h5⟩ := h
  refine ⟨?_, ?_, ?_, h4, ?_⟩
  · show 1 ≤ (if s.left - 1 = 0 then q else s.left - 1)
    split <;> omega
  · show (if s.left - 1 = 0 then q else s.left - 1) ≤ q
    split <;> omega
  · show (if s.rest - 1 = 0 then s.head + 1 else s.head) ≤ s.come
    split <;> omega
  · show (if s.rest - 1 = 0 then s.head + 1 else s.head) < s.come → 1 ≤ (if s.rest - 1 = 0 then (if s.head + 1 < s.come then aX al (s.head + 1) else 0) else s.rest - 1)
    intro hh
    by_cases hr : s.rest - 1 = 0
    · rw [if_pos hr] at hh ⊢
      rw [if_pos hh]
      exact ha _ (by omega)
    · rw [if_neg hr]
      omega

/-! ### The bandwidth of one server: in [w, D) it is served at most (D - w) * q / p ticks with a deadline of at most D -/
/-- The budget's book-keeping since w, c ticks served with a deadline of at most D. -/
def Bw (q p w D c : Nat) (s : SV) : Prop :=
  ((c = 0 ∧ s.head = s.come) ∨ (c = 0 ∧ D < s.dl) ∨ ((c : Int) + s.left) * p ≤ ((s.dl : Int) - w) * q) ∧ (c : Int) * p ≤ ((D : Int) - w) * q
theorem dl_le {q p now : Nat} {s : SV} (hq : 1 ≤ q) (hl : s.left ≤ q) (h : ((s.dl : Int) - now) * q ≤ (s.left : Int) * p) : s.dl ≤ now + p := by
  have h2 : (s.left : Int) * p ≤ (q : Int) * p := Int.mul_le_mul_of_nonneg_right (by omega) (by omega)
  have h3 : ((s.dl : Int) - now) * q ≤ (p : Int) * q := by rw [Int.mul_comm (p : Int)]; omega
  have h4 := Int.le_of_mul_le_mul_right h3 (by omega)
  omega
theorem take_dl {q p x now : Nat} {s : SV} (hq : 1 ≤ q) (hl : s.left ≤ q) : s.dl ≤ (s.take q p x now).dl := by
  unfold SV.take
  split
  · split
    · rename_i h
      exact dl_le hq hl h
    · exact Nat.le_refl _
  · exact Nat.le_refl _
theorem Bw.take {q p w D c x now : Nat} {s : SV} (h : Bw q p w D c s) (hq : 1 ≤ q) (hl : s.left ≤ q) (hw : w ≤ now) : Bw q p w D c (s.take q p x now) := by
  obtain ⟨h1, h2⟩ := h
  refine ⟨?_, h2⟩
  rcases h1 with ⟨hc, hi⟩ | ⟨hc, hd⟩ | h3
  · right; right
    subst hc
    unfold SV.take
    rw [if_pos hi]
    split
    · show (((0 : Nat) : Int) + (q : Nat)) * p ≤ (((now + p : Nat) : Int) - w) * q
      have : (p : Int) * q ≤ ((now + p : Nat) - (w : Int)) * q := Int.mul_le_mul_of_nonneg_right (by omega) (by omega)
      rw [Int.mul_comm (p : Int)] at this
      have e : (((0 : Nat) : Int) + (q : Nat)) = q := by omega
      rw [e]
      exact this
    · rename_i hn
      show (((0 : Nat) : Int) + (s.left : Nat)) * p ≤ ((s.dl : Int) - w) * q
      have e : (((0 : Nat) : Int) + (s.left : Nat)) = s.left := by omega
      rw [e]
      have h5 : ((s.dl : Int) - now) * q ≤ ((s.dl : Int) - w) * q := Int.mul_le_mul_of_nonneg_right (by omega) (by omega)
      omega
  · right; left
    exact ⟨hc, Nat.lt_of_lt_of_le hd (take_dl hq hl)⟩
  · right; right
    unfold SV.take
    split
    · split
      · rename_i hn
        show ((c : Int) + (q : Nat)) * p ≤ (((now + p : Nat) : Int) - w) * q
        have e1 : (((now + p : Nat) : Int) - w) * q = ((s.dl : Int) - w) * q - ((s.dl : Int) - now) * q + (p : Int) * q := by
          rw [← Int.sub_mul, ← Int.add_mul]
          congr 1
          omega
        rw [e1, Int.add_mul]
        rw [Int.add_mul] at h3
        rw [Int.mul_comm (p : Int)]
        omega
      · exact h3
    · exact h3
theorem Bw.serve {q p w D c : Nat} {al : List A2} {s : SV} (h : Bw q p w D c s) (hp : s.head < s.come) (h1 : 1 ≤ s.left) : Bw q p w D (c + if s.dl ≤ D then 1 else 0) (s.serve q p al) := by
  obtain ⟨ha, hb⟩ := h
  rcases ha with ⟨_, hi⟩ | ⟨hc, hd⟩ | h3
  · omega
  · rw [if_neg (by omega)]
    refine ⟨.inr (.inl ⟨by omega, ?_⟩), by simpa using hb⟩
    show D < (if s.left - 1 = 0 then s.dl + p else s.dl)
    split <;> omega
  · have e3 : ((c : Int) + s.left) * p = (c : Int) * p + ((s.left - 1 : Nat) : Int) * p + p := by
      have e : ((c : Int) + s.left) = (c : Int) + ((s.left - 1 : Nat) : Int) + 1 := by omega
      rw [e, Int.add_mul, Int.add_mul, Int.one_mul]
    rw [e3] at h3
    have hnn : (0 : Int) ≤ ((s.left - 1 : Nat) : Int) * p := Int.mul_nonneg (by omega) (by omega)
    have hK : (c : Int) * p + p ≤ ((s.dl : Int) - w) * q := by omega
    have hc1 : ((c + 1 : Nat) : Int) * p = (c : Int) * p + p := by
      have e : ((c + 1 : Nat) : Int) = (c : Int) + 1 := by omega
      rw [e, Int.add_mul, Int.one_mul]
    by_cases hd : s.dl ≤ D
    · rw [if_pos hd]
      refine ⟨.inr (.inr ?_), ?_⟩
      · show (((c + 1 : Nat) : Int) + ((if s.left - 1 = 0 then q else s.left - 1 : Nat) : Int)) * p ≤ (((if s.left - 1 = 0 then s.dl + p else s.dl : Nat) : Int) - w) * q
        rw [Int.add_mul, hc1]
        by_cases hz : s.left - 1 = 0
        · rw [if_pos hz, if_pos hz]
          have e1 : (((s.dl + p : Nat) : Int) - w) * q = ((s.dl : Int) - w) * q + (q : Int) * p := by
            rw [Int.mul_comm (q : Int), ← Int.add_mul]
            congr 1
            omega
          rw [e1]
          omega
        · rw [if_neg hz, if_neg hz]
          omega
      · rw [hc1]
        have h5 : ((s.dl : Int) - w) * q ≤ ((D : Int) - w) * q := Int.mul_le_mul_of_nonneg_right (by omega) (by omega)
        omega
    · rw [if_neg hd, Nat.add_zero]
      refine ⟨.inr (.inr ?_), hb⟩
      show ((c : Int) + ((if s.left - 1 = 0 then q else s.left - 1 : Nat) : Int)) * p ≤ (((if s.left - 1 = 0 then s.dl + p else s.dl : Nat) : Int) - w) * q
      rw [Int.add_mul]
      by_cases hz : s.left - 1 = 0
      · rw [if_pos hz, if_pos hz]
        have e1 : (((s.dl + p : Nat) : Int) - w) * q = ((s.dl : Int) - w) * q + (q : Int) * p := by
          rw [Int.mul_comm (q : Int), ← Int.add_mul]
          congr 1
          omega
        rw [e1]
        omega
      · rw [if_neg hz, if_neg hz]
        omega
theorem Bw.arr {q p w D c now : Nat} {al : List A2} {s : SV} (h : Bw q p w D c s) (ho : SvOk q al s) (ha : AlOk al) (hq : 1 ≤ q) (hw : w ≤ now) : Bw q p w D c (s.arr q p al now) :=
  (arr_ind (I := fun s => Bw q p w D c s ∧ SvOk q al s) (fun _ hs hl _ => ⟨hs.1.take hq hs.2.lq hw, hs.2.take hq (ha _ hl) hl⟩) (Nat.le_refl _) ⟨h, ho⟩).1.1

/-! ### The simulation with servers -/
/-- Jobs by their keys, servers with budgets and periods, their requests. -/
structure Cb where
  P : Pat
  ns : Nat
  q : Nat → Nat
  p : Nat → Nat
  al : Nat → List A2
/-- What is left of the jobs; the servers. -/
structure CS where
  jl : Nat → Nat
  sv : Nat → SV
namespace Cb
variable (C : Cb)
def arrS (σ : CS) (t : Nat) : Nat → SV := fun k => (σ.sv k).arr (C.q k) (C.p k) (C.al k) t
def jobS (σ : CS) (t : Nat) : Option Nat := best C.P.rel σ.jl C.P.key t C.P.n
def limS (σ : CS) (t : Nat) : Nat := match C.jobS σ t with
  | some j => C.P.key j
  | none => 1073741824
/-- What a server must be to run ahead of the limit. -/
def wants (l : Nat) (s : SV) : Nat := if s.head < s.come ∧ s.dl < l then 1 else 0
def srvS (σ : CS) (t : Nat) : Option Nat := best (fun _ => 0) (fun k => wants (C.limS σ t) (C.arrS σ t k)) (fun k => (C.arrS σ t k).dl) 0 C.ns
def next (σ : CS) (t : Nat) : CS := match C.srvS σ t with
  | some k => ⟨σ.jl, fun i => if i = k then (C.arrS σ t k).serve (C.q k) (C.p k) (C.al k) else C.arrS σ t i⟩
  | none => ⟨match C.jobS σ t with
      | some j => fun i => if j = i then σ.jl i - 1 else σ.jl i
      | none => σ.jl, C.arrS σ t⟩
def st : Nat → CS
  | 0 => ⟨C.P.ex, fun k => ⟨C.q k, 0, 0, 0, 0⟩⟩
  | t + 1 => C.next (st t) t
/-- A server at time t, its new requests admitted. -/
def A (t k : Nat) : SV := C.arrS (C.st t) t k
def J (t : Nat) : Option Nat := C.jobS (C.st t) t
def K (t : Nat) : Option Nat := C.srvS (C.st t) t
def lim (t : Nat) : Nat := C.limS (C.st t) t
def jl (t i : Nat) : Nat := (C.st t).jl i
def run (t : Nat) : Option Nat := match C.K t with
  | some _ => none
  | none => C.J t
theorem jl_succ (t i : Nat) : C.jl (t + 1) i = if C.run t = some i then C.jl t i - 1 else C.jl t i := by
  show (C.next (C.st t) t).jl i = _
  unfold next run K J jl
  cases C.srvS (C.st t) t with
  | some k => simp
  | none =>
    simp only
    cases C.jobS (C.st t) t with
    | some j => simp only [Option.some.injEq]
    | none => simp
theorem sv_succ (t i : Nat) : (C.st (t + 1)).sv i = if C.K t = some i then (C.A t i).serve (C.q i) (C.p i) (C.al i) else C.A t i := by
  show (C.next (C.st t) t).sv i = _
  unfold next K A
  cases C.srvS (C.st t) t with
  | some k =>
    simp only [Option.some.injEq]
    by_cases e : k = i
    · subst e
      simp
    · rw [if_neg (fun h => e h.symm), if_neg e]
  | none => simp
theorem A_eq (t k : Nat) : C.A t k = ((C.st t).sv k).arr (C.q k) (C.p k) (C.al k) t := rfl
/-- The servers are well formed. -/
def Ok : Prop := ∀ k, k < C.ns → 1 ≤ C.q k ∧ AlOk (C.al k)
variable {C}
theorem K_some {t k : Nat} (h : C.K t = some k) : k < C.ns ∧ (C.A t k).head < (C.A t k).come ∧ (C.A t k).dl < C.lim t ∧ ∀ i, i < C.ns → (C.A t i).head < (C.A t i).come → (C.A t i).dl < C.lim t → (C.A t k).dl ≤ (C.A t i).dl := by
  obtain ⟨h1, _, h3, h4⟩ := best_some h
  have h3' : 0 < wants (C.lim t) (C.A t k) := h3
  unfold wants at h3'
  have h5 : (C.A t k).head < (C.A t k).come ∧ (C.A t k).dl < C.lim t := by
    apply Classical.byContradiction
    intro hn
    rw [if_neg hn] at h3'
    omega
  refine ⟨h1, h5.1, h5.2, fun i hi ha hb => ?_⟩
  have := h4 i hi (Nat.le_refl _) (by show 0 < wants (C.lim t) (C.A t i); unfold wants; rw [if_pos ⟨ha, hb⟩]; omega)
  have h6 : (C.A t k).dl < (C.A t i).dl ∨ ((C.A t k).dl = (C.A t i).dl ∧ k ≤ i) := this
  omega
theorem K_none {t : Nat} (h : C.K t = none) {k : Nat} (hk : k < C.ns) (hp : (C.A t k).head < (C.A t k).come) : C.lim t ≤ (C.A t k).dl := by
  have := best_none h k hk
  apply Classical.byContradiction
  intro hn
  refine this ⟨Nat.le_refl _, ?_⟩
  show 0 < wants (C.lim t) (C.A t k)
  unfold wants
  rw [if_pos ⟨hp, by omega⟩]
  omega
theorem J_some {t j : Nat} (h : C.J t = some j) : j < C.P.n ∧ C.P.rel j ≤ t ∧ 0 < C.jl t j ∧ (∀ i, i < C.P.n → C.P.rel i ≤ t → 0 < C.jl t i → C.P.key j < C.P.key i ∨ (C.P.key j = C.P.key i ∧ j ≤ i)) ∧ C.lim t = C.P.key j := by
  obtain ⟨h1, h2, h3, h4⟩ := best_some h
  refine ⟨h1, h2, h3, h4, ?_⟩
  unfold lim limS
  rw [show C.jobS (C.st t) t = some j from h]
theorem J_none {t : Nat} (h : C.J t = none) : (∀ i, i < C.P.n → ¬ (C.P.rel i ≤ t ∧ 0 < C.jl t i)) ∧ C.lim t = 1073741824 := by
  refine ⟨best_none h, ?_⟩
  unfold lim limS
  rw [show C.jobS (C.st t) t = none from h]
theorem run_some {t j : Nat} (h : C.run t = some j) : C.K t = none ∧ C.J t = some j := by
  unfold run at h
  cases hk : C.K t with
  | some k => rw [hk] at h; simp at h
  | none => rw [hk] at h; exact ⟨rfl, h⟩
theorem run_pos {t j : Nat} (h : C.run t = some j) : j < C.P.n ∧ C.P.rel j ≤ t ∧ 0 < C.jl t j := by
  have := J_some (run_some h).2
  exact ⟨this.1, this.2.1, this.2.2.1⟩
theorem jl_le (t i : Nat) : C.jl (t + 1) i ≤ C.jl t i := by
  rw [C.jl_succ]
  split <;> omega
theorem sv_ok (h : C.Ok) {k : Nat} (hk : k < C.ns) : ∀ t, SvOk (C.q k) (C.al k) ((C.st t).sv k)
  | 0 => ⟨(h k hk).1, Nat.le_refl _, Nat.le_refl _, Nat.zero_le _, fun h => absurd h (Nat.lt_irrefl _)⟩
  | t + 1 => by
    have ih := (sv_ok h hk t).arr (p := C.p k) (now := t) (h k hk).1 (h k hk).2
    rw [C.sv_succ]
    split
    · rename_i hK
      exact SvOk.serve ih (h k hk).1 (h k hk).2 (K_some hK).2.1
    · exact ih
theorem A_ok (h : C.Ok) {k : Nat} (hk : k < C.ns) (t : Nat) : SvOk (C.q k) (C.al k) (C.A t k) := (sv_ok h hk t).arr (h k hk).1 (h k hk).2

/-! ### Isolation -/
/-- Tick t goes to something with a deadline of at most D. -/
def low (C : Cb) (D t : Nat) : Prop := match C.K t with
  | some k => (C.A t k).dl ≤ D
  | none => match C.J t with
    | some j => C.P.key j ≤ D
    | none => False
theorem not_low {D t : Nat} (h : ¬ C.low D t) (hD : D < 1073741824) : (∀ i, i < C.P.n → C.P.rel i ≤ t → C.P.key i ≤ D → C.jl t i = 0) ∧ ∀ k, k < C.ns → (C.A t k).head < (C.A t k).come → D < (C.A t k).dl := by
  unfold low at h
  cases hK : C.K t with
  | some k =>
    rw [hK] at h
    simp only at h
    obtain ⟨_, _, k3, k4⟩ := K_some hK
    constructor
    · intro i hi hr hk
      apply Classical.byContradiction
      intro hn
      cases hJ : C.J t with
      | some b =>
        obtain ⟨_, _, _, j4, j5⟩ := J_some hJ
        have := j4 i hi hr (by omega)
        omega
      | none => exact (J_none hJ).1 i hi ⟨hr, by omega⟩
    · intro i hi hp
      apply Classical.byContradiction
      intro hn
      have := k4 i hi hp (by omega)
      omega
  | none =>
    rw [hK] at h
    simp only at h
    cases hJ : C.J t with
    | some b =>
      rw [hJ] at h
      simp only at h
      obtain ⟨_, _, _, j4, j5⟩ := J_some hJ
      constructor
      · intro i hi hr hk
        apply Classical.byContradiction
        intro hn
        have := j4 i hi hr (by omega)
        omega
      · intro i hi hp
        have := K_none hK hi hp
        omega
    | none =>
      obtain ⟨j1, j2⟩ := J_none hJ
      constructor
      · intro i hi hr _
        apply Classical.byContradiction
        intro hn
        exact j1 i hi ⟨hr, by omega⟩
      · intro i hi hp
        have := K_none hK hi hp
        omega
theorem back_to (L : Nat → Prop) : ∀ D, ∃ s, s ≤ D ∧ (∀ u, s ≤ u → u < D → L u) ∧ (s = 0 ∨ ∃ r, s = r + 1 ∧ ¬ L r)
  | 0 => ⟨0, Nat.le_refl _, fun u _ h => absurd h (Nat.not_lt_zero _), .inl rfl⟩
  | D + 1 => by
    by_cases h : L D
    · obtain ⟨s, h1, h2, h3⟩ := back_to L D
      refine ⟨s, by omega, fun u hu hu2 => ?_, h3⟩
      by_cases e : u = D
      · subst e; exact h
      · exact h2 u hu (by omega)
    · exact ⟨D + 1, Nat.le_refl _, fun u hu hu2 => by omega, .inr ⟨D, rfl, h⟩⟩
/-- A tick of a job, or of server k, with a deadline of at most D. -/
def jd (C : Cb) (D t : Nat) : Nat := match C.run t with
  | some j => if C.P.key j ≤ D then 1 else 0
  | none => 0
def sd (C : Cb) (D t k : Nat) : Nat := if C.K t = some k ∧ (C.A t k).dl ≤ D then 1 else 0
theorem due_step (D t : Nat) : sumN (fun i => if C.P.key i ≤ D then C.jl t i else 0) C.P.n = sumN (fun i => if C.P.key i ≤ D then C.jl (t + 1) i else 0) C.P.n + C.jd D t := by
  unfold jd
  cases hr : C.run t with
  | none =>
    simp only [Nat.add_zero]
    refine sumN_eq fun i _ => ?_
    have e : C.jl (t + 1) i = C.jl t i := by rw [C.jl_succ, hr]; simp
    rw [e]
  | some b =>
    obtain ⟨hb, _, hp⟩ := run_pos hr
    simp only
    refine sumN_one hb (fun i _ hne => ?_) ?_
    · rw [C.jl_succ, hr, if_neg (fun e => hne (Option.some.inj e).symm)]
    · rw [C.jl_succ, hr, if_pos rfl]
      by_cases hk : C.P.key b ≤ D
      · rw [if_pos hk, if_pos hk, if_pos hk]
        omega
      · rw [if_neg hk, if_neg hk, if_neg hk]
theorem due_win (D s : Nat) : ∀ n, sumN (fun i => if C.P.key i ≤ D then C.jl s i else 0) C.P.n = sumN (fun i => if C.P.key i ≤ D then C.jl (s + n) i else 0) C.P.n + sumN (fun i => C.jd D (s + i)) n
  | 0 => rfl
  | n + 1 => by
    rw [due_win D s n, due_step D (s + n)]
    simp only [sumN]
    show _ = sumN (fun i => if C.P.key i ≤ D then C.jl (s + n + 1) i else 0) C.P.n + _
    omega
theorem sumN_ind {k x : Nat} : ∀ {n : Nat}, k < n → sumN (fun i => if k = i then x else 0) n = x
  | 0, h => absurd h (Nat.not_lt_zero _)
  | n + 1, h => by
    simp only [sumN]
    by_cases e : k = n
    · subst e
      rw [if_pos rfl, sumN_zero fun i hi => if_neg (by omega), Nat.zero_add]
    · rw [sumN_ind (by omega), if_neg e, Nat.add_zero]
theorem low_one {D t : Nat} (h : C.low D t) : C.jd D t + sumN (fun k => C.sd D t k) C.ns = 1 := by
  unfold low at h
  unfold jd sd run
  cases hK : C.K t with
  | some k =>
    rw [hK] at h
    simp only at h
    obtain ⟨k1, _⟩ := K_some hK
    simp only [Nat.zero_add, Option.some.injEq]
    refine Eq.trans (sumN_eq (g := fun i => if k = i then 1 else 0) fun i _ => ?_) (sumN_ind k1)
    by_cases e : k = i
    · subst e
      rw [if_pos ⟨rfl, h⟩, if_pos rfl]
    · rw [if_neg (fun h => e h.1), if_neg e]
  | none =>
    rw [hK] at h
    simp only at h
    cases hJ : C.J t with
    | some j =>
      rw [hJ] at h
      simp only at h
      simp only
      rw [if_pos h, sumN_zero fun i _ => if_neg (by simp)]
    | none =>
      rw [hJ] at h
      exact absurd h (by simp)
theorem sumN_swap (f : Nat → Nat → Nat) (m : Nat) : ∀ n, sumN (fun i => sumN (fun k => f i k) m) n = sumN (fun k => sumN (fun i => f i k) n) m
  | 0 => by
    simp only [sumN]
    exact (sumN_zero fun _ _ => rfl).symm
  | n + 1 => by
    simp only [sumN]
    rw [sumN_swap f m n, ← sumN_add]
theorem sumN_const : ∀ n, sumN (fun _ => 1) n = n
  | 0 => rfl
  | n + 1 => by simp only [sumN]; rw [sumN_const n]
theorem sumN_mul (f : Nat → Nat) (c : Nat) : ∀ n, sumN (fun i => f i * c) n = sumN f n * c
  | 0 => by simp [sumN]
  | n + 1 => by simp only [sumN]; rw [sumN_mul f c n, Nat.add_mul]
theorem bw_win (h : C.Ok) {D s k : Nat} (hk : k < C.ns) (hD : D < 1073741824) (hs : s = 0 ∨ ∃ r, s = r + 1 ∧ ¬ C.low D r) : ∀ n, s + n ≤ D → Bw (C.q k) (C.p k) s D (sumN (fun i => C.sd D (s + i) k) n) ((C.st (s + n)).sv k)
  | 0, hn => by
    have hz : ((0 : Nat) : Int) * (C.p k) ≤ ((D : Int) - s) * (C.q k) := by
      rw [show ((0 : Nat) : Int) = 0 from rfl, Int.zero_mul]
      exact Int.mul_nonneg (by omega) (by omega)
    refine ⟨?_, hz⟩
    rcases hs with rfl | ⟨r, rfl, hr⟩
    · exact .inl ⟨rfl, rfl⟩
    · have hl := (not_low hr hD).2 k hk
      have ho := A_ok h hk r
      show (_ ∧ ((C.st (r + 1)).sv k).head = ((C.st (r + 1)).sv k).come) ∨ (_ ∧ D < ((C.st (r + 1)).sv k).dl) ∨ _
      rw [C.sv_succ]
      by_cases hp : (C.A r k).head < (C.A r k).come
      · refine .inr (.inl ⟨rfl, ?_⟩)
        have := hl hp
        split
        · show D < (if (C.A r k).left - 1 = 0 then (C.A r k).dl + C.p k else (C.A r k).dl)
          split <;> omega
        · exact this
      · refine .inl ⟨rfl, ?_⟩
        rw [if_neg (fun hK => hp (K_some hK).2.1)]
        have := ho.hc
        omega
  | n + 1, hn => by
    have ih := bw_win h hk hD hs n (by omega)
    have ih2 : Bw (C.q k) (C.p k) s D (sumN (fun i => C.sd D (s + i) k) n) (C.A (s + n) k) := ih.arr (sv_ok h hk (s + n)) (h k hk).2 (h k hk).1 (by omega)
    show Bw _ _ _ _ _ ((C.st (s + n + 1)).sv k)
    rw [C.sv_succ]
    simp only [sumN]
    by_cases hK : C.K (s + n) = some k
    · rw [if_pos hK]
      have := ih2.serve (al := C.al k) (K_some hK).2.1 (A_ok h hk (s + n)).l1
      unfold sd
      rw [show (if C.K (s + n) = some k ∧ (C.A (s + n) k).dl ≤ D then 1 else 0) = if (C.A (s + n) k).dl ≤ D then 1 else 0 by simp [hK]]
      exact this
    · rw [if_neg hK]
      unfold sd
      rw [if_neg (fun e => hK e.1), Nat.add_zero]
      exact ih2
/-- Promise 8: nothing is left of a job at its deadline where the demand dm and the bandwidth num / den of the servers fit. -/
theorem safe (h : C.Ok) {D m : Nat} (hm : m < C.P.n) (hkm : C.P.key m ≤ D) (hD : D < 1073741824) {dm : Nat → Nat} {den : Nat} {r : Nat → Nat} (hden : 1 ≤ den) (hr : ∀ k, k < C.ns → C.p k * r k = den)
    (hask : ∀ s, sumN (fun i => if s ≤ C.P.rel i ∧ C.P.key i ≤ D then C.P.ex i else 0) C.P.n ≤ dm (D - s))
    (hfit : ∀ x, dm x * den + x * sumN (fun k => C.q k * r k) C.ns ≤ x * den) : C.jl D m = 0 := by
  apply Classical.byContradiction
  intro hne
  obtain ⟨s, hsD, hlow, hs⟩ := back_to (C.low D) D
  -- jobs
  have hj := due_win (C := C) D s (D - s)
  rw [show s + (D - s) = D by omega] at hj
  have h1 : 1 ≤ sumN (fun i => if C.P.key i ≤ D then C.jl D i else 0) C.P.n := by
    have := sumN_mem (f := fun i => if C.P.key i ≤ D then C.jl D i else 0) hm
    simp only [if_pos hkm] at this
    omega
  have hex : ∀ t i, C.jl t i ≤ C.P.ex i := fun t i => by
    induction t with
    | zero => exact Nat.le_refl _
    | succ t ih => exact Nat.le_trans (jl_le t i) ih
  have h2 : sumN (fun i => if C.P.key i ≤ D then C.jl s i else 0) C.P.n ≤ sumN (fun i => if s ≤ C.P.rel i ∧ C.P.key i ≤ D then C.P.ex i else 0) C.P.n := sumN_le fun i hi => by
    by_cases hk : C.P.key i ≤ D
    · rw [if_pos hk]
      by_cases hrl : s ≤ C.P.rel i
      · rw [if_pos ⟨hrl, hk⟩]
        exact hex s i
      · rw [if_neg (fun e => hrl e.1)]
        rcases hs with rfl | ⟨u, rfl, hu⟩
        · omega
        · have := (not_low hu hD).1 i hi (by omega) hk
          have := jl_le (C := C) u i
          omega
    · rw [if_neg hk]
      exact Nat.zero_le _
  have h3 := hask s
  -- ticks
  have h4 : sumN (fun i => C.jd D (s + i)) (D - s) + sumN (fun k => sumN (fun i => C.sd D (s + i) k) (D - s)) C.ns = D - s := by
    rw [← sumN_swap (fun i k => C.sd D (s + i) k) C.ns (D - s), ← sumN_add]
    refine Eq.trans (sumN_eq (g := fun _ => 1) fun i hi => ?_) (sumN_const _)
    exact low_one (hlow (s + i) (by omega) (by omega))
  -- bandwidth
  have h5 : sumN (fun k => sumN (fun i => C.sd D (s + i) k) (D - s)) C.ns * den ≤ (D - s) * sumN (fun k => C.q k * r k) C.ns := by
    rw [← sumN_mul, Nat.mul_comm (D - s), ← sumN_mul]
    refine sumN_le fun k hk => ?_
    have hb := (bw_win h hk hD hs (D - s) (by omega)).2
    have hb' : sumN (fun i => C.sd D (s + i) k) (D - s) * C.p k ≤ (D - s) * C.q k := by
      have e : ((D : Int) - s) = ((D - s : Nat) : Int) := by omega
      rw [e] at hb
      exact_mod_cast hb
    rw [← hr k hk, ← Nat.mul_assoc]
    refine Nat.le_trans (Nat.mul_le_mul_right (r k) hb') (Nat.le_of_eq ?_)
    rw [Nat.mul_assoc, Nat.mul_comm (D - s)]
  have h6 := hfit (D - s)
  have h7 : (sumN (fun i => C.jd D (s + i)) (D - s) + 1) * den ≤ dm (D - s) * den := Nat.mul_le_mul_right den (by omega)
  have h8 : (sumN (fun i => C.jd D (s + i)) (D - s) + sumN (fun k => sumN (fun i => C.sd D (s + i) k) (D - s)) C.ns) * den = (D - s) * den := by rw [h4]
  rw [Nat.add_mul] at h7 h8
  omega
end Cb

end Go.Proofs.Ytnhbmegglpgkoaa
