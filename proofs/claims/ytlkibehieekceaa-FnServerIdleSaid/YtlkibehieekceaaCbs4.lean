/- Plain theory of chapter 5, without any program, fourth part: the simulation told as the program keeps it: what a job has left once it is released, how long the request at the head has run, and the most urgent of jobs and servers in one list. Conditions: those that each theorem names. -/
import Derived.Test.YtlkibehieekceaaCbs3
namespace Go.Proofs.Ytlkibehieekceaa

/-- How long the request at the head has run. -/
def dnOf (al : List A2) (s : SV) : Nat := if s.head < s.come then aX al s.head - s.rest else 0
/-- What is left of the request at the head is at most its length. -/
def RestOk (al : List A2) (s : SV) : Prop := s.head < s.come → s.rest ≤ aX al s.head
theorem RestOk.take {q p now : Nat} {al : List A2} {s : SV} (h : RestOk al s) (hc : s.head ≤ s.come) : RestOk al (s.take q p (aX al s.come) now) := by
  unfold RestOk at *
  unfold SV.take
  split
  · rename_i e
    split <;> exact fun _ => by show aX al s.come ≤ aX al s.head; rw [e]; exact Nat.le_refl _
  · exact fun _ => h (by omega)
theorem dnOf_take {q p now : Nat} {al : List A2} {s : SV} (hc : s.head ≤ s.come) : dnOf al (s.take q p (aX al s.come) now) = dnOf al s := by
  unfold dnOf SV.take
  by_cases e : s.head = s.come
  · rw [if_pos e, if_neg (show ¬ s.head < s.come by omega)]
    split
    · show (if s.head < s.come + 1 then aX al s.head - aX al s.come else 0) = 0
      rw [e]; split <;> omega
    · show (if s.head < s.come + 1 then aX al s.head - aX al s.come else 0) = 0
      rw [e]; split <;> omega
  · rw [if_neg e, if_pos (show s.head < s.come by omega)]
    show (if s.head < s.come + 1 then aX al s.head - s.rest else 0) = _
    rw [if_pos (by omega)]
theorem RestOk.serve {q p : Nat} {al : List A2} {s : SV} (h : RestOk al s) (hp : s.head < s.come) : RestOk al (s.serve q p al) := by
  have h0 := h hp
  unfold RestOk SV.serve
  show (if s.rest - 1 = 0 then s.head + 1 else s.head) < s.come → (if s.rest - 1 = 0 then (if s.head + 1 < s.come then aX al (s.head + 1) else 0) else s.rest - 1) ≤ aX al (if s.rest - 1 = 0 then s.head + 1 else s.head)
  by_cases e : s.rest - 1 = 0
  · rw [if_pos e, if_pos e]
    intro h1
    rw [if_pos h1]
    exact Nat.le_refl _
  · rw [if_neg e, if_neg e]
    intro _
    omega
theorem dnOf_serve {q p : Nat} {al : List A2} {s : SV} (h : RestOk al s) (hp : s.head < s.come) (h1 : 1 ≤ s.rest) : dnOf al (s.serve q p al) = if s.rest = 1 then 0 else dnOf al s + 1 := by
  have h0 := h hp
  unfold dnOf SV.serve
  show (if (if s.rest - 1 = 0 then s.head + 1 else s.head) < s.come then aX al (if s.rest - 1 = 0 then s.head + 1 else s.head) - (if s.rest - 1 = 0 then (if s.head + 1 < s.come then aX al (s.head + 1) else 0) else s.rest - 1) else 0) = _
  by_cases e : s.rest = 1
  · rw [if_pos e, if_pos (show s.rest - 1 = 0 by omega), if_pos (show s.rest - 1 = 0 by omega)]
    split
    · omega
    · rfl
  · rw [if_neg e, if_neg (show ¬ s.rest - 1 = 0 by omega), if_neg (show ¬ s.rest - 1 = 0 by omega), if_pos hp, if_pos hp]
    omega
namespace Cb
variable {C : Cb}
theorem rest_ok (h : C.Ok) {k : Nat} (hk : k < C.ns) : ∀ t, RestOk (C.al k) ((C.st t).sv k)
  | 0 => fun h => absurd h (Nat.not_lt_zero _)
  | t + 1 => by
    have h1 : RestOk (C.al k) (C.A t k) := (arr_ind (I := fun s => RestOk (C.al k) s ∧ SvOk (C.q k) (C.al k) s) (fun _ hs hl _ => ⟨hs.1.take hs.2.hc, hs.2.take (h k hk).1 ((h k hk).2 _ hl) hl⟩) (Nat.le_refl _) ⟨rest_ok h hk t, sv_ok h hk t⟩).1.1
    rw [C.sv_succ]
    split
    · rename_i e
      exact h1.serve (K_some e).2.1
    · exact h1
theorem restA (h : C.Ok) {k : Nat} (hk : k < C.ns) (t : Nat) : RestOk (C.al k) (C.A t k) :=
  (arr_ind (I := fun s => RestOk (C.al k) s ∧ SvOk (C.q k) (C.al k) s) (fun _ hs hl _ => ⟨hs.1.take hs.2.hc, hs.2.take (h k hk).1 ((h k hk).2 _ hl) hl⟩) (Nat.le_refl _) ⟨rest_ok h hk t, sv_ok h hk t⟩).1.1

/-- What a job has left, from its release on: before and behind the arrivals of tick t. -/
def lfA (C : Cb) (t i : Nat) : Nat := if C.P.rel i < t then C.jl t i else 0
def lfB (C : Cb) (t i : Nat) : Nat := if C.P.rel i ≤ t then C.jl t i else 0
theorem jl_early {i : Nat} : ∀ {t : Nat}, t ≤ C.P.rel i → C.jl t i = C.P.ex i
  | 0, _ => rfl
  | t + 1, h => by
    rw [C.jl_succ, if_neg, jl_early (by omega)]
    intro e
    have := (run_pos e).2.1
    omega
theorem lf_arr (t i : Nat) : (if C.P.rel i = t then C.P.ex i else C.lfA t i) = C.lfB t i := by
  unfold lfA lfB
  by_cases e : C.P.rel i = t
  · rw [if_pos e, if_pos (by omega), jl_early (by omega)]
  · rw [if_neg e]
    by_cases h : C.P.rel i < t
    · rw [if_pos h, if_pos (by omega)]
    · rw [if_neg h, if_neg (by omega)]
theorem lf_succ (t i : Nat) : C.lfA (t + 1) i = if C.run t = some i then C.lfB t i - 1 else C.lfB t i := by
  unfold lfA lfB
  rw [C.jl_succ]
  by_cases e : C.run t = some i
  · have := (run_pos e).2.1
    rw [if_pos e, if_pos e, if_pos (by omega), if_pos (by omega)]
  · rw [if_neg e, if_neg e]
    by_cases h : C.P.rel i ≤ t
    · rw [if_pos h, if_pos (by omega)]
    · rw [if_neg h, if_neg (by omega)]
end Cb
theorem best_uniq {rel left key : Nat → Nat} {now b n : Nat} (h1 : b < n) (h2 : rel b ≤ now) (h3 : 0 < left b) (h4 : ∀ i, i < n → rel i ≤ now → 0 < left i → key b < key i ∨ (key b = key i ∧ b ≤ i)) : best rel left key now n = some b := by
  cases h : best rel left key now n with
  | none => exact absurd ⟨h2, h3⟩ (best_none h b h1)
  | some c =>
    obtain ⟨c1, c2, c3, c4⟩ := best_some h
    have a1 := c4 b h1 h2 h3
    have a2 := h4 c c1 c2 c3
    congr 1
    omega
theorem best_not {rel left key : Nat → Nat} {now n : Nat} (h : ∀ i, i < n → ¬ (rel i ≤ now ∧ 0 < left i)) : best rel left key now n = none := by
  cases e : best rel left key now n with
  | none => rfl
  | some c =>
    obtain ⟨c1, c2, c3, _⟩ := best_some e
    exact absurd ⟨c2, c3⟩ (h c c1)
namespace Cb
variable {C : Cb}
/-- The list of jobs and servers: who is pending, and when it is due. -/
def pe (n : Nat) (lf : Nat → Nat) (sv : Nat → SV) (c : Nat) : Nat := if c < n then lf c else if (sv (c - n)).head < (sv (c - n)).come then 1 else 0
def du (n : Nat) (key : Nat → Nat) (sv : Nat → SV) (c : Nat) : Nat := if c < n then key c else (sv (c - n)).dl
/-- The most urgent of the first m. -/
def top (n : Nat) (lf key : Nat → Nat) (sv : Nat → SV) (m : Nat) : Option Nat := best (fun _ => 0) (pe n lf sv) (du n key sv) 0 m
theorem top_succ (n : Nat) (lf key : Nat → Nat) (sv : Nat → SV) (m : Nat) : top n lf key sv (m + 1) = match top n lf key sv m with
    | none => if 0 < pe n lf sv m then some m else none
    | some b => if 0 < pe n lf sv m ∧ du n key sv m < du n key sv b then some m else some b := by
  show best (fun _ => 0) (pe n lf sv) (du n key sv) 0 (m + 1) = _
  simp only [best, Nat.le_refl, true_and]
  rfl
theorem pe_j {n c : Nat} {lf : Nat → Nat} {sv : Nat → SV} (h : c < n) : pe n lf sv c = lf c := if_pos h
theorem pe_s {n k : Nat} {lf : Nat → Nat} {sv : Nat → SV} : pe n lf sv (n + k) = if (sv k).head < (sv k).come then 1 else 0 := by
  unfold pe
  rw [if_neg (by omega), Nat.add_sub_cancel_left]
theorem du_j {n c : Nat} {key : Nat → Nat} {sv : Nat → SV} (h : c < n) : du n key sv c = key c := if_pos h
theorem du_s {n k : Nat} {key : Nat → Nat} {sv : Nat → SV} : du n key sv (n + k) = (sv k).dl := by
  unfold du
  rw [if_neg (by omega), Nat.add_sub_cancel_left]
/-- The most urgent of all is the server or the job that the simulation takes. -/
theorem top_all (t : Nat) (hd : ∀ k, k < C.ns → (C.A t k).dl < 1073741824) :
    top C.P.n (C.lfB t) C.P.key (C.A t) (C.P.n + C.ns) = match C.K t with
      | some k => some (C.P.n + k)
      | none => C.J t := by
  have hj : ∀ i, i < C.P.n → (0 < pe C.P.n (C.lfB t) (C.A t) i ↔ C.P.rel i ≤ t ∧ 0 < C.jl t i) := fun i hi => by
    rw [pe_j hi]
    unfold lfB
    by_cases h : C.P.rel i ≤ t
    · rw [if_pos h]; exact ⟨fun h2 => ⟨h, h2⟩, fun h2 => h2.2⟩
    · rw [if_neg h]; exact ⟨fun h2 => absurd h2 (Nat.lt_irrefl _), fun h2 => absurd h2.1 h⟩
  have hs : ∀ k, (0 < pe C.P.n (C.lfB t) (C.A t) (C.P.n + k) ↔ (C.A t k).head < (C.A t k).come) := fun k => by
    rw [pe_s]
    split <;> simp_all
  have lim_j : ∀ i, i < C.P.n → C.P.rel i ≤ t → 0 < C.jl t i → C.lim t ≤ C.P.key i := fun i hi h1 h2 => by
    cases e : C.J t with
    | none => exact absurd ⟨h1, h2⟩ ((J_none e).1 i hi)
    | some j =>
      obtain ⟨_, _, _, h4, h5⟩ := J_some e
      have := h4 i hi h1 h2
      omega
  cases hK : C.K t with
  | some k =>
    obtain ⟨k1, k2, k3, _⟩ := K_some hK
    obtain ⟨_, _, _, b4⟩ := best_some hK
    refine best_uniq (by omega) (Nat.zero_le _) ((hs k).2 k2) (fun i hi _ hp => ?_)
    rw [du_s]
    by_cases hi2 : i < C.P.n
    · rw [du_j hi2]
      obtain ⟨a1, a2⟩ := (hj i hi2).1 hp
      have := lim_j i hi2 a1 a2
      left
      omega
    · obtain ⟨m, rfl⟩ : ∃ m, i = C.P.n + m := ⟨i - C.P.n, by omega⟩
      rw [du_s]
      have hm := (hs m).1 hp
      by_cases hd2 : (C.A t m).dl < C.lim t
      · have := b4 m (by omega) (Nat.le_refl _) (by show 0 < wants (C.lim t) (C.A t m); unfold wants; rw [if_pos ⟨hm, hd2⟩]; omega)
        have h6 : (C.A t k).dl < (C.A t m).dl ∨ ((C.A t k).dl = (C.A t m).dl ∧ k ≤ m) := this
        omega
      · left; omega
  | none =>
    have kn := fun (k : Nat) hk hp => K_none hK (k := k) hk hp
    cases hJ : C.J t with
    | some j =>
      obtain ⟨j1, j2, j3, j4, j5⟩ := J_some hJ
      refine best_uniq (by omega) (Nat.zero_le _) ((hj j j1).2 ⟨j2, j3⟩) (fun i hi _ hp => ?_)
      rw [du_j j1]
      by_cases hi2 : i < C.P.n
      · rw [du_j hi2]
        obtain ⟨a1, a2⟩ := (hj i hi2).1 hp
        exact j4 i hi2 a1 a2
      · obtain ⟨m, rfl⟩ : ∃ m, i = C.P.n + m := ⟨i - C.P.n, by omega⟩
        rw [du_s]
        have := kn m (by omega) ((hs m).1 hp)
        omega
    | none =>
      obtain ⟨n1, n2⟩ := J_none hJ
      refine best_not fun i hi hh => ?_
      by_cases hi2 : i < C.P.n
      · exact n1 i hi2 ((hj i hi2).1 hh.2)
      · obtain ⟨m, rfl⟩ : ∃ m, i = C.P.n + m := ⟨i - C.P.n, by omega⟩
        have h1 := kn m (by omega) ((hs m).1 hh.2)
        have h2 := hd m (by omega)
        omega
end Cb

end Go.Proofs.Ytlkibehieekceaa
