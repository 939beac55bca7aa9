/- Plain consequence of promise 55: the jobs of the lowest task taken out of a legal pattern leave a legal pattern, whose jobs finish as before. No program is walked. Conditions: the order and the pattern are valid; low is the order's last task. -/
import Derived.Test.YtocppoobcanhiabFixRun
import Derived.Test.YtocppoobcanhiabPlain
namespace Go.Proofs.Ytocppoobcanhiab
open Go.RowKit Go.Deep

/-- The places, among the first n jobs, of the jobs of other tasks than low. -/
def rsi (js : List J4) (low : Int) : Nat → List Nat
  | 0 => []
  | n + 1 => if (jb js n).1 = low then rsi js low n else rsi js low n ++ [n]
/-- Those jobs. -/
def rst (js : List J4) (low : Int) (n : Nat) : List J4 := (rsi js low n).map (jb js)
/-- What f says of them. -/
def rsf (f : Nat → Int) (js : List J4) (low : Int) (n : Nat) : List Int := (rsi js low n).map f
theorem rst_len (js : List J4) (low : Int) (n : Nat) : (rst js low n).length = (rsi js low n).length := by simp [rst]
theorem rsf_len (f : Nat → Int) (js : List J4) (low : Int) (n : Nat) : (rsf f js low n).length = (rsi js low n).length := by simp [rsf]
theorem rsi_le (js : List J4) (low : Int) : ∀ n, (rsi js low n).length ≤ n
  | 0 => Nat.le_refl _
  | n + 1 => by
    have := rsi_le js low n
    simp only [rsi]
    split
    · omega
    · simp; omega
theorem rst_no {js : List J4} {low : Int} {n : Nat} (h : (jb js n).1 = low) : rst js low (n + 1) = rst js low n := by simp only [rst, rsi, if_pos h]
theorem rst_yes {js : List J4} {low : Int} {n : Nat} (h : ¬ (jb js n).1 = low) : rst js low (n + 1) = rst js low n ++ [jb js n] := by simp only [rst, rsi, if_neg h, List.map_append, List.map_cons, List.map_nil]
theorem rsf_no {f : Nat → Int} {js : List J4} {low : Int} {n : Nat} (h : (jb js n).1 = low) : rsf f js low (n + 1) = rsf f js low n := by simp only [rsf, rsi, if_pos h]
theorem rsf_yes {f : Nat → Int} {js : List J4} {low : Int} {n : Nat} (h : ¬ (jb js n).1 = low) : rsf f js low (n + 1) = rsf f js low n ++ [f n] := by simp only [rsf, rsi, if_neg h, List.map_append, List.map_cons, List.map_nil]
theorem rsi_mem {js : List J4} {low : Int} {x : Nat} : ∀ {n : Nat}, x ∈ rsi js low n ↔ x < n ∧ ¬ (jb js x).1 = low
  | 0 => by simp [rsi]
  | n + 1 => by
    have ih := rsi_mem (js := js) (low := low) (x := x) (n := n)
    simp only [rsi]
    split
    · rename_i h
      rw [ih]
      constructor
      · rintro ⟨h1, h2⟩
        exact ⟨by omega, h2⟩
      · rintro ⟨h1, h2⟩
        refine ⟨?_, h2⟩
        by_cases e : x = n
        · subst e
          exact absurd h h2
        · omega
    · rename_i h
      simp only [List.mem_append, List.mem_singleton]
      rw [ih]
      constructor
      · rintro (⟨h1, h2⟩ | rfl)
        · exact ⟨by omega, h2⟩
        · exact ⟨by omega, h⟩
      · rintro ⟨h1, h2⟩
        by_cases e : x = n
        · exact .inr e
        · exact .inl ⟨by omega, h2⟩
theorem rsi_up (js : List J4) (low : Int) : ∀ n, (rsi js low n).Pairwise (· < ·)
  | 0 => List.Pairwise.nil
  | n + 1 => by
    simp only [rsi]
    split
    · exact rsi_up js low n
    · rw [List.pairwise_append]
      refine ⟨rsi_up js low n, List.pairwise_singleton _ _, fun a ha b hb => ?_⟩
      simp only [List.mem_singleton] at hb
      subst hb
      exact (rsi_mem.1 ha).1
theorem leg_lex {ts : List T3} {js : List J4} (h : ∀ k, k < js.length → Leg1 ts js k) {i : Nat} : ∀ {j : Nat}, i < j → j < js.length → (jb js i).2.1 < (jb js j).2.1 ∨ ((jb js i).2.1 = (jb js j).2.1 ∧ (jb js i).1 < (jb js j).1)
  | 0, hi, _ => absurd hi (Nat.not_lt_zero _)
  | j + 1, hi, hj => by
    have hs := (h (j + 1) hj).2.2.2.2.2
    simp only [Nat.add_sub_cancel] at hs
    by_cases e : i = j
    · subst e
      rcases hs with a | a
      · omega
      · exact a
    · have ih := leg_lex h (i := i) (j := j) (by omega) (by omega)
      rcases hs with a | a | ⟨a, b⟩
      · omega
      · rcases ih with c | ⟨c, d⟩
        · exact .inl (by omega)
        · exact .inl (by omega)
      · rcases ih with c | ⟨c, d⟩
        · exact .inl (by omega)
        · exact .inr ⟨by omega, by omega⟩
theorem jb_map {js : List J4} {l : List Nat} {k : Nat} (h : k < l.length) : jb (l.map (jb js)) k = jb js (l.getD k 0) := by
  simp only [jb, List.getD_eq_getElem?_getD, List.getElem?_map, List.getElem?_eq_getElem h]
  rfl
theorem rst_leg {ts : List T3} {js : List J4} (h : ∀ k, k < js.length → Leg1 ts js k) (low : Int) : ∀ {n : Nat}, n ≤ js.length → (∀ k, k < (rst js low n).length → Leg1 ts (rst js low n) k) ∧ ∀ i : Nat, (i : Int) ≠ low → nx ts (rst js low n) (rst js low n).length i = nx ts js n i
  | 0, _ => ⟨fun k hk => by simp [rst, rsi] at hk, fun i _ => rfl⟩
  | n + 1, hn => by
    obtain ⟨h1, h2⟩ := rst_leg h low (n := n) (by omega)
    have hL := h n (by omega)
    have hid : (jb js n).1 = (jid js n : Nat) := by have := hL.1; simp only [jid]; omega
    by_cases e : (jb js n).1 = low
    · rw [rst_no e]
      refine ⟨h1, fun i hi => ?_⟩
      rw [h2 i hi]
      simp only [nx]
      rw [if_neg (fun c => hi (by rw [← c, ← hid]; exact e))]
    · rw [rst_yes e]
      generalize ho : rst js low n = o at h1 h2
      have jl : jb (o ++ [jb js n]) o.length = jb js n := jb_last o _
      have jdL : jid (o ++ [jb js n]) o.length = jid js n := by simp only [jid, jl]
      have jrL : jrel (o ++ [jb js n]) o.length = jrel js n := by simp only [jrel, jl]
      have hnx := h2 (jid js n) (by rw [← hid]; exact e)
      refine ⟨fun k hk => ?_, fun i hi => ?_⟩
      · simp only [List.length_append, List.length_cons, List.length_nil, Nat.zero_add] at hk
        by_cases hk2 : k < o.length
        · exact leg_app hk2 (h1 k hk2)
        · obtain rfl : k = o.length := by omega
          unfold Leg1
          rw [jl, jdL, nx_app (Nat.le_refl _), hnx]
          obtain ⟨a1, a2, a3, a4, a5, a6⟩ := hL
          refine ⟨a1, a2, a3, a4, a5, ?_⟩
          by_cases hz : o.length = 0
          · exact .inl hz
          · right
            have hp : o.length - 1 < (rsi js low n).length := by rw [← rst_len, ho]; omega
            have hj : jb o (o.length - 1) = jb js ((rsi js low n).getD (o.length - 1) 0) := by rw [← ho, rst]; rw [rst] at ho; rw [ho]; rw [← ho]; exact jb_map (by rw [List.length_map] at *; omega)
            have hm : (rsi js low n).getD (o.length - 1) 0 ∈ rsi js low n := by rw [List.getD_eq_getElem?_getD, List.getElem?_eq_getElem hp]; exact List.getElem_mem hp
            have hq := leg_lex h (rsi_mem.1 hm).1 (show n < js.length by omega)
            rw [jb_app (by omega), hj]
            exact hq
      · rw [show (o ++ [jb js n]).length = o.length + 1 by simp]
        simp only [nx]
        rw [jdL, jrL, nx_app (Nat.le_refl _), h2 i hi]
theorem rst_ok {ts : List T3} {js : List J4} (h : legB ts js = true) (low : Int) : legB ts (rst js low js.length) = true := by
  obtain ⟨hv, hl, h1⟩ := legB_iff.1 h
  exact legB_iff.2 ⟨hv, by have := rsi_le js low js.length; rw [rst_len]; omega, (rst_leg h1 low (Nat.le_refl _)).1⟩
theorem sub_fin {ts : List T3} {os : List Int} {js : List J4} (ho : ordB ts os = true) (hl : legB ts js = true) (hp : 0 < os.length) {k : Nat} (hk : k < (rsi js (os.getD (os.length - 1) 0) js.length).length) :
    finX os (rst js (os.getD (os.length - 1) 0) js.length) k = (rsf (finX os js) js (os.getD (os.length - 1) 0) js.length).getD k 0 := by
  obtain ⟨hv, _, h1⟩ := legB_iff.1 hl
  obtain ⟨low, hlow⟩ : ∃ low, low = os.getD (os.length - 1) 0 := ⟨_, rfl⟩
  have hlo : os.getD (os.length - 1) 0 = (low.toNat : Nat) := by
    have hm : os.getD (os.length - 1) 0 ∈ os := by rw [List.getD_eq_getElem?_getD, List.getElem?_eq_getElem (by omega)]; exact List.getElem_mem _
    have := ((ordB_iff.1 ho).2.2.1 _ hm).1
    omega
  have hrk := rk_place' ho (show os.length - 1 < os.length by omega) hlo
  rw [← hlow] at hk ⊢
  rw [← hlow] at hlo
  generalize hI : rsi js low js.length = I at hk
  have gt : ∀ {a : Nat}, a < I.length → I.getD a 0 ∈ I := fun {a} ha => by rw [List.getD_eq_getElem?_getD, List.getElem?_eq_getElem ha]; exact List.getElem_mem _
  have hmem : ∀ {a : Nat}, a < I.length → I.getD a 0 < js.length ∧ ¬ (jb js (I.getD a 0)).1 = low := fun {a} ha => rsi_mem.1 (by rw [hI]; exact gt ha)
  have hn : (fxP os (rst js low js.length)).n = I.length := by show (rst js low js.length).length = I.length; rw [rst_len, hI]
  have hjb : ∀ {a : Nat}, a < I.length → jb (rst js low js.length) a = jb js (I.getD a 0) := fun {a} ha => by rw [rst, hI]; exact jb_map ha
  have key : ∀ {i : Nat}, i < js.length → rk os (jid js i) < os.length := fun {i} hi => rk_lt (ord_all ho ((h1 i hi).nat (sv_all hv).1).1)
  have S := Pat.sub (P := fxP os js) (Q := fxP os (rst js low js.length)) (σ := fun a => I.getD a 0)
    (fun a b hab hb => by
      rw [hn] at hb
      have hp := rsi_up js low js.length
      rw [hI] at hp
      have ha : a < I.length := by omega
      have e1 : I.getD a 0 = I[a] := by rw [List.getD_eq_getElem?_getD, List.getElem?_eq_getElem ha]; rfl
      have e2 : I.getD b 0 = I[b] := by rw [List.getD_eq_getElem?_getD, List.getElem?_eq_getElem hb]; rfl
      simp only [e1, e2]
      exact List.pairwise_iff_getElem.1 hp a b ha hb hab)
    (fun a ha => by rw [hn] at ha; exact (hmem ha).1)
    (fun a ha => by
      rw [hn] at ha
      have := hjb ha
      refine ⟨?_, ?_, ?_⟩
      · show jrel js _ = jrel _ _
        simp only [jrel, this]
      · show jex js _ = jex _ _
        simp only [jex, this]
      · show rk os (jid js _) = rk os (jid _ _)
        simp only [jid, this])
    (fun i hi hno a ha => by
      rw [hn] at ha hno
      have hi' : i < js.length := hi
      have e : (jb js i).1 = low := by
        apply Classical.byContradiction
        intro hne
        have hm : i ∈ I := by rw [← hI]; exact rsi_mem.2 ⟨hi', hne⟩
        obtain ⟨a', ha', e'⟩ := List.getElem_of_mem hm
        exact hno a' ha' (by rw [List.getD_eq_getElem?_getD, List.getElem?_eq_getElem ha']; exact e')
      have hki : (fxP os js).key i = os.length - 1 := by
        show rk os (jid js i) = _
        have : jid js i = low.toNat := by simp only [jid, e]
        rw [this]
        exact hrk
      have hka : (fxP os (rst js low js.length)).key a = rk os (jid js (I.getD a 0)) := by
        show rk os (jid _ a) = _
        simp only [jid, hjb ha]
      rw [hki, hka]
      have hma := hmem ha
      have hlt := key hma.1
      have hne : rk os (jid js (I.getD a 0)) ≠ os.length - 1 := fun c => by
        have hidl := ((h1 _ hma.1).nat (sv_all hv).1).1
        have hll : low.toNat < ts.length := by
          have hm : os.getD (os.length - 1) 0 ∈ os := by rw [List.getD_eq_getElem?_getD, List.getElem?_eq_getElem (by omega)]; exact List.getElem_mem _
          have := (ordB_iff.1 ho).2.2.1 _ hm
          omega
        have e2 := rk_inj ho _ _ hidl hll (c.trans hrk.symm)
        have := (h1 _ hma.1).1
        exact hma.2 (by simp only [jid] at e2; omega)
      omega) 120 k (by rw [hn]; exact hk)
  have e3 : (rsf (finX os js) js low js.length).getD k 0 = finX os js (I.getD k 0) := by
    rw [rsf, hI]
    simp only [List.getD_eq_getElem?_getD, List.getElem?_map, List.getElem?_eq_getElem hk]
    rfl
  rw [e3]
  exact S.2.symm

end Go.Proofs.Ytocppoobcanhiab
