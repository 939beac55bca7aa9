/- Plain facts on how the program scans a line (no program): words, rows of digits, and that what it finds is the task that the line holds. Conditions: those of each theorem. -/
import Derived.Test.YtdgihkmiolnglaaGreatDoorTxt
import Derived.Lib.AtoiAllCases
namespace Go.Proofs.YtdgihkmiolnglaaGreatDoor

def isDig (c : UInt8) : Bool := decide (48 ≤ c.toNat ∧ c.toNat ≤ 57)
/-- The digits ahead, how many they are, what lies behind them. -/
def dgs (l : List UInt8) : List UInt8 := l.takeWhile isDig
def dgN (l : List UInt8) : Nat := (dgs l).length
def dgR (l : List UInt8) : List UInt8 := l.dropWhile isDig
theorem dgs_app (l : List UInt8) : dgs l ++ dgR l = l := List.takeWhile_append_dropWhile
theorem dgs_take (l : List UInt8) : l.take (dgN l) = dgs l := by
  have h : (dgs l ++ dgR l).take (dgs l).length = dgs l := List.take_left
  rw [dgs_app] at h
  exact h
theorem dgR_drop (l : List UInt8) : l.drop (dgN l) = dgR l := by
  have h : (dgs l ++ dgR l).drop (dgs l).length = dgR l := List.drop_left
  rw [dgs_app] at h
  exact h
theorem dgN_le (l : List UInt8) : dgN l ≤ l.length := by
  have := congrArg List.length (dgs_app l)
  rw [List.length_append] at this
  unfold dgN; omega
theorem dgs_dig (l : List UInt8) : ∀ c ∈ dgs l, isDig c = true := fun c hc => by
  have h := List.all_takeWhile (p := isDig) (l := l)
  exact List.all_eq_true.1 h c hc
theorem dgN_eq {l : List UInt8} {i : Nat} (hi : i ≤ l.length) (h1 : ∀ c ∈ l.take i, isDig c = true) (h2 : i = l.length ∨ ∃ h : i < l.length, isDig (l[i]'h) = false) : dgN l = i := by
  unfold dgN dgs
  have e : l = l.take i ++ l.drop i := (List.take_append_drop i l).symm
  have h3 : (l.drop i).takeWhile isDig = [] := by
    rcases h2 with rfl | ⟨h, hd⟩
    · simp
    · rw [List.drop_eq_getElem_cons h, List.takeWhile_cons_of_neg (by rw [hd]; decide)]
  rw [e, List.takeWhile_append_of_pos h1, h3, List.append_nil, List.length_take]
  omega

/-! ### What a row of digits is worth -/
def dst (n : Nat) (c : UInt8) : Nat := n * 10 + (c.toNat - 48)
theorem dst_ge : ∀ (l : List UInt8) (a : Nat), a ≤ l.foldl dst a
  | [], a => Nat.le_refl _
  | c :: l, a => Nat.le_trans (by unfold dst; omega) (dst_ge l (dst a c))
theorem pu_eq : ∀ (l : List UInt8) (a u : Nat), Lib.parseUint10 a l = .ok u → u = l.foldl dst a
  | [], a, u, h => by
    simp only [Lib.parseUint10] at h
    injection h with h
    exact h.symm
  | c :: l, a, u, h => by
    simp only [Lib.parseUint10] at h
    split at h
    · split at h
      · cases h
      · split at h
        · cases h
        · exact pu_eq l _ u h
    · cases h
theorem pu_ok : ∀ (l : List UInt8) (a : Nat), (∀ c ∈ l, isDig c = true) → l.foldl dst a < 9223372036854775808 → Lib.parseUint10 a l = .ok (l.foldl dst a)
  | [], a, _, _ => rfl
  | c :: l, a, hd, hv => by
    have hc := of_decide_eq_true (hd c (by simp))
    have h1 := dst_ge l (dst a c)
    rw [List.foldl_cons] at hv
    have h2 : dst a c = a * 10 + (c.toNat - 48) := rfl
    simp only [Lib.parseUint10]
    rw [if_pos hc, if_neg (by omega), if_neg (by omega)]
    exact pu_ok l _ (fun x hx => hd x (by simp [hx])) hv
theorem val_eq (l : List UInt8) : val l = l.foldl dst 0 := rfl
theorem dig_val {c : UInt8} (h : isDig c = true) : 48 ≤ c.toNat ∧ c.toNat ≤ 57 := of_decide_eq_true h
theorem at_ok {l : List UInt8} {v : Int} (hd : ∀ c ∈ l, isDig c = true) (h : Lib.atoiAll l = .ok v) : l ≠ [] ∧ v = (val l : Nat) := by
  cases l with
  | nil => cases h
  | cons c r =>
    have hc := dig_val (hd c (by simp))
    refine ⟨by simp, ?_⟩
    rw [Lib.atoiAll_plain c r (by omega) (by omega)] at h
    rcases hp : Lib.parseMag (c :: r) with u | _ | _
    rotate_left
    · rw [hp] at h; cases h
    · rw [hp] at h; cases h
    · have hu : u = val (c :: r) := by
        unfold Lib.parseMag at hp
        rw [if_neg (by simp)] at hp
        exact pu_eq _ _ _ hp
      rw [hp] at h
      unfold Lib.signless at h
      dsimp only at h
      split at h
      · cases h
      · injection h with h
        rw [← h, hu]
theorem at_dec {l : List UInt8} (h0 : l ≠ []) (hd : ∀ c ∈ l, isDig c = true) (hv : val l < 9223372036854775808) : Lib.atoiAll l = .ok ((val l : Nat) : Int) := by
  cases l with
  | nil => exact absurd rfl h0
  | cons c r =>
    have hc := dig_val (hd c (by simp))
    rw [Lib.atoiAll_plain c r (by omega) (by omega)]
    have hp : Lib.parseMag (c :: r) = .ok (val (c :: r)) := by
      unfold Lib.parseMag
      rw [if_neg (by simp)]
      exact pu_ok _ _ hd hv
    rw [hp]
    unfold Lib.signless
    dsimp only
    rw [if_neg (by omega)]
/-- Digits without a leading zero are the plain numeral of what they are worth. -/
theorem dec_val : ∀ (l : List UInt8), l ≠ [] → (∀ c ∈ l, isDig c = true) → l.head? ≠ some 48 → Lib.decDigits (val l) = l ∧ 1 ≤ val l := by
  intro l
  induction hn : l.length generalizing l with
  | zero => intro h; exact absurd (List.length_eq_zero_iff.1 hn) h
  | succ n ih =>
    intro h0 hd hz
    obtain ⟨m, c, rfl⟩ : ∃ m c, l = m ++ [c] := ⟨l.dropLast, l.getLast h0, (List.dropLast_concat_getLast h0).symm⟩
    have hc := dig_val (hd c (by simp))
    have hb : (UInt8.ofNat (48 + (c.toNat - 48))) = c := by
      rw [show 48 + (c.toNat - 48) = c.toNat by omega]; simp
    rw [val_snoc]
    by_cases hm : m = []
    · subst hm
      have e : val ([] : List UInt8) = 0 := rfl
      have hc0 : c ≠ 48 := by simpa using hz
      have hc1 : c.toNat ≠ 48 := fun e => hc0 (UInt8.toNat_inj.1 e)
      rw [e, show 0 * 10 + (c.toNat - 48) = c.toNat - 48 by omega, dec_one (by omega), hb]
      exact ⟨rfl, by omega⟩
    · have hz' : m.head? ≠ some 48 := by
        intro e; apply hz
        cases m with
        | nil => exact absurd rfl hm
        | cons a m => simpa using e
      obtain ⟨i1, i2⟩ := ih m (by simpa using hn) hm (fun x hx => hd x (by simp [hx])) hz'
      refine ⟨?_, by omega⟩
      rw [dec_more (by omega), show (val m * 10 + (c.toNat - 48)) / 10 = val m by omega, i1, show (val m * 10 + (c.toNat - 48)) % 10 = c.toNat - 48 by omega, hb]

/-! ### The scan -/
/-- A word that is wanted: what remains, and whether the scan has failed. -/
def litS (t : List UInt8) (s : List UInt8 × Bool) : List UInt8 × Bool := if t.isPrefixOf s.1 = true then (s.1.drop t.length, s.2) else (s.1, true)
/-- A number that is wanted: 0 where none stands there. -/
def rdN (l : List UInt8) : Option Int := match Lib.atoiAll (dgs l) with
  | .ok v => if [48].isPrefixOf (dgs l) = true then none else some v
  | _ => none
def numV (l : List UInt8) : Int := (rdN l).getD 0
def numS (s : List UInt8 × Bool) : List UInt8 × Bool := (dgR s.1, s.2 || (rdN s.1).isNone)
theorem rd_some {l : List UInt8} {v : Int} (h : rdN l = some v) : ∃ n : Nat, v = n ∧ 1 ≤ n ∧ l = Lib.decDigits n ++ dgR l := by
  unfold rdN at h
  rcases ha : Lib.atoiAll (dgs l) with u | _ | _
  rotate_left
  · rw [ha] at h; cases h
  · rw [ha] at h; cases h
  · rw [ha] at h
    dsimp only at h
    split at h
    · cases h
    · rename_i hz
      injection h with h
      subst h
      obtain ⟨h0, hv⟩ := at_ok (dgs_dig l) ha
      have hz' : (dgs l).head? ≠ some 48 := by
        intro e
        apply hz
        cases hd : dgs l with
        | nil => exact absurd hd h0
        | cons a m =>
          rw [hd] at e
          have : a = 48 := by simpa using e
          subst this
          rfl
      obtain ⟨e1, e2⟩ := dec_val _ h0 (dgs_dig l) hz'
      exact ⟨_, hv, e2, by rw [e1]; exact (dgs_app l).symm⟩
theorem dec_isDig (n : Nat) : ∀ c ∈ Lib.decDigits n, isDig c = true := fun c hc => decide_eq_true (dec_digit n c hc)
theorem dec_head {n : Nat} (h : 1 ≤ n) : ∀ r, Lib.decDigits n ≠ 48 :: r := by
  induction n using Nat.strongRecOn with
  | _ n ih =>
    intro r e
    by_cases h1 : n < 10
    · rw [dec_one h1] at e
      simp only [List.cons.injEq] at e
      have := congrArg UInt8.toNat e.1
      rw [ofNat_toNat (by omega)] at this
      have : (48 + n) = 48 := this
      omega
    · rw [dec_more h1] at e
      cases hd : Lib.decDigits (n / 10) with
      | nil => exact dec_ne_nil _ hd
      | cons a m =>
        rw [hd] at e
        simp only [List.cons_append, List.cons.injEq] at e
        obtain ⟨rfl, -⟩ := e
        exact ih (n / 10) (by omega) (by omega) m hd
theorem dgs_of {n : Nat} {t : List UInt8} (ht : t.takeWhile isDig = []) : dgs (Lib.decDigits n ++ t) = Lib.decDigits n := by
  unfold dgs
  rw [List.takeWhile_append_of_pos (dec_isDig n), ht, List.append_nil]
theorem rd_dec {n : Nat} {t : List UInt8} (h1 : 1 ≤ n) (h2 : n < 9223372036854775808) (ht : t.takeWhile isDig = []) : rdN (Lib.decDigits n ++ t) = some (n : Int) ∧ dgR (Lib.decDigits n ++ t) = t := by
  have e := dgs_of (n := n) ht
  constructor
  · unfold rdN
    rw [e, at_dec (dec_ne_nil n) (dec_isDig n) (by rw [val_dec]; exact h2), val_dec]
    dsimp only
    rw [if_neg]
    intro hp
    cases hd : Lib.decDigits n with
    | nil => exact dec_ne_nil n hd
    | cons a m =>
      rw [hd] at hp
      have : (48 == a) = true := by simpa [List.isPrefixOf] using hp
      have : 48 = a := by simpa using this
      subst this
      exact dec_head h1 m hd
  · have := dgs_app (Lib.decDigits n ++ t)
    rw [e] at this
    exact List.append_cancel_left this
theorem litS_true (t : List UInt8) (l : List UInt8) : (litS t (l, true)).2 = true := by unfold litS; split <;> rfl
theorem litS_ok {t : List UInt8} {s : List UInt8 × Bool} (h : (litS t s).2 = false) : s.2 = false ∧ s.1 = t ++ (litS t s).1 := by
  unfold litS at h ⊢
  split at h
  · rename_i hp
    rw [if_pos hp]
    refine ⟨h, ?_⟩
    obtain ⟨r, hr⟩ := List.isPrefixOf_iff_prefix.1 hp
    rw [← hr, List.drop_left]
  · cases h
theorem litS_app (t r : List UInt8) (f : Bool) : litS t (t ++ r, f) = (r, f) := by
  unfold litS
  rw [if_pos (List.isPrefixOf_iff_prefix.2 ⟨r, rfl⟩), List.drop_left]
theorem numS_ok {s : List UInt8 × Bool} (h : (numS s).2 = false) : s.2 = false ∧ ∃ n : Nat, numV s.1 = n ∧ s.1 = Lib.decDigits n ++ (numS s).1 := by
  unfold numS at h ⊢
  simp only [Bool.or_eq_false_iff] at h
  refine ⟨h.1, ?_⟩
  cases hr : rdN s.1 with
  | none => rw [hr] at h; cases h.2
  | some v =>
    obtain ⟨n, hn, -, he⟩ := rd_some hr
    exact ⟨n, by rw [numV, hr]; exact hn, he⟩
def gapW : List UInt8 := [32]
def kwS : List UInt8 := [116, 97, 115, 107, 32]
/-- The states of the scan. -/
def sc1 (l : List UInt8) := litS kwS (l, false)
def sc2 (l : List UInt8) := litS gapW (numS (sc1 l))
def sc3 (l : List UInt8) := litS gapW (numS (sc2 l))
def scE (l : List UInt8) : Bool := (numS (sc3 l)).2 || (numS (sc3 l)).1 != []
def scC (l : List UInt8) : Int := numV (sc1 l).1
def scD (l : List UInt8) : Int := numV (sc2 l).1
def scP (l : List UInt8) : Int := numV (sc3 l).1
theorem scan_good {l : List UInt8} (h : scE l = false) (hv : tvB (scC l) (scD l) (scP l) = true) : IsT l (scC l) (scD l) (scP l) := by
  refine ⟨hv, ?_⟩
  unfold scE at h
  rw [Bool.or_eq_false_iff] at h
  obtain ⟨h1, h2⟩ := h
  have h2 : (numS (sc3 l)).1 = [] := by simpa using h2
  obtain ⟨k3, p, ep, lp⟩ := numS_ok h1
  obtain ⟨m3, q3⟩ := litS_ok (s := numS (sc2 l)) k3
  obtain ⟨k2, d, ed, ld⟩ := numS_ok m3
  obtain ⟨m2, q2⟩ := litS_ok (s := numS (sc1 l)) k2
  obtain ⟨k1, c, ec, lc⟩ := numS_ok m2
  obtain ⟨m1, q1⟩ := litS_ok (s := (l, false)) k1
  have e1 : scC l = c := ec
  have e2 : scD l = d := ed
  have e3 : scP l = p := ep
  rw [e1, e2, e3] at hv ⊢
  rw [fmtL, if_pos hv]
  simp only [Int.toNat_natCast]
  have z1 : l = kwS ++ (sc1 l).1 := q1
  rw [lc, q2] at z1
  have z2 : (litS gapW (numS (sc1 l))).1 = (sc2 l).1 := rfl
  rw [z2, ld, q3] at z1
  have z3 : (litS gapW (numS (sc2 l))).1 = (sc3 l).1 := rfl
  rw [z3, lp, h2] at z1
  rw [z1, fmtT]
  simp [kwS, kwT, gapW]
theorem scan_isT {l : List UInt8} {c d p : Int} (h : IsT l c d p) : scE l = false ∧ scC l = c ∧ scD l = d ∧ scP l = p := by
  obtain ⟨hv, e⟩ := h
  rw [fmtL, if_pos hv] at e
  obtain ⟨x, y, z, rfl, rfl, rfl, h1, h2, h3, h4, h5⟩ := tvB_nat hv
  simp only [Int.toNat_natCast] at e
  have e' : l = kwS ++ (Lib.decDigits x ++ (gapW ++ (Lib.decDigits y ++ (gapW ++ (Lib.decDigits z ++ []))))) := by
    rw [e, fmtT]; simp [kwS, kwT, gapW]
  have hg : ∀ t : List UInt8, (gapW ++ t).takeWhile isDig = [] := fun t => rfl
  have r1 := rd_dec (n := x) (t := gapW ++ (Lib.decDigits y ++ (gapW ++ (Lib.decDigits z ++ [])))) h1 (by omega) (hg _)
  have r2 := rd_dec (n := y) (t := gapW ++ (Lib.decDigits z ++ [])) (by omega) (by omega) (hg _)
  have r3 := rd_dec (n := z) (t := []) (by omega) (by omega) rfl
  have a1 : sc1 l = (Lib.decDigits x ++ (gapW ++ (Lib.decDigits y ++ (gapW ++ (Lib.decDigits z ++ [])))), false) := by rw [sc1, e']; exact litS_app _ _ _
  have b1 : numS (sc1 l) = (gapW ++ (Lib.decDigits y ++ (gapW ++ (Lib.decDigits z ++ []))), false) := by rw [a1, numS]; rw [r1.1, r1.2]; rfl
  have a2 : sc2 l = (Lib.decDigits y ++ (gapW ++ (Lib.decDigits z ++ [])), false) := by rw [sc2, b1]; exact litS_app _ _ _
  have b2 : numS (sc2 l) = (gapW ++ (Lib.decDigits z ++ []), false) := by rw [a2, numS]; rw [r2.1, r2.2]; rfl
  have a3 : sc3 l = (Lib.decDigits z ++ [], false) := by rw [sc3, b2]; exact litS_app _ _ _
  have b3 : numS (sc3 l) = ([], false) := by rw [a3, numS]; rw [r3.1, r3.2]; rfl
  refine ⟨by rw [scE, b3]; rfl, ?_, ?_, ?_⟩
  · rw [scC, a1, numV]; rw [r1.1]; rfl
  · rw [scD, a2, numV]; rw [r2.1]; rfl
  · rw [scP, a3, numV]; rw [r3.1]; rfl
theorem scan_bad {l : List UInt8} (h : scE l = true ∨ tvB (scC l) (scD l) (scP l) = false) (c d p : Int) : ¬ IsT l c d p := fun i => by
  obtain ⟨e1, e2, e3, e4⟩ := scan_isT i
  rcases h with h | h
  · rw [e1] at h; cases h
  · rw [e2, e3, e4, i.1] at h; cases h

theorem litS_len (t : List UInt8) (s : List UInt8 × Bool) : (litS t s).1.length ≤ s.1.length := by
  unfold litS; split
  · simp
  · exact Nat.le_refl _
theorem numS_len (s : List UInt8 × Bool) : (numS s).1.length ≤ s.1.length := by
  have := congrArg List.length (dgs_app s.1)
  rw [List.length_append] at this
  show (dgR s.1).length ≤ _
  omega

end Go.Proofs.YtdgihkmiolnglaaGreatDoor
