/- Plain facts on the text format (no program): the format of a task, how a line falls into fields, which lines are formats of valid tasks. Conditions: those of each theorem. -/
import Derived.Test.YtdgihkmiolnglaaGreatDoorPlain
import Derived.Lib.ItoaNum
namespace Go.Proofs.YtdgihkmiolnglaaGreatDoor

/-! ### Strings as lists of bytes -/
def bs (l : List UInt8) : ByteArray := ⟨l.toArray⟩
def lst (s : ByteArray) : List UInt8 := s.data.toList
theorem bs_lst (s : ByteArray) : bs (lst s) = s := by cases s; simp [bs, lst]
theorem lst_bs (l : List UInt8) : lst (bs l) = l := by simp [bs, lst]
theorem bs_inj {l m : List UInt8} (h : bs l = bs m) : l = m := by rw [← lst_bs l, h, lst_bs]
theorem bs_eq_iff {l m : List UInt8} : bs l = bs m ↔ l = m := ⟨bs_inj, fun h => by rw [h]⟩
theorem bs_size (l : List UInt8) : (bs l).size = l.length := by show l.toArray.size = l.length; simp
theorem bs_append (l m : List UInt8) : bs l ++ bs m = bs (l ++ m) := by
  apply ByteArray.ext; simp [bs, ByteArray.data_append]
theorem lst_length (s : ByteArray) : (lst s).length = s.size := by show s.data.toList.length = s.data.size; simp

/-! ### Decimal numerals -/
theorem dec_one {n : Nat} (h : n < 10) : Lib.decDigits n = [UInt8.ofNat (48 + n)] := by rw [Lib.decDigits, dif_pos h]
theorem dec_more {n : Nat} (h : ¬ n < 10) : Lib.decDigits n = Lib.decDigits (n / 10) ++ [UInt8.ofNat (48 + n % 10)] := by rw [Lib.decDigits, dif_neg h]
theorem dec_len_small {n : Nat} (h : n < 100) : (Lib.decDigits n).length ≤ 2 := by
  by_cases h1 : n < 10
  · rw [dec_one h1]; simp
  · rw [dec_more h1, dec_one (by omega)]; simp
theorem dec_len_big : ∀ (k n : Nat), n < 10 ^ (k + 1) → (Lib.decDigits n).length ≤ k + 1
  | 0, n, h => by rw [dec_one (by simpa using h)]; simp
  | k + 1, n, h => by
    by_cases h1 : n < 10
    · rw [dec_one h1]; simp
    · rw [dec_more h1, List.length_append]
      have := dec_len_big k (n / 10) (by rw [Nat.pow_succ] at h; omega)
      simp only [List.length_cons, List.length_nil]; omega
theorem dec_ne_nil (n : Nat) : Lib.decDigits n ≠ [] := by
  by_cases h1 : n < 10
  · rw [dec_one h1]; simp
  · rw [dec_more h1]; simp
theorem ofNat_toNat {n : Nat} (h : n < 256) : (UInt8.ofNat n).toNat = n := by simp; omega
/-- Every byte of a numeral is a digit. -/
theorem dec_digit : ∀ (n : Nat) (c : UInt8), c ∈ Lib.decDigits n → 48 ≤ c.toNat ∧ c.toNat ≤ 57 := by
  intro n
  induction n using Nat.strongRecOn with
  | _ n ih =>
    intro c hc
    by_cases h1 : n < 10
    · rw [dec_one h1] at hc
      simp only [List.mem_singleton] at hc
      subst hc
      rw [ofNat_toNat (by omega)]; omega
    · rw [dec_more h1] at hc
      rcases List.mem_append.1 hc with h | h
      · exact ih (n / 10) (by omega) c h
      · simp only [List.mem_singleton] at h
        subst h
        rw [ofNat_toNat (by omega)]; omega
/-- What a row of digits is worth. -/
def val (l : List UInt8) : Nat := l.foldl (fun n c => n * 10 + (c.toNat - 48)) 0
theorem val_snoc (l : List UInt8) (c : UInt8) : val (l ++ [c]) = val l * 10 + (c.toNat - 48) := by simp [val, List.foldl_append]
theorem val_dec : ∀ (n : Nat), val (Lib.decDigits n) = n := by
  intro n
  induction n using Nat.strongRecOn with
  | _ n ih =>
    by_cases h1 : n < 10
    · rw [dec_one h1]
      show 0 * 10 + ((UInt8.ofNat (48 + n)).toNat - 48) = n
      rw [ofNat_toNat (by omega)]; omega
    · rw [dec_more h1, val_snoc, ih (n / 10) (by omega), ofNat_toNat (by omega)]; omega
theorem dec_inj {n m : Nat} (h : Lib.decDigits n = Lib.decDigits m) : n = m := by rw [← val_dec n, h, val_dec]

/-! ### The format of a task -/
def kwT : List UInt8 := [116, 97, 115, 107]
def fmtT (c d p : Nat) : List UInt8 := kwT ++ ([32] ++ Lib.decDigits c) ++ ([32] ++ Lib.decDigits d) ++ ([32] ++ Lib.decDigits p)
def fmtL (c d p : Int) : List UInt8 := if tvB c d p = true then fmtT c.toNat d.toNat p.toNat else []
theorem tvB_nat {c d p : Int} (h : tvB c d p = true) : ∃ x y z : Nat, c = x ∧ d = y ∧ p = z ∧ 1 ≤ x ∧ x ≤ 8 ∧ x ≤ y ∧ y ≤ z ∧ z ≤ 12 := by
  simp only [tvB, decide_eq_true_eq] at h
  exact ⟨c.toNat, d.toNat, p.toNat, by omega, by omega, by omega, by omega, by omega, by omega, by omega, by omega⟩
theorem fmtT_len {c d p : Nat} (h1 : c < 100) (h2 : d < 100) (h3 : p < 100) : (fmtT c d p).length ≤ 13 := by
  have := dec_len_small h1
  have := dec_len_small h2
  have := dec_len_small h3
  simp only [fmtT, kwT, List.length_append, List.length_cons, List.length_nil]; omega
theorem fmtL_len (c d p : Int) : (fmtL c d p).length ≤ 13 := by
  unfold fmtL
  split
  · rename_i h
    obtain ⟨x, y, z, rfl, rfl, rfl, h1, h2, h3, h4, h5⟩ := tvB_nat h
    exact fmtT_len (by omega) (by omega) (by omega)
  · simp

/-! ### Fields -/
abbrev Flds := List (List UInt8) × List UInt8
def fstep (s : Flds) (c : UInt8) : Flds := if c = 32 then (s.1 ++ [s.2], []) else (s.1, s.2 ++ [c])
/-- The fields that are done, and the one that is under way. -/
def flds (l : List UInt8) : Flds := l.foldl fstep ([], [])
theorem flds_snoc (l : List UInt8) (c : UInt8) : flds (l ++ [c]) = fstep (flds l) c := by simp [flds, List.foldl_append]
theorem flds_take {l : List UInt8} {i : Nat} (h : i < l.length) : flds (l.take (i + 1)) = fstep (flds (l.take i)) (l[i]'h) := by
  rw [List.take_succ_eq_append_getElem h, flds_snoc]
def fall (l : List UInt8) : List (List UInt8) := (flds l).1 ++ [(flds l).2]
def joined (s : Flds) : List UInt8 := (s.1.map fun w => w ++ [32]).flatten ++ s.2
theorem joined_step (s : Flds) (c : UInt8) : joined (fstep s c) = joined s ++ [c] := by
  unfold fstep joined
  split
  · rename_i h; subst h; simp [List.append_assoc]
  · simp [List.append_assoc]
theorem joined_foldl : ∀ (l : List UInt8) (s : Flds), joined (l.foldl fstep s) = joined s ++ l
  | [], s => by simp
  | c :: l, s => by rw [List.foldl_cons, joined_foldl l, joined_step]; simp
theorem joined_flds (l : List UInt8) : joined (flds l) = l := by
  unfold flds; rw [joined_foldl]; simp [joined]
theorem foldl_word : ∀ (w : List UInt8) (s : Flds), (∀ c ∈ w, c ≠ 32) → w.foldl fstep s = (s.1, s.2 ++ w)
  | [], s, _ => by simp
  | c :: w, s, h => by
    rw [List.foldl_cons, show fstep s c = (s.1, s.2 ++ [c]) from if_neg (h c (by simp)), foldl_word w _ (fun x hx => h x (by simp [hx]))]
    simp
theorem foldl_gap (w : List UInt8) (s : Flds) (h : ∀ c ∈ w, c ≠ 32) : ([32] ++ w).foldl fstep s = (s.1 ++ [s.2], w) := by
  rw [List.foldl_append]
  show w.foldl fstep (s.1 ++ [s.2], []) = _
  rw [foldl_word w _ h]; simp
theorem dec_no_sp (n : Nat) : ∀ c ∈ Lib.decDigits n, c ≠ 32 := by
  intro c hc e
  subst e
  have := dec_digit n _ hc
  simp at this
theorem flds_fmtT (c d p : Nat) : flds (fmtT c d p) = ([kwT, Lib.decDigits c, Lib.decDigits d], Lib.decDigits p) := by
  unfold flds fmtT
  rw [List.foldl_append (l' := [32] ++ Lib.decDigits p), List.foldl_append (l' := [32] ++ Lib.decDigits d), List.foldl_append (l' := [32] ++ Lib.decDigits c), foldl_word kwT _ (by decide), foldl_gap _ _ (dec_no_sp c), foldl_gap _ _ (dec_no_sp d), foldl_gap _ _ (dec_no_sp p)]
  simp
theorem fall_fmtT (c d p : Nat) : fall (fmtT c d p) = [kwT, Lib.decDigits c, Lib.decDigits d, Lib.decDigits p] := by
  rw [fall, flds_fmtT]; rfl
theorem fall_eq {l a b c d : List UInt8} (h : fall l = [a, b, c, d]) : l = a ++ ([32] ++ b) ++ ([32] ++ c) ++ ([32] ++ d) := by
  have e : flds l = ([a, b, c], d) := by
    unfold fall at h
    have h1 : (flds l).1 ++ [(flds l).2] = [a, b, c] ++ [d] := h
    have := List.append_inj' h1 rfl
    exact Prod.ext this.1 (by simpa using this.2)
  rw [← joined_flds l, e]
  simp [joined]
theorem fmtT_inj {c d p c' d' p' : Nat} (h : fmtT c d p = fmtT c' d' p') : c = c' ∧ d = d' ∧ p = p' := by
  have e := fall_fmtT c d p
  rw [h, fall_fmtT] at e
  simp only [List.cons.injEq, and_true, true_and] at e
  exact ⟨(dec_inj e.1).symm, (dec_inj e.2.1).symm, (dec_inj e.2.2).symm⟩
theorem flds_len (l : List UInt8) : (flds l).1.length ≤ l.length ∧ (flds l).2.length ≤ l.length := by
  have key : ∀ (l : List UInt8) (s : Flds), (l.foldl fstep s).1.length ≤ s.1.length + l.length ∧ (l.foldl fstep s).2.length ≤ s.2.length + l.length := by
    intro l
    induction l with
    | nil => intro s; simp
    | cons c l ih =>
      intro s
      have := ih (fstep s c)
      rw [List.foldl_cons]
      unfold fstep at this ⊢
      split at this <;> simp_all <;> omega
  simpa [flds] using key l ([], [])

/-! ### Which lines are formats -/
/-- The number that l10Num reads: -1 where the field is no plain numeral of one or two digits. -/
def num2 (w : List UInt8) : Int := if w.length = 0 ∨ 2 < w.length then -1 else if (w.all fun c => decide (48 ≤ c.toNat ∧ c.toNat ≤ 57)) = false then -1 else if Lib.decDigits (val w) = w then (val w : Nat) else -1
theorem num2_dec {n : Nat} (h : n < 100) : num2 (Lib.decDigits n) = n := by
  unfold num2
  have h1 := dec_len_small h
  have h2 : (Lib.decDigits n).length ≠ 0 := fun e => dec_ne_nil n (List.length_eq_zero_iff.1 e)
  rw [if_neg (by omega), if_neg, val_dec, if_pos rfl]
  rw [Bool.not_eq_false, List.all_eq_true]
  intro c hc
  exact decide_eq_true (dec_digit n c hc)
theorem num2_pos {w : List UInt8} {n : Nat} (h : num2 w = n) : Lib.decDigits n = w := by
  unfold num2 at h
  split at h
  · omega
  · split at h
    · omega
    · split at h
      · rename_i e
        rw [← e]; congr 1
        have : (val w : Nat) = n := by exact_mod_cast h
        omega
      · omega
/-- l is the format of a valid task. -/
def IsT (l : List UInt8) (c d p : Int) : Prop := tvB c d p = true ∧ l = fmtL c d p
theorem isT_inj {l : List UInt8} {c d p c' d' p' : Int} (h : IsT l c d p) (h' : IsT l c' d' p') : c = c' ∧ d = d' ∧ p = p' := by
  obtain ⟨v, e⟩ := h
  obtain ⟨v', e'⟩ := h'
  rw [e, fmtL, fmtL, if_pos v, if_pos v'] at e'
  have := fmtT_inj e'
  obtain ⟨x, y, z, rfl, rfl, rfl, -⟩ := tvB_nat v
  obtain ⟨x', y', z', rfl, rfl, rfl, -⟩ := tvB_nat v'
  simpa only [Int.toNat_natCast, Int.ofNat_inj] using this
theorem isT_fields {l a b c : List UInt8} (h : fall l = [kwT, a, b, c]) (hv : tvB (num2 a) (num2 b) (num2 c) = true) : IsT l (num2 a) (num2 b) (num2 c) := by
  obtain ⟨x, y, z, e1, e2, e3, -⟩ := tvB_nat hv
  refine ⟨hv, ?_⟩
  rw [fmtL, if_pos hv, fall_eq h, fmtT, e1, e2, e3]
  simp only [Int.toNat_natCast]
  rw [num2_pos e1, num2_pos e2, num2_pos e3]
theorem isT_fall {l : List UInt8} {c d p : Int} (h : IsT l c d p) : ∃ a b e, fall l = [kwT, a, b, e] ∧ num2 a = c ∧ num2 b = d ∧ num2 e = p ∧ l.length ≤ 13 := by
  obtain ⟨hv, e⟩ := h
  have hl : l.length ≤ 13 := by rw [e]; exact fmtL_len _ _ _
  rw [fmtL, if_pos hv] at e
  obtain ⟨x, y, z, rfl, rfl, rfl, h1, h2, h3, h4, h5⟩ := tvB_nat hv
  refine ⟨_, _, _, by rw [e]; exact fall_fmtT _ _ _, ?_, ?_, ?_, hl⟩ <;> simp only [Int.toNat_natCast] <;> exact num2_dec (by omega)

/-- What ParseTask returns: the task's numbers and true, or zeros and false. -/
def Parsed (l : List UInt8) (c d p : Int) (ok : Bool) : Prop := (ok = true ∧ IsT l c d p) ∨ (ok = false ∧ c = 0 ∧ d = 0 ∧ p = 0 ∧ ∀ c' d' p', ¬ IsT l c' d' p')
theorem Parsed.same {l : List UInt8} {c d p c' d' p' : Int} {ok ok' : Bool} (h : Parsed l c d p ok) (h' : Parsed l c' d' p' ok') : c = c' ∧ d = d' ∧ p = p' ∧ ok = ok' := by
  rcases h with ⟨rfl, i⟩ | ⟨rfl, rfl, rfl, rfl, n⟩ <;> rcases h' with ⟨rfl, i'⟩ | ⟨rfl, rfl, rfl, rfl, n'⟩
  · exact ⟨(isT_inj i i').1, (isT_inj i i').2.1, (isT_inj i i').2.2, rfl⟩
  · exact absurd i (n' _ _ _)
  · exact absurd i' (n _ _ _)
  · exact ⟨rfl, rfl, rfl, rfl⟩
theorem Parsed.ok {l : List UInt8} {c d p : Int} (h : Parsed l c d p true) : IsT l c d p := by
  rcases h with ⟨_, i⟩ | ⟨e, _⟩
  · exact i
  · cases e
theorem isT_not_of_len {l : List UInt8} (h : 20 < l.length) (c d p : Int) : ¬ IsT l c d p := fun i => by
  obtain ⟨_, _, _, _, _, _, _, hl⟩ := isT_fall i; omega
theorem isT_not_of_fields {l : List UInt8} (h : ∀ a b e, fall l ≠ [kwT, a, b, e]) (c d p : Int) : ¬ IsT l c d p := fun i => by
  obtain ⟨a, b, e, hf, _⟩ := isT_fall i; exact h a b e hf
theorem isT_not_of_tv {l a b e : List UInt8} (h : fall l = [kwT, a, b, e]) (hv : tvB (num2 a) (num2 b) (num2 e) = false) (c d p : Int) : ¬ IsT l c d p := fun i => by
  obtain ⟨a', b', e', hf, rfl, rfl, rfl, _⟩ := isT_fall i
  rw [h] at hf
  simp only [List.cons.injEq, and_true, true_and] at hf
  obtain ⟨rfl, rfl, rfl⟩ := hf
  rw [i.1] at hv
  cases hv

/-- The task that a line holds; none if the line is malformed. -/
noncomputable def prs (l : List UInt8) : Option T3 := open Classical in if h : ∃ t : T3, IsT l t.1 t.2.1 t.2.2 then some h.choose else none
theorem prs_some {l : List UInt8} {c d p : Int} (h : IsT l c d p) : prs l = some (c, d, p) := by
  unfold prs
  have hx : ∃ t : T3, IsT l t.1 t.2.1 t.2.2 := ⟨(c, d, p), h⟩
  rw [dif_pos hx]
  have e := isT_inj hx.choose_spec h
  congr 1
  exact Prod.ext e.1 (Prod.ext e.2.1 e.2.2)
theorem prs_none {l : List UInt8} (h : ∀ c d p, ¬ IsT l c d p) : prs l = none := by
  unfold prs
  rw [dif_neg]
  rintro ⟨t, ht⟩
  exact h _ _ _ ht
theorem prs_of {l : List UInt8} {t : T3} (h : prs l = some t) : IsT l t.1 t.2.1 t.2.2 := by
  unfold prs at h
  split at h
  · rename_i hx
    simp only [Option.some.injEq] at h
    subst h
    exact hx.choose_spec
  · cases h
theorem prs_not {l : List UInt8} (h : prs l = none) (c d p : Int) : ¬ IsT l c d p := fun i => by
  rw [prs_some i] at h; cases h
theorem Parsed.prs {l : List UInt8} {c d p : Int} {ok : Bool} (h : Parsed l c d p ok) : (ok = true ∧ prs l = some (c, d, p)) ∨ (ok = false ∧ c = 0 ∧ d = 0 ∧ p = 0 ∧ prs l = none) := by
  rcases h with ⟨rfl, i⟩ | ⟨rfl, rfl, rfl, rfl, n⟩
  · exact .inl ⟨rfl, prs_some i⟩
  · exact .inr ⟨rfl, rfl, rfl, rfl, prs_none n⟩

/-! ### The report -/
def lineW : List UInt8 := [108, 105, 110, 101, 32]
def manyW : List UInt8 := [116, 111, 111, 32, 109, 97, 110, 121, 32, 116, 97, 115, 107, 115]
def utilW : List UInt8 := [117, 116, 105, 108, 105, 122, 97, 116, 105, 111, 110, 32]
def feasW : List UInt8 := [101, 100, 102, 32, 102, 101, 97, 115, 105, 98, 108, 101]
def overW : List UInt8 := [101, 100, 102, 32, 111, 118, 101, 114, 108, 111, 97, 100, 32, 97, 116, 32]
def respW : List UInt8 := [114, 101, 115, 112, 111, 110, 115, 101]
def lateW : List UInt8 := [32, 108, 97, 116, 101]
def coreW : List UInt8 := [99, 111, 114, 101, 115, 32]
/-- One response time. -/
def tmL (x : Int) : List UInt8 := if x < 0 then lateW else [32] ++ Lib.decDigits x.toNat
def tmsL (f : Nat → Int) : Nat → List UInt8
  | 0 => []
  | k + 1 => tmsL f k ++ tmL (f k)
def edfL (at' : Int) : List UInt8 := if at' < 0 then feasW else overW ++ Lib.decDigits at'.toNat
/-- The four lines: utilization un/ud, first overload, response times, cores. -/
def four (un ud : Nat) (at' : Int) (n : Nat) (f : Nat → Int) (m : Nat) : List (List UInt8) :=
  [utilW ++ Lib.decDigits un ++ [47] ++ Lib.decDigits ud, edfL at', respW ++ tmsL f n, coreW ++ Lib.decDigits m]
theorem tmL_len {x : Int} (h : x < 10000) : (tmL x).length ≤ 5 := by
  unfold tmL
  split
  · decide
  · have := dec_len_big 3 x.toNat (by omega)
    simp only [List.length_append, List.length_cons, List.length_nil]; omega
theorem tmsL_len (f : Nat → Int) : ∀ (n : Nat), (∀ k, k < n → f k < 10000) → (tmsL f n).length ≤ 5 * n
  | 0, _ => by simp [tmsL]
  | n + 1, h => by
    have h1 := tmsL_len f n (fun k hk => h k (by omega))
    have h2 := tmL_len (h n (by omega))
    rw [tmsL, List.length_append]; omega
theorem tmsL_congr {f g : Nat → Int} : ∀ (n : Nat), (∀ k, k < n → f k = g k) → tmsL f n = tmsL g n
  | 0, _ => rfl
  | n + 1, h => by rw [tmsL, tmsL, tmsL_congr n (fun k hk => h k (by omega)), h n (by omega)]
/-- The number of the first malformed line of the first n, or n. -/
noncomputable def badN (ls : List (List UInt8)) : Nat := ls.findIdx fun l => (prs l).isNone
noncomputable def taskL (ls : List (List UInt8)) : List T3 := ls.filterMap prs
theorem bad_all {ls : List (List UInt8)} {i : Nat} (h : ∀ j (hj : j < ls.length), j < i → (prs (ls[j]'hj)).isNone = false) {hi : i < ls.length} (hb : prs (ls[i]'hi) = none) : badN ls = i := by
  unfold badN
  rw [List.findIdx_eq hi]
  exact ⟨by rw [hb]; rfl, fun j hj => h j (by omega) hj⟩
theorem bad_none {ls : List (List UInt8)} (h : ∀ j (hj : j < ls.length), (prs (ls[j]'hj)).isNone = false) : badN ls = ls.length := by
  unfold badN
  rw [List.findIdx_eq_length]
  intro x hx
  obtain ⟨j, hj, e⟩ := List.getElem_of_mem hx
  rw [← e]; exact h j hj
theorem taskL_take {ls : List (List UInt8)} {i : Nat} (hi : i < ls.length) {t : T3} (h : prs (ls[i]'hi) = some t) : taskL (ls.take (i + 1)) = taskL (ls.take i) ++ [t] := by
  unfold taskL
  rw [List.take_succ_eq_append_getElem hi, List.filterMap_append]
  simp [h]
theorem taskL_len_le (ls : List (List UInt8)) : (taskL ls).length ≤ ls.length := List.length_filterMap_le _ _
theorem taskL_len {ls : List (List UInt8)} (h : ∀ j (hj : j < ls.length), (prs (ls[j]'hj)).isNone = false) : (taskL ls).length = ls.length := by
  unfold taskL
  induction ls with
  | nil => rfl
  | cons l ls ih =>
    have h0 := h 0 (by simp)
    simp only [List.getElem_cons_zero] at h0
    obtain ⟨t, ht⟩ := Option.isSome_iff_exists.1 (show (prs l).isSome = true by cases hp : prs l <;> simp_all)
    rw [List.filterMap_cons_some ht, List.length_cons, ih, List.length_cons]
    intro j hj
    have := h (j + 1) (by simpa using hj)
    simpa using this
theorem taskL_valid (ls : List (List UInt8)) : ∀ t ∈ taskL ls, tvB t.1 t.2.1 t.2.2 = true := by
  intro t ht
  obtain ⟨l, _, e⟩ := List.mem_filterMap.1 ht
  exact (prs_of e).1

end Go.Proofs.YtdgihkmiolnglaaGreatDoor
