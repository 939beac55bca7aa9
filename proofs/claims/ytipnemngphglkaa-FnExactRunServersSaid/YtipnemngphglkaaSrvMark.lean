/- Marks, copies, comparisons of servers, requests and runs with servers, as the exact law of RunServers uses them. Conditions: the slices hold what is said; what is marked lies in blocks of its own. -/
import Derived.Test.YtipnemngphglkaaCopyS
import Derived.Test.YtipnemngphglkaaDrawRun5
import Derived.Test.YtipnemngphglkaaSrvSame
import Derived.Test.YtipnemngphglkaaMarkI
import Derived.Test.YtipnemngphglkaaFam
import Derived.Test.YtipnemngphglkaaMark
namespace Go.Proofs.Ytipnemngphglkaa
open Go.RowKit Go.Deep

/-- Only numbers in the blocks lo .. hi have turned. -/
structure Mk (lo hi : Nat) (w w' : World) : Prop where
  os : w'.os = w.os
  tape : w'.tape = w.tape
  output : w'.output = w.output
  size : w.heap.size ≤ w'.heap.size
  block : ∀ k, k < w.heap.size → (k < lo ∨ hi ≤ k) → w'.heap[k]? = w.heap[k]?
  num : ∀ g m v, w.cell? ⟨g, m, none⟩ = some v → ∃ v', w'.cell? ⟨g, m, none⟩ = some v' ∧ (v' = v ∨ ((∃ x, v = .int .i64 x) ∧ ∃ y, v' = .int .i64 y))
  fz : ∀ g m, g < w.heap.size → w.frozen? ⟨g, m, none⟩ = false → w'.frozen? ⟨g, m, none⟩ = false
variable {lo hi : Nat} {w w' w'' : World}
theorem Mk.refl (lo hi : Nat) (w : World) : Mk lo hi w w := ⟨rfl, rfl, rfl, Nat.le_refl _, fun _ _ _ => rfl, fun _ _ v h => ⟨v, h, .inl rfl⟩, fun _ _ _ h => h⟩
theorem Mk.trans (h : Mk lo hi w w') (k : Mk lo hi w' w'') : Mk lo hi w w'' :=
  ⟨k.os.trans h.os, k.tape.trans h.tape, k.output.trans h.output, Nat.le_trans h.size k.size, fun i h1 h2 => (k.block i (Nat.lt_of_lt_of_le h1 h.size) h2).trans (h.block i h1 h2), fun g m v hv => by
    obtain ⟨v1, h1, h2⟩ := h.num g m v hv
    obtain ⟨v2, h3, h4⟩ := k.num g m v1 h1
    refine ⟨v2, h3, ?_⟩
    rcases h2 with rfl | ⟨hx, hy⟩
    · exact h4
    · rcases h4 with rfl | ⟨_, hz⟩
      · exact .inr ⟨hx, hy⟩
      · exact .inr ⟨hx, hz⟩, fun g m hg hz => k.fz g m (Nat.lt_of_lt_of_le hg h.size) (h.fz g m hg hz)⟩
theorem Mk.of_below (h : Below w.heap.size w w') : Mk lo hi w w' :=
  ⟨h.os, h.tape, h.output, h.size, fun k hk _ => h.block k hk, fun g m v hv => ⟨v, (h.cell (p := ⟨g, m, none⟩) (World.block_lt_of_cell? w ⟨g, m, none⟩ hv)).trans hv, .inl rfl⟩, fun g m hg hz => (h.frozen (p := ⟨g, m, none⟩) hg).trans hz⟩
theorem Mk.below (h : Mk lo hi w w') : Below lo w w' ∨ w.heap.size < lo := by
  by_cases hs : lo ≤ w.heap.size
  · exact .inl ⟨h.os, h.tape, h.output, h.size, fun k hk => h.block k (by omega) (.inl hk)⟩
  · exact .inr (by omega)
theorem Mk.set {g m : Nat} {y : Int} (h : Mk lo hi w w') (h1 : lo ≤ g) (h2 : g < hi) (hc : ∃ x, w'.cell? ⟨g, m, none⟩ = some (.int .i64 x)) : Mk lo hi w (w'.setCell ⟨g, m, none⟩ (.int .i64 y)) := by
  refine h.trans ⟨rfl, rfl, rfl, by simp [World.setCell], fun k hk h3 => Below.heap_setCell w' ⟨g, m, none⟩ _ k (by rintro rfl; omega), fun g' m' v hv => ?_, fun g' m' _ hz => by simp [go_sem, hz]⟩
  obtain ⟨x, hx⟩ := hc
  by_cases e : g' = g ∧ m' = m
  · obtain ⟨rfl, rfl⟩ := e
    refine ⟨.int .i64 y, by simp [go_sem, hx], .inr ⟨⟨x, ?_⟩, ⟨y, rfl⟩⟩⟩
    rw [hx] at hv
    exact (Option.some.inj hv).symm
  · refine ⟨v, ?_, .inl rfl⟩
    rw [← hv]
    have hne : (⟨g', m', none⟩ : Addr) ≠ ⟨g, m, none⟩ := by
      intro he
      simp only [Addr.mk.injEq, and_true] at he
      exact e he
    exact World.cell?_setCell_other (h := Ne.symm hne) ..
/-- The first n cells hold numbers and may be written. -/
def Nums (lo hi : Nat) (w : World) (a : Option Addr) (n : Nat) : Prop := ∀ m, m < n → ∃ g, a = some ⟨g, 0, none⟩ ∧ lo ≤ g ∧ g < hi ∧ g < w.heap.size ∧ w.frozen? ⟨g, m, none⟩ = false ∧ ∃ x, w.cell? ⟨g, m, none⟩ = some (.int .i64 x)
theorem Nums.mk {a : Option Addr} {n lo' hi' : Nat} (h : Nums lo hi w a n) (k : Mk lo' hi' w w') : Nums lo hi w' a n := fun m hm => by
  obtain ⟨g, e, h1, h2, h3, h4, x, hx⟩ := h m hm
  obtain ⟨v', hv, h5⟩ := k.num g m _ hx
  refine ⟨g, e, h1, h2, Nat.lt_of_lt_of_le h3 k.size, k.fz g m h3 h4, ?_⟩
  rcases h5 with rfl | ⟨_, y, rfl⟩
  · exact ⟨x, hv⟩
  · exact ⟨y, hv⟩
theorem OwnF.nums {t : TypeId} {size base n cap : Nat} {a : Option Addr} {F : Nat → Value} (h : OwnF t size w base (.slice a n cap) n F) (hF : ∀ m, m < n * size → ∃ x, F m = .int .i64 x) (hb : lo ≤ base) (hh : w.heap.size ≤ hi) : Nums lo hi w a (n * size) := fun m hm => by
  have hn : 0 < n := by
    cases n with
    | zero => simp at hm
    | succ n => omega
  obtain ⟨g, c, e⟩ := h.has hn
  simp only [Value.slice.injEq] at e
  obtain ⟨rfl, -, rfl⟩ := e
  obtain ⟨q1, q2, -, q4, q5⟩ := h.at
  obtain ⟨x, hx⟩ := hF m hm
  exact ⟨g, rfl, by omega, by omega, q1, q4 m, x, by rw [q5 m hm, hx]⟩
theorem F2_num (l : List A2) (m : Nat) : ∃ x, F2 l m = .int .i64 x := by
  unfold F2
  split
  · exact ⟨_, rfl⟩
  · exact ⟨_, rfl⟩

set_option maxRecDepth 100000 in
/-- laws.markServerS. -/
theorem markServerS_any (a : Option Addr) (cap n k : Nat) (w : World) (h : Nums lo hi w a (n * 2)) (hn : n ≤ 1048576) (hk : k ≤ 100000000) :
    Calls Try.prog 52 #[.slice a n cap, .int .i64 (k : Int)] w fun e w' => e = .returned (.int .i64 ((k + 2 * n : Nat) : Int)) ∧ Mk lo hi w w' := by
  have HN := Lib.hid h
  clear h
  go_enter Try.func52, Try.ntmps52
  go_wp2
  go_loopg [1, 5] n (fun m s z wr => ∃ i : Nat, m + i = n ∧ s = .int .i64 ((k + 2 * i : Nat) : Int) ∧ z = .int .i64 i ∧ Mk lo hi w wr)
  case atStart => exact ⟨0, by omega, rfl, rfl, Mk.refl _ _ _⟩
  case round =>
    obtain ⟨i, hi', rfl, rfl, hM⟩ := hrel
    have HI := Lib.hid hi'
    have HM := Lib.hid hM
    have hii : i ≤ n := by omega
    obtain ⟨K, hK⟩ : ∃ K, K = k + 2 * i := ⟨_, rfl⟩
    rw [← hK]
    have hK2 : K ≤ 200000000 := by omega
    have HKK := Lib.hid hK
    clear hi' hM hK
    by_cases hlt : i < n
    · obtain ⟨g, rfl, g1, g2, g3, z0, x0, c0⟩ := (HN.out.mk HM.out) (i * 2) (by omega)
      obtain ⟨g', e', -, -, -, z1, x1, c1⟩ := (HN.out.mk HM.out) (i * 2 + 1) (by omega)
      simp only [Option.some.injEq, Addr.mk.injEq, and_true] at e'
      subst e'
      have hi0 : (0 : Int) ≤ i := by omega
      have hi1 : (i : Int) < n := by omega
      have M1 := Lib.hid (HM.out.set (y := (K : Int)) g1 g2 ⟨x0, c0⟩)
      have M2 := Lib.hid (M1.out.set (m := i * 2 + 1) (y := (K : Int) + 1) g1 g2 ⟨x1, by simp [go_sem, c1]⟩)
      go_wp2
      go_roundg (gk - 1)
      case measure => have := HI.out; omega
      case rel => exact ⟨i + 1, by have := HI.out; omega, by rw [show k + 2 * (i + 1) = K + 1 + 1 by rw [HKK.out]; omega]; go_num, by go_num, M2.out⟩
    · obtain rfl : i = n := by omega
      go_wp2
      go_ret
      exact ⟨by rw [HKK.out]; rfl, HM.out⟩

set_option maxRecDepth 100000 in
/-- laws.markArrivalS. -/
theorem markArrivalS_any (a : Option Addr) (cap n k : Nat) (w : World) (h : Nums lo hi w a (n * 2)) (hn : n ≤ 1048576) (hk : k ≤ 100000000) :
    Calls Try.prog 104 #[.slice a n cap, .int .i64 (k : Int)] w fun e w' => e = .returned (.int .i64 ((k + 2 * n : Nat) : Int)) ∧ Mk lo hi w w' := by
  have HN := Lib.hid h
  clear h
  go_enter Try.func104, Try.ntmps104
  go_wp2
  go_loopg [1, 5] n (fun m s z wr => ∃ i : Nat, m + i = n ∧ s = .int .i64 ((k + 2 * i : Nat) : Int) ∧ z = .int .i64 i ∧ Mk lo hi w wr)
  case atStart => exact ⟨0, by omega, rfl, rfl, Mk.refl _ _ _⟩
  case round =>
    obtain ⟨i, hi', rfl, rfl, hM⟩ := hrel
    have HI := Lib.hid hi'
    have HM := Lib.hid hM
    have hii : i ≤ n := by omega
    obtain ⟨K, hK⟩ : ∃ K, K = k + 2 * i := ⟨_, rfl⟩
    rw [← hK]
    have hK2 : K ≤ 200000000 := by omega
    have HKK := Lib.hid hK
    clear hi' hM hK
    by_cases hlt : i < n
    · obtain ⟨g, rfl, g1, g2, g3, z0, x0, c0⟩ := (HN.out.mk HM.out) (i * 2) (by omega)
      obtain ⟨g', e', -, -, -, z1, x1, c1⟩ := (HN.out.mk HM.out) (i * 2 + 1) (by omega)
      simp only [Option.some.injEq, Addr.mk.injEq, and_true] at e'
      subst e'
      have hi0 : (0 : Int) ≤ i := by omega
      have hi1 : (i : Int) < n := by omega
      have M1 := Lib.hid (HM.out.set (y := (K : Int)) g1 g2 ⟨x0, c0⟩)
      have M2 := Lib.hid (M1.out.set (m := i * 2 + 1) (y := (K : Int) + 1) g1 g2 ⟨x1, by simp [go_sem, c1]⟩)
      go_wp2
      go_roundg (gk - 1)
      case measure => have := HI.out; omega
      case rel => exact ⟨i + 1, by have := HI.out; omega, by rw [show k + 2 * (i + 1) = K + 1 + 1 by rw [HKK.out]; omega]; go_num, by go_num, M2.out⟩
    · obtain rfl : i = n := by omega
      go_wp2
      go_ret
      exact ⟨by rw [HKK.out]; rfl, HM.out⟩

/-- How many numbers slices of requests hold. -/
def tot (als : List (List A2)) : Nat → Nat
  | 0 => 0
  | i + 1 => tot als i + (als.getD i []).length
theorem tot_mono (als : List (List A2)) {i j : Nat} (h : i ≤ j) : tot als i ≤ tot als j := by
  induction j with
  | zero => obtain rfl : i = 0 := by omega
            exact Nat.le_refl _
  | succ j ih =>
    by_cases e : i = j + 1
    · subst e; exact Nat.le_refl _
    · have := ih (by omega)
      show tot als i ≤ tot als j + _
      omega
/-- The copy's rows, to be marked. -/
def NumsS (lo hi : Nat) (w : World) (a : Option Addr) (als : List (List A2)) : Prop := ∀ k, k < als.length → ∃ b off ad cap, a = some ⟨b, off, none⟩ ∧ b < w.heap.size ∧ w.cell? ⟨b, off + k, none⟩ = some (.slice ad (als.getD k []).length cap) ∧ Nums lo hi w ad ((als.getD k []).length * 2)
theorem NumsS.mk {a : Option Addr} {als : List (List A2)} {lo' hi' : Nat} (h : NumsS lo hi w a als) (k : Mk lo' hi' w w') : NumsS lo hi w' a als := fun i hi => by
  obtain ⟨b, off, ad, cap, e, h1, h2, h3⟩ := h i hi
  obtain ⟨v', hv, h5⟩ := k.num b (off + i) _ h2
  refine ⟨b, off, ad, cap, e, Nat.lt_of_lt_of_le h1 k.size, ?_, h3.mk k⟩
  rcases h5 with rfl | ⟨⟨x, hx⟩, _⟩
  · exact hv
  · exact absurd hx (by simp)

set_option maxRecDepth 100000 in
/-- laws.markArrivalSS. -/
theorem markArrivalSS_any (a : Option Addr) (cap k : Nat) (als : List (List A2)) (w : World) (h : NumsS lo hi w a als) (ht : tot als als.length ≤ 1048576) (hn : als.length ≤ 1048576) (hk : k ≤ 10000000) :
    Calls Try.prog 53 #[.slice a als.length cap, .int .i64 (k : Int)] w fun e w' => e = .returned (.int .i64 ((k + 2 * tot als als.length : Nat) : Int)) ∧ Mk lo hi w w' := by
  have HN := Lib.hid h
  clear h
  go_enter Try.func53, Try.ntmps53
  go_wp2
  go_loopg [1, 5] als.length (fun m s z wr => ∃ i : Nat, m + i = als.length ∧ s = .int .i64 ((k + 2 * tot als i : Nat) : Int) ∧ z = .int .i64 i ∧ Mk lo hi w wr)
  case atStart => exact ⟨0, by omega, rfl, rfl, Mk.refl _ _ _⟩
  case round =>
    obtain ⟨i, hi', rfl, rfl, hM⟩ := hrel
    have HI := Lib.hid hi'
    have HM := Lib.hid hM
    have hii : i ≤ als.length := by omega
    have htm := tot_mono als hii
    obtain ⟨K, hK⟩ : ∃ K, K = k + 2 * tot als i := ⟨_, rfl⟩
    rw [← hK]
    have hK2 : K ≤ 20000000 := by omega
    have HKK := Lib.hid hK
    clear hi' hM hK
    by_cases hlt : i < als.length
    · obtain ⟨b, off, ad, dcap, rfl, hb, c0, hnu⟩ := (HN.out.mk HM.out) i hlt
      obtain ⟨N, hN⟩ : ∃ N, N = (als.getD i []).length := ⟨_, rfl⟩
      have htn : tot als i + N ≤ 1048576 := by
        have h1 := tot_mono als (show i + 1 ≤ als.length by omega)
        have h2 : tot als (i + 1) = tot als i + N := by rw [hN]; rfl
        omega
      rw [← hN] at c0 hnu
      have HNU := Lib.hid hnu
      have HNN := Lib.hid hN
      have hi0 : (0 : Int) ≤ i := by omega
      have hi1 : (i : Int) < als.length := by omega
      clear hnu hN
      go_wp2_with fail
      refine (markArrivalS_any ad dcap N K _ HNU.out (by omega) (by omega)).mono ?_
      rintro e w1 ⟨rfl, m1⟩
      have M1 := Lib.hid (HM.out.trans m1)
      clear m1
      go_wp2
      go_roundg (gk - 1)
      case measure => have := HI.out; omega
      case rel => exact ⟨i + 1, by have := HI.out; omega, by rw [show k + 2 * tot als (i + 1) = K + 2 * N by rw [HKK.out, HNN.out]; show k + 2 * (tot als i + _) = _; omega]; go_num, by go_num, M1.out⟩
    · obtain rfl : i = als.length := by omega
      go_wp2
      go_ret
      exact ⟨by rw [HKK.out]; rfl, HM.out⟩

end Go.Proofs.Ytipnemngphglkaa

namespace Go.Proofs.Ytipnemngphglkaa
open Go.RowKit Go.Deep

set_option maxRecDepth 100000 in
/-- laws.szArrivalSS. -/
theorem szArrivalSS_any (a : Option Addr) (cap : Nat) (als : List (List A2)) (n : Nat) (w : World) (h : RowSS w a als) (hm : als.length ≤ maxLen) (hl : ∀ k, (als.getD k []).length ≤ maxLen) (hn : n ≤ 1048576) :
    Calls Try.prog 44 #[.slice a als.length cap, .int .i64 (n : Int)] w fun e w' =>
      (e = .returned (.int .i64 (-1)) ∨ ∃ q : Nat, q + als.length + tot als als.length = n ∧ e = .returned (.int .i64 (q : Int))) ∧ w = w' := by
  have HR := Lib.hid h
  have HL := Lib.hid hl
  clear h hl
  unfold maxLen at hm
  by_cases h1 : als.length ≤ n
  · have h' : ¬ (n : Int) - als.length < 0 := by omega
    go_enter Try.func44, Try.ntmps44
    go_wp2
    go_loopg [1, 5] als.length (fun m s z wr => ∃ i q : Nat, m + i = als.length ∧ q + als.length + tot als i = n ∧ s = .int .i64 (q : Int) ∧ z = .int .i64 i ∧ w = wr)
    case atStart => exact ⟨0, n - als.length, by omega, by show _ + 0 = _; omega, by congr 1; omega, rfl, rfl⟩
    case round =>
      obtain ⟨i, q, hi', hq, rfl, rfl, rfl⟩ := hrel
      have HI := Lib.hid hi'
      have HQ := Lib.hid hq
      have hii : i ≤ als.length := by omega
      have hqq : q ≤ 1048576 := by omega
      clear hi' hq h'
      by_cases hlt : i < als.length
      · obtain ⟨b, off, ad, dcap, rfl, hb, c0, -, -⟩ := HR.out i hlt
        obtain ⟨N, hN⟩ : ∃ N, N = (als.getD i []).length := ⟨_, rfl⟩
        have hN2 : N ≤ maxLen := by rw [hN]; exact HL.out i
        rw [← hN] at c0
        have HNN := Lib.hid hN
        have hi0 : (0 : Int) ≤ i := by omega
        have hi1 : (i : Int) < als.length := by omega
        clear hN
        by_cases hle : N ≤ q
        · have h'' : ¬ (q : Int) - N < 0 := by omega
          go_wp2_with fail
          refine (szArrivalS_small ad N dcap q _ (by omega) (by omega)).mono ?_
          rintro e w1 ⟨rfl, rfl⟩
          go_wp2
          go_roundg (gk - 1)
          case measure => have := HI.out; omega
          case rel => exact ⟨i + 1, q - N, by have := HI.out; omega, by have := HQ.out; rw [show tot als (i + 1) = tot als i + N by rw [HNN.out]; rfl]; omega, by congr 1; omega, by go_num, rfl⟩
        · go_wp2_with fail
          refine (szArrivalS_big ad N dcap q _ (by omega) (by omega) (by omega) hN2).mono ?_
          rintro e w1 ⟨rfl, rfl⟩
          go_wp2
          go_ret
          exact ⟨.inl rfl, rfl⟩
      · obtain rfl : i = als.length := by omega
        go_wp2
        go_ret
        exact ⟨.inr ⟨q, HQ.out, rfl⟩, rfl⟩
  · have h' : (n : Int) - als.length < 0 := by omega
    go_enter Try.func44, Try.ntmps44
    go_wp2
    go_ret
    exact ⟨.inl rfl, rfl⟩

set_option maxRecDepth 100000 in
/-- laws.eqArrivalSS, of two that hold the same. -/
theorem eqArrivalSS_same (a a' : Option Addr) (cap cap' : Nat) (als : List (List A2)) (w : World) (hr : RowSS w a als) (hr' : RowSS w a' als) (hn : als.length ≤ 1099511627776) (hl : ∀ k, (als.getD k []).length ≤ 1099511627776) :
    Calls Try.prog 49 #[.slice a als.length cap, .slice a' als.length cap'] w fun e w' => e = .returned (.bool true) ∧ Below w.heap.size w w' := by
  have HR := Lib.hid (And.intro hr hr')
  have HL := Lib.hid hl
  clear hr hr' hl
  go_enter Try.func49, Try.ntmps49
  go_wp2
  go_loopg [5] als.length (fun n i wr => ∃ k : Nat, n + k = als.length ∧ i = .int .i64 k ∧ Below w.heap.size w wr)
  case atStart => exact ⟨0, rfl, rfl, Below.refl _ _⟩
  case round =>
    obtain ⟨k, hk, rfl, hb⟩ := hrel
    have HK := Lib.hid hk
    have HB := Lib.hid hb
    have hkk : k ≤ als.length := by omega
    clear hk hb
    by_cases hlt : k < als.length
    · obtain ⟨b, off, ia, ic, ea, -, c0, -, r0⟩ := (HR.out.1.below HB.out) k hlt
      subst ea
      obtain ⟨b', off', ia', ic', ea, -, d0, -, r1⟩ := (HR.out.2.below HB.out) k hlt
      subst ea
      obtain ⟨L, hL⟩ : ∃ L, L = als.getD k [] := ⟨_, rfl⟩
      have hL2 : L.length ≤ 1099511627776 := by rw [hL]; exact HL.out k
      rw [← hL] at c0 d0 r0 r1
      have HRR := Lib.hid (And.intro (r0.below (below_drewN wr 1)) (r1.below (below_drewN wr 1)))
      have hk0 : (0 : Int) ≤ k := by omega
      have hk1 : (k : Int) < als.length := by omega
      clear hL r0 r1
      go_wp2
      refine wp_region_still_tail 8 (by kernel_rfl) (by kernel_rfl) ?_
      simp only [List.take_succ_cons, List.take_zero, List.drop_succ_cons, List.drop_zero]
      change wpStill _ _ wr.drew (fun a' => wpList _ _ _ _ a' wr.drew) _ _
      iterate 8 still_step
      refine wpStill_nil ?_
      go_wp2_with fail
      refine (eqArrivalS_same ia ia' ic ic' L _ HRR.out.1 HRR.out.2 hL2).mono ?_
      rintro e w1 ⟨rfl, b1⟩
      have HB1 := Lib.hid (HB.out.drew.trans (b1.mono HB.out.size))
      clear b1
      go_wp2
      go_roundg (gk - 1)
      case measure => have := HK.out; omega
      case rel => exact ⟨k + 1, by have := HK.out; omega, by go_num, HB1.out⟩
    · obtain rfl : k = als.length := by omega
      go_wp2
      go_ret
      exact ⟨rfl, HB.out⟩

/-- A slice of nil slices, as it is made. -/
theorem own_madeN (t : TypeId) (w : World) (n : Nat) (hn : n ≤ 1099511627776) : OwnF t 1 (w.alloc (.cells (madeCells #[.slice none 0 0] n) t)) w.heap.size (.slice (some ⟨w.heap.size, 0, none⟩) n n) n (fun _ => .slice none 0 0) := by
  refine ⟨by rw [vF_len], .inr ⟨w.heap.size, n, madeCells #[.slice none 0 0] n, rfl, Nat.le_refl _, blk_alloc_new _ _, Nat.le_refl _, by unfold maxLen; omega, by rw [size_madeCells]; omega, ?_⟩⟩
  apply List.ext_getElem?
  intro j
  by_cases hj : j < n * 1
  · have hj' : j < n := by omega
    rw [vF_at _ hj, List.getElem?_take_of_lt hj, Array.getElem?_toList]
    simp [madeCells, hj', Nat.mod_one]
  · rw [List.getElem?_eq_none_iff.2 (show (List.take (n * 1) (madeCells #[.slice none 0 0] n).toList).length ≤ j by simp [size_madeCells]; omega), List.getElem?_eq_none_iff.2 (show (vF (fun _ => Value.slice none 0 0) (n * 1)).length ≤ j by rw [vF_len]; omega)]

theorem infoArrivalS : (Try.prog.info? 30).map (fun i => (i.zero, i.size, i.bytes)) = some (some (.slice none 0 0), 1, 24) := by kernel_rfl
theorem run_makeArrivalS (n : Nat) (hn : n ≤ 1099511627776) (w : World) :
    (Instr.makeSlice 44 (.int .i64 (n : Int)) (.int .i64 (n : Int))).run Try.prog w = .ok (.slice (some ⟨w.heap.size, 0, none⟩) n n) (w.alloc (.cells (madeCells #[.slice none 0 0] n) 30)) := by
  obtain ⟨i, hi, hz, hs, hb⟩ := info_parts infoArrivalS
  have h := run_make (P := Try.prog) w 44 30 i _ Try.underlying44 hi hz .i64 .i64 (n : Int) (n : Int) (by omega) (by omega) (by rw [hb]; omega) (by omega)
  rw [hs] at h
  simpa [Value.cells] using h

/-- The first k rows of a copy are made: the outer slice in block b, the rows behind it. -/
def SSup (b : Nat) (als : List (List A2)) (k : Nat) (W : World) : Prop := ∃ F, OwnF 30 1 W b (.slice (some ⟨b, 0, none⟩) als.length als.length) als.length F ∧ ∀ j, j < k → ∃ g, F j = .slice (some ⟨g, 0, none⟩) (als.getD j []).length (als.getD j []).length ∧ OwnF 34 2 W (b + 1) (F j) (als.getD j []).length (F2 (als.getD j []))
theorem SSup.below {b k : Nat} {als : List (List A2)} {W W' : World} (h : SSup b als k W) (hb : Below W.heap.size W W') : SSup b als k W' := by
  obtain ⟨F, h1, h2⟩ := h
  exact ⟨F, h1.below hb, fun j hj => by obtain ⟨g, e, o⟩ := h2 j hj; exact ⟨g, e, o.below hb⟩⟩
theorem SSup.set {b k g : Nat} {als : List (List A2)} {W : World} (h : SSup b als k W) (hk : k < als.length) (ho : OwnF 34 2 W (b + 1) (.slice (some ⟨g, 0, none⟩) (als.getD k []).length (als.getD k []).length) (als.getD k []).length (F2 (als.getD k []))) :
    SSup b als (k + 1) (W.setCell ⟨b, k, none⟩ (.slice (some ⟨g, 0, none⟩) (als.getD k []).length (als.getD k []).length)) := by
  obtain ⟨F, h1, h2⟩ := h
  refine ⟨_, h1.set (m := k) (by omega) _, fun j hj => ?_⟩
  by_cases e : j = k
  · subst e
    simp only [if_pos]
    exact ⟨g, rfl, ho.other (by simp only [Value.ownBlock, ne_eq, Option.some.injEq]; have := (ho.lt g rfl).1; omega) _⟩
  · obtain ⟨g', e', o'⟩ := h2 j (by omega)
    rw [if_neg e]
    refine ⟨g', e', o'.other (fun hh => ?_) _⟩
    have := (o'.lt _ hh).1
    simp only at this
    omega
theorem SSup.row {b : Nat} {als : List (List A2)} {W : World} (h : SSup b als als.length W) : RowSS W (some ⟨b, 0, none⟩) als := fun k hk => by
  obtain ⟨F, h1, h2⟩ := h
  obtain ⟨q1, -, -, -, q5⟩ := h1.at
  obtain ⟨g, e, o⟩ := h2 k hk
  rw [e] at o
  exact ⟨b, 0, some ⟨g, 0, none⟩, (als.getD k []).length, rfl, q1, by rw [Nat.zero_add, q5 k (by omega), e], Nat.le_refl _, o.row2⟩
theorem SSup.nums {b lo hi : Nat} {als : List (List A2)} {W : World} (h : SSup b als als.length W) (hl : lo ≤ b) (hh : W.heap.size ≤ hi) : NumsS lo hi W (some ⟨b, 0, none⟩) als := fun k hk => by
  obtain ⟨F, h1, h2⟩ := h
  obtain ⟨q1, -, -, -, q5⟩ := h1.at
  obtain ⟨g, e, o⟩ := h2 k hk
  rw [e] at o
  exact ⟨b, 0, some ⟨g, 0, none⟩, (als.getD k []).length, rfl, q1, by rw [Nat.zero_add, q5 k (by omega), e], o.nums (fun m _ => F2_num _ m) (by omega) hh⟩

set_option maxRecDepth 100000 in
/-- laws.toArrivalSS: a copy in new memory. -/
theorem toArrivalSS_any (a : Option Addr) (cap : Nat) (als : List (List A2)) (w : World) (hr : RowSS w a als) (hn : als.length ≤ 1099511627776) (hl : ∀ k, (als.getD k []).length ≤ 1099511627776) :
    Calls Try.prog 46 #[.slice a als.length cap] w fun e w' =>
      e = .returned (.slice (some ⟨w.heap.size, 0, none⟩) als.length als.length) ∧ SSup w.heap.size als als.length w' ∧ Below w.heap.size w w' := by
  have hmk := run_makeArrivalS als.length hn
  have HR := Lib.hid hr
  have HL := Lib.hid hl
  have O0 := Lib.hid (own_madeN 30 w als.length hn)
  clear hr hl
  go_enter Try.func46, Try.ntmps46
  go_wp2
  clear hmk
  go_loopg [4] als.length (fun n i wr => ∃ k : Nat, n + k = als.length ∧ i = .int .i64 k ∧ SSup w.heap.size als k wr ∧ Below w.heap.size w wr)
  case atStart => exact ⟨0, rfl, rfl, ⟨_, O0.out, fun j hj => absurd hj (Nat.not_lt_zero _)⟩, below_box _ _⟩
  case round =>
    obtain ⟨k, hk, rfl, ho, hb⟩ := hrel
    have HK := Lib.hid hk
    have HO := Lib.hid ho
    have HB := Lib.hid hb
    have hkk : k ≤ als.length := by omega
    clear hk ho hb O0
    by_cases hlt : k < als.length
    · obtain ⟨b, off, ad, ac, rfl, hbs, c0, -, r0⟩ := (HR.out.below HB.out) k hlt
      obtain ⟨L, hL⟩ : ∃ L, L = als.getD k [] := ⟨_, rfl⟩
      have hL2 : L.length ≤ 1099511627776 := by rw [hL]; exact HL.out k
      rw [← hL] at c0 r0
      have HR0 := Lib.hid r0
      have HLL := Lib.hid hL
      have hk0 : (0 : Int) ≤ k := by omega
      have hk1 : (k : Int) < als.length := by omega
      clear hL r0
      go_wp2_with fail
      refine (toArrivalS_any ad ac L _ HR0.out hL2).mono ?_
      rintro e w1 ⟨rfl, o1, b1⟩
      have hsz := b1.size
      have hws := HB.out.size
      have HO1 := Lib.hid (HO.out.below b1)
      have HB1 := Lib.hid (HB.out.trans (b1.mono HB.out.size))
      have O2 := Lib.hid (HO1.out.set hlt (g := wr.heap.size) (by
        rw [← HLL.out]
        refine o1.mono ?_
        obtain ⟨F, h1, -⟩ := HO.out
        exact h1.at.1))
      obtain ⟨x0, z0⟩ : (∃ x, w1.cell? ⟨w.heap.size, k, none⟩ = some x) ∧ w1.frozen? ⟨w.heap.size, k, none⟩ = false := by
        obtain ⟨F, h1, -⟩ := HO1.out
        obtain ⟨-, -, -, q4, q5⟩ := h1.at
        exact ⟨⟨_, q5 k (by omega)⟩, q4 k⟩
      obtain ⟨x0, hx0⟩ := x0
      clear b1 o1 HO HO1
      go_wp2
      go_roundg (gk - 1)
      case measure => have := HK.out; omega
      case rel => exact ⟨k + 1, by have := HK.out; omega, by go_num, by rw [HLL.out]; exact O2.out, HB1.out.setCell (Nat.le_refl _) _⟩
    · obtain rfl : k = als.length := by omega
      go_wp2
      go_ret
      exact ⟨rfl, HO.out, HB.out⟩

end Go.Proofs.Ytipnemngphglkaa

namespace Go.Proofs.Ytipnemngphglkaa
open Go.RowKit Go.Deep

/-- Slices of numbers. -/
def RowIS (w : World) (sa : Option Addr) (als : List (List A2)) (s : Nat) (d : Nat → Nat → Int) : Prop := ∀ k, k < s → ∃ b off ia ic, sa = some ⟨b, off, none⟩ ∧ b < w.heap.size ∧ w.cell? ⟨b, off + k, none⟩ = some (.slice ia (als.getD k []).length ic) ∧ IntF w ia (als.getD k []).length (d k)
theorem RowIS.below {w w' : World} {sa : Option Addr} {als : List (List A2)} {s : Nat} {d : Nat → Nat → Int} (h : RowIS w sa als s d) (hb : Below w.heap.size w w') : RowIS w' sa als s d := fun k hk => by
  obtain ⟨b, off, ia, ic, h1, h2, h3, h4⟩ := h k hk
  exact ⟨b, off, ia, ic, h1, Nat.lt_of_lt_of_le h2 hb.size, (hb.cell (p := ⟨b, off + k, none⟩) h2).trans h3, h4.below hb⟩
/-- What a run with servers reads as. -/
structure RI (w : World) (als : List (List A2)) (n m s : Nat) (ra fa ca sa : Option Addr) (fr ff fc : Nat → Int) (d : Nat → Nat → Int) : Prop where
  r : IntF w ra n fr
  f : IntF w fa m ff
  c : IntF w ca n fc
  s : RowIS w sa als s d
theorem RI.below {w w' : World} {als : List (List A2)} {n m s : Nat} {ra fa ca sa : Option Addr} {fr ff fc : Nat → Int} {d : Nat → Nat → Int} (h : RI w als n m s ra fa ca sa fr ff fc d) (hb : Below w.heap.size w w') : RI w' als n m s ra fa ca sa fr ff fc d :=
  ⟨h.r.below hb, h.f.below hb, h.c.below hb, h.s.below hb⟩

set_option maxRecDepth 100000 in
/-- laws.eqIntSS, of two that hold the same. -/
theorem eqIntSS_same (sa sa' : Option Addr) (sc sc' : Nat) (als : List (List A2)) (s : Nat) (d : Nat → Nat → Int) (w : World) (h : RowIS w sa als s d) (h' : RowIS w sa' als s d) (hs : s ≤ 1048576) (hl : ∀ k, (als.getD k []).length ≤ 1048576) :
    Calls Try.prog 102 #[.slice sa s sc, .slice sa' s sc'] w fun e w' => e = .returned (.bool true) ∧ Below w.heap.size w w' := by
  have HR := Lib.hid (And.intro h h')
  have HL := Lib.hid hl
  clear h h' hl
  go_enter Try.func102, Try.ntmps102
  go_wp2
  go_loopg [5] s (fun n i wr => ∃ k : Nat, n + k = s ∧ i = .int .i64 k ∧ Below w.heap.size w wr)
  case atStart => exact ⟨0, rfl, rfl, Below.refl _ _⟩
  case round =>
    obtain ⟨k, hk, rfl, hb⟩ := hrel
    have HK := Lib.hid hk
    have HB := Lib.hid hb
    have hkk : k ≤ s := by omega
    clear hk hb
    by_cases hlt : k < s
    · obtain ⟨b, off, ia, ic, ea, -, c0, r0⟩ := (HR.out.1.below HB.out) k hlt
      subst ea
      obtain ⟨b', off', ia', ic', ea, -, d0, r1⟩ := (HR.out.2.below HB.out) k hlt
      subst ea
      obtain ⟨N, hN⟩ : ∃ N, N = (als.getD k []).length := ⟨_, rfl⟩
      have hN2 : N ≤ 1048576 := by rw [hN]; exact HL.out k
      rw [← hN] at c0 d0 r0 r1
      have HRR := Lib.hid (And.intro (r0.below (below_drewN wr 1)) (r1.below (below_drewN wr 1)))
      have hk0 : (0 : Int) ≤ k := by omega
      have hk1 : (k : Int) < s := by omega
      clear hN r0 r1
      go_wp2
      refine wp_region_still_tail 8 (by kernel_rfl) (by kernel_rfl) ?_
      simp only [List.take_succ_cons, List.take_zero, List.drop_succ_cons, List.drop_zero]
      change wpStill _ _ wr.drew (fun a' => wpList _ _ _ _ a' wr.drew) _ _
      iterate 8 still_step
      refine wpStill_nil ?_
      go_wp2_with fail
      refine (eqIntS_same ia ia' ic ic' N _ _ HRR.out.1 HRR.out.2 hN2).mono ?_
      rintro e w1 ⟨rfl, m1, hw1⟩
      have HB1 := Lib.hid (show Below w.heap.size w w1 by rw [hw1]; exact below_drewN' HB.out.drew _)
      clear hw1
      go_wp2
      go_roundg (gk - 1)
      case measure => have := HK.out; omega
      case rel => exact ⟨k + 1, by have := HK.out; omega, by go_num, HB1.out⟩
    · obtain rfl : k = s := by omega
      go_wp2
      go_ret
      exact ⟨rfl, HB.out⟩

set_option maxRecDepth 100000 in
set_option maxHeartbeats 4000000 in
/-- laws.eqServerRun, of two runs that hold the same. -/
theorem eqServerRun_same {als : List (List A2)} {n m s : Nat} {ra fa ca sa ra' fa' ca' sa' : Option Addr} {rc fc cc sc rc' fc' cc' sc' : Nat} {gr gf gc : Nat → Int} {d : Nat → Nat → Int} (w : World) (h : RI w als n m s ra fa ca sa gr gf gc d) (h' : RI w als n m s ra' fa' ca' sa' gr gf gc d) (hn : n ≤ 120) (hm : m ≤ 100) (hs : s ≤ 4) (hl : ∀ k, (als.getD k []).length ≤ 1048576) :
    Calls Try.prog 47 #[.agg #[.slice ra n rc, .slice fa m fc, .slice ca n cc, .slice sa s sc], .agg #[.slice ra' n rc', .slice fa' m fc', .slice ca' n cc', .slice sa' s sc']] w fun e w' =>
      e = .returned (.bool true) ∧ Below w.heap.size w w' := by
  obtain ⟨u0, hu0⟩ : ∃ u0, u0 = (w.alloc (.cells #[.slice ra n rc, .slice fa m fc, .slice ca n cc, .slice sa s sc] 52)).alloc (.cells #[.slice ra' n rc', .slice fa' m fc', .slice ca' n cc', .slice sa' s sc'] 52) := ⟨_, rfl⟩
  have B0 : Below w.heap.size w u0 := by rw [hu0]; exact (below_box _ _).alloc (by simp) _
  have sz0 : w.heap.size + 1 < u0.heap.size := by rw [hu0]; simp
  have x2 : u0.cell? ⟨w.heap.size, 2, none⟩ = some (.slice ca n cc) := by rw [hu0]; go_simp
  have x3 : u0.cell? ⟨w.heap.size, 3, none⟩ = some (.slice sa s sc) := by rw [hu0]; go_simp
  have y2 : u0.cell? ⟨w.heap.size + 1, 2, none⟩ = some (.slice ca' n cc') := by rw [hu0]; go_simp
  have y3 : u0.cell? ⟨w.heap.size + 1, 3, none⟩ = some (.slice sa' s sc') := by rw [hu0]; go_simp
  have HH := Lib.hid (And.intro (h.below B0) (h'.below B0))
  have HU := Lib.hid hu0
  have HLE := Lib.hid hl
  clear h h' hu0 hl
  go_enter Try.func47, Try.ntmps47
  go_wp2_with fail
  rw [← HU.out]
  refine (eqSchedule_same _ _ _ _ _ _ _ _ _ _ gr gf _ HH.out.1.r HH.out.1.f HH.out.2.r HH.out.2.f (by omega) (by omega)).mono ?_
  rintro e w1 ⟨rfl, b1⟩
  have H1 := Lib.hid (And.intro (HH.out.1.below b1) (HH.out.2.below b1))
  have B1 := Lib.hid (B0.trans (b1.mono B0.size))
  have t2 := (b1.cell (p := ⟨w.heap.size, 2, none⟩) (by show w.heap.size < _; omega)).trans x2
  have t3 := (b1.cell (p := ⟨w.heap.size, 3, none⟩) (by show w.heap.size < _; omega)).trans x3
  have v2 := (b1.cell (p := ⟨w.heap.size + 1, 2, none⟩) sz0).trans y2
  have v3 := (b1.cell (p := ⟨w.heap.size + 1, 3, none⟩) sz0).trans y3
  have sz1 : w.heap.size + 1 < w1.heap.size := Nat.lt_of_lt_of_le sz0 b1.size
  clear HH x2 x3 y2 y3 b1 B0
  go_wp2_with fail
  refine (eqIntS_same _ _ _ _ _ gc _ H1.out.1.c H1.out.2.c (by omega)).mono ?_
  rintro e w2 ⟨rfl, m2, hw2⟩
  have b2 : Below w1.heap.size w1 w2 := by rw [hw2]; exact below_drewN _ _
  have H2 := Lib.hid (And.intro (H1.out.1.below b2) (H1.out.2.below b2))
  have B2 := Lib.hid (B1.out.trans (b2.mono B1.out.size))
  have s3 := (b2.cell (p := ⟨w.heap.size, 3, none⟩) (by show w.heap.size < _; omega)).trans t3
  have r3 := (b2.cell (p := ⟨w.heap.size + 1, 3, none⟩) sz1).trans v3
  clear hw2 b2 H1 t2 t3 v2 v3
  go_wp2_with fail
  refine (eqIntSS_same _ _ _ _ als s d _ H2.out.1.s H2.out.2.s (by omega) HLE.out).mono ?_
  rintro e w3 ⟨rfl, b3⟩
  have B3 := Lib.hid (B2.out.trans (b3.mono B2.out.size))
  clear b3
  go_wp2
  go_ret
  exact ⟨rfl, B3.out⟩

end Go.Proofs.Ytipnemngphglkaa

namespace Go.Proofs.Ytipnemngphglkaa
open Go.RowKit Go.Deep

/-- A run's slices, each in a block of its own, and others. -/
def gl (vr vf vc vs : Value) (iv : Nat → Value) (n m s : Nat) (als : List (List A2)) (fr ff fc : Nat → Int) (d : Nat → Nat → Int) (ext : List It) : List It :=
  [itI vr n fr, itI vf m ff, itI vc n fc, itV vs s iv] ++ (insL als iv d s ++ ext)
theorem insL_set {als : List (List A2)} {iv : Nat → Value} {d : Nat → Nat → Int} {s i : Nat} (hi : i < s) (f : Nat → Int) : (insL als iv d s).set i (itI (iv i) (als.getD i []).length f) = insL als iv (fun j => if j = i then f else d j) s := by
  apply List.ext_getElem?
  intro j
  rw [List.getElem?_set]
  by_cases e : i = j
  · subst e
    rw [if_pos rfl, insL_get hi, if_pos (by simp [insL]; exact hi), if_pos rfl]
  · rw [if_neg e]
    by_cases hj : j < s
    · rw [insL_get hj, insL_get hj, if_neg (Ne.symm e)]
    · rw [List.getElem?_eq_none_iff.2 (by simp [insL]; omega), List.getElem?_eq_none_iff.2 (by simp [insL]; omega)]
theorem Pool.markI {w w' : World} {base j n : Nat} {its : List It} {v : Value} {f f' : Nat → Int} (h : Pool w base its) (hj : its[j]? = some (itI v n f)) (ho : OwnI w' base v n f') (hg : w.grownBy w' v.ownBlock) : Pool w' base (its.set j (itI v n f')) :=
  h.turn hj (ownI_F ho) (fun k b hk hb => (h.ow k b hb).grown hg (h.ap k j b _ hk hb hj)) (fun k b hk hb => (h.ap k j b (itI v n f) hk hb hj : Apart b.v v))
variable {w w' : World} {base : Nat} {vr vf vc vs v : Value} {iv : Nat → Value} {n m s i : Nat} {als : List (List A2)} {fr ff fc f' : Nat → Int} {d : Nat → Nat → Int} {ext : List It}
theorem gl_row (hi : i < s) : (gl vr vf vc vs iv n m s als fr ff fc d ext)[i + 4]? = some (itI (iv i) (als.getD i []).length (d i)) := by
  unfold gl
  show (insL als iv d s ++ ext)[i]? = _
  rw [List.getElem?_append_left (by simp [insL]; exact hi), insL_get hi]
theorem gl_ext (j : Nat) : (gl vr vf vc vs iv n m s als fr ff fc d ext)[s + j + 4]? = ext[j]? := by
  unfold gl
  show (insL als iv d s ++ ext)[s + j]? = _
  rw [List.getElem?_append_right (by simp [insL]), show s + j - (insL als iv d s).length = j by simp [insL]]
theorem Pool.markR (h : Pool w base (gl vr vf vc vs iv n m s als fr ff fc d ext)) (ho : OwnI w' base vr n f') (hg : w.grownBy w' vr.ownBlock) : Pool w' base (gl vr vf vc vs iv n m s als f' ff fc d ext) := h.markI (j := 0) rfl ho hg
theorem Pool.markF (h : Pool w base (gl vr vf vc vs iv n m s als fr ff fc d ext)) (ho : OwnI w' base vf m f') (hg : w.grownBy w' vf.ownBlock) : Pool w' base (gl vr vf vc vs iv n m s als fr f' fc d ext) := h.markI (j := 1) rfl ho hg
theorem Pool.markC (h : Pool w base (gl vr vf vc vs iv n m s als fr ff fc d ext)) (ho : OwnI w' base vc n f') (hg : w.grownBy w' vc.ownBlock) : Pool w' base (gl vr vf vc vs iv n m s als fr ff f' d ext) := h.markI (j := 2) rfl ho hg
theorem Pool.markS (h : Pool w base (gl vr vf vc vs iv n m s als fr ff fc d ext)) (hi : i < s) (ho : OwnI w' base (iv i) (als.getD i []).length f') (hg : w.grownBy w' (iv i).ownBlock) : Pool w' base (gl vr vf vc vs iv n m s als fr ff fc (fun j => if j = i then f' else d j) ext) := by
  have h1 := h.markI (gl_row hi) ho hg
  have e : (gl vr vf vc vs iv n m s als fr ff fc d ext).set (i + 4) (itI (iv i) (als.getD i []).length f') = gl vr vf vc vs iv n m s als fr ff fc (fun j => if j = i then f' else d j) ext := by
    unfold gl
    rw [← insL_set hi f']
    show [itI vr n fr, itI vf m ff, itI vc n fc, itV vs s iv] ++ (insL als iv d s ++ ext).set i _ = _
    rw [List.set_append_left _ _ (by simp [insL]; exact hi)]
  rw [e] at h1
  exact h1
/-- The rows' marks do not matter beyond s. -/
theorem gl_congr {d' : Nat → Nat → Int} (e : ∀ j, j < s → d j = d' j) : gl vr vf vc vs iv n m s als fr ff fc d ext = gl vr vf vc vs iv n m s als fr ff fc d' ext := by
  unfold gl insL
  rw [List.map_congr_left (l := List.range s) (fun j hj => by rw [e j (List.mem_range.1 hj)])]
theorem Pool.bel {j : Nat} {it : It} {its : List It} (h : Pool w base its) (hj : its[j]? = some it) (hb : base ≤ w.heap.size) (hg : w.grownBy w' it.v.ownBlock) : Below base w w' := (Below.refl _ _).grown hg hb (fun k hk => (h.lt hj k hk).1)

set_option maxRecDepth 100000 in
/-- laws.markIntSS. -/
theorem markIntSS_any (sa : Option Addr) (sc k : Nat) (h : Pool w base (gl vr vf vc (.slice sa s sc) iv n m s als fr ff fc d ext)) (hb : base ≤ w.heap.size) (hs : s ≤ 4) (ht : tot als s ≤ 1048576) (hk : k ≤ 100000) :
    Calls Try.prog 107 #[.slice sa s sc, .int .i64 (k : Int)] w fun e w' =>
      e = .returned (.int .i64 ((k + tot als s : Nat) : Int)) ∧ Pool w' base (gl vr vf vc (.slice sa s sc) iv n m s als fr ff fc (fun j c => ((k + tot als j : Nat) : Int) + c) ext) ∧ Below base w w' := by
  have HP := Lib.hid h
  clear h
  go_enter Try.func107, Try.ntmps107
  go_wp2
  go_loopg [1, 5] s (fun q x z wr => ∃ i : Nat, q + i = s ∧ x = .int .i64 ((k + tot als i : Nat) : Int) ∧ z = .int .i64 i ∧ Pool wr base (gl vr vf vc (.slice sa s sc) iv n m s als fr ff fc (fun j => if j < i then (fun c => ((k + tot als j : Nat) : Int) + c) else d j) ext) ∧ Below base w wr)
  case atStart => exact ⟨0, by omega, rfl, rfl, by rw [gl_congr (d' := d) (fun j _ => if_neg (Nat.not_lt_zero j))]; exact HP.out, Below.refl _ _⟩
  case round =>
    obtain ⟨i, hi', rfl, rfl, hp, hbe⟩ := hrel
    have HI := Lib.hid hi'
    have HQ := Lib.hid hp
    have HB := Lib.hid hbe
    have hii : i ≤ s := by omega
    have htm := tot_mono als hii
    obtain ⟨K, hK⟩ : ∃ K, K = k + tot als i := ⟨_, rfl⟩
    rw [← hK]
    have hK2 : K ≤ 20000000 := by omega
    have HKK := Lib.hid hK
    clear hi' hp hbe hK HP
    by_cases hlt : i < s
    · have ho : OwnF 47 1 wr base (.slice sa s sc) s iv := HQ.out.ow 3 _ rfl
      obtain ⟨g, c, eg⟩ := ho.has (by omega)
      simp only [Value.slice.injEq] at eg
      obtain ⟨rfl, -, rfl⟩ := eg
      obtain ⟨q1, -, -, -, q5⟩ := ho.at
      have c0 := q5 i (by omega)
      have oi := HQ.out.getI (gl_row hlt)
      rw [if_neg (Nat.lt_irrefl i)] at oi
      obtain ⟨N, hN⟩ : ∃ N, N = (als.getD i []).length := ⟨_, rfl⟩
      have htn : tot als i + N ≤ 1048576 := by
        have h1 := tot_mono als (show i + 1 ≤ s by omega)
        have h2 : tot als (i + 1) = tot als i + N := by rw [hN]; rfl
        omega
      rw [← hN] at oi
      obtain ⟨ia, ic, hv⟩ := own_shape oi
      rw [hv] at c0 oi
      have HOI := Lib.hid oi
      have HNN := Lib.hid hN
      have HV := Lib.hid hv
      have hi0 : (0 : Int) ≤ i := by omega
      have hi1 : (i : Int) < s := by omega
      clear oi hN hv ho q5
      go_wp2_with fail
      refine (markIntS_any ia ic N _ K base _ HOI.out (by omega) (by omega)).mono ?_
      rintro e w1 ⟨rfl, o1, g1⟩
      have B1 := Lib.hid (HB.out.trans (HQ.out.bel (gl_row hlt) (Nat.le_trans hb HB.out.size) (by show World.grownBy _ _ (iv i).ownBlock; rw [HV.out]; exact g1)))
      have P1 := Lib.hid (HQ.out.markS hlt (by rw [HV.out, ← HNN.out]; exact o1) (by rw [HV.out]; exact g1))
      clear o1 g1 HQ
      go_wp2
      go_roundg (gk - 1)
      case measure => have := HI.out; omega
      case rel => exact ⟨i + 1, by have := HI.out; omega, by rw [show k + tot als (i + 1) = K + N by rw [HKK.out, HNN.out]; show k + (tot als i + _) = _; omega]; go_num, by go_num, by
        rw [gl_congr (d' := fun j => if j = i then (fun m => (K : Int) + m) else if j < i then (fun c => ((k + tot als j : Nat) : Int) + c) else d j) (fun j hj => by
          by_cases e : j = i
          · subst e; rw [if_pos rfl, if_pos (Nat.lt_succ_self _), HKK.out]
          · rw [if_neg e]
            by_cases e2 : j < i
            · rw [if_pos e2, if_pos (by omega)]
            · rw [if_neg e2, if_neg (by omega)])]
        exact P1.out, B1.out⟩
    · obtain rfl : i = s := by omega
      go_wp2
      go_ret
      exact ⟨by rw [HKK.out]; rfl, by rw [gl_congr (d' := fun j => if j < i then (fun c => ((k + tot als j : Nat) : Int) + c) else d j) (fun j hj => by rw [if_pos hj])]; exact HQ.out, HB.out⟩

/-- laws.markSchedule, within a run. -/
theorem markSchedule_gl {r f : Option Addr} {c1 c2 : Nat} (k : Nat) (h : Pool w base (gl (.slice r n c1) (.slice f m c2) vc vs iv n m s als fr ff fc d ext)) (hb : base ≤ w.heap.size) (hn : n ≤ 120) (hm : m ≤ 100) (hk : k ≤ 1000) :
    Calls Try.prog 105 #[.agg #[.slice r n c1, .slice f m c2], .int .i64 (k : Int)] w fun e w' =>
      e = .returned (.int .i64 ((k + n + m : Nat) : Int)) ∧ Pool w' base (gl (.slice r n c1) (.slice f m c2) vc vs iv n m s als (fun i => (k : Int) + i) (fun i => ((k + n : Nat) : Int) + i) fc d ext) ∧ Below base w w' := by
  have B0 := Lib.hid ((below_box w (.cells #[.slice r n c1, .slice f m c2] 49)).mono hb)
  have H0 := Lib.hid (h.alloc (.cells #[.slice r n c1, .slice f m c2] 49))
  have LT := Lib.hid fun j hj => (h.lt (j := 0) rfl j hj).2
  clear h
  go_enter Try.func105, Try.ntmps105
  go_wp2_with fail
  refine (markIntS_any _ _ _ _ k base _ (H0.out.getI (j := 0) rfl) (by omega) (by omega)).mono ?_
  rintro e w1 ⟨rfl, o1, g1⟩
  have P1 := Lib.hid (H0.out.markR o1 g1)
  have B1 := Lib.hid (B0.out.trans (H0.out.bel (j := 0) rfl (by simp; omega) g1))
  have x1 : w1.cell? ⟨w.heap.size, 1, none⟩ = some (.slice f m c2) := g1.cell (a := ⟨w.heap.size, 1, none⟩) (by simp [go_sem]) (fun e => by have := LT.out _ e.symm; simp at this)
  have Z1 := B1.out.size
  clear o1 g1 H0
  have C := markIntS_any _ _ _ _ (k + n) base _ (P1.out.getI (j := 1) rfl) (by omega) (by omega)
  rw [show ((k + n : Nat) : Int) = (k : Int) + n from by omega] at C
  have HC := Lib.hid C
  clear C
  go_wp2_with fail
  refine HC.out.mono ?_
  rintro e w2 ⟨rfl, o2, g2⟩
  have P2 := Lib.hid (P1.out.markF o2 g2)
  have B2 := Lib.hid (B1.out.trans (P1.out.bel (j := 1) rfl (by omega) g2))
  clear o2 g2 P1 HC
  go_wp2
  go_ret
  exact ⟨ret_int (by omega), by rw [show ((k + n : Nat) : Int) = (k : Int) + n from by omega]; exact P2.out, B2.out⟩

theorem gl_add (i : It) : gl vr vf vc vs iv n m s als fr ff fc d ext ++ [i] = gl vr vf vc vs iv n m s als fr ff fc d (ext ++ [i]) := by simp [gl]
theorem Pool.sub_ext {i' : It} (h : Pool w base (gl vr vf vc vs iv n m s als fr ff fc d (ext ++ [i']))) : Pool w base (gl vr vf vc vs iv n m s als fr ff fc d ext) := by
  rw [← gl_add] at h
  have e : ∀ (j : Nat) (i : It), (gl vr vf vc vs iv n m s als fr ff fc d ext)[j]? = some i → (gl vr vf vc vs iv n m s als fr ff fc d ext ++ [i'])[j]? = some i := fun j i hj => by
    rw [List.getElem?_append_left (List.getElem?_eq_some_iff.1 hj).1]; exact hj
  exact ⟨fun j i hj => h.ow j i (e j i hj), fun j k a b hne hj hk => h.ap j k a b hne (e j a hj) (e k b hk)⟩
/-- Four slices of a variable. -/
def f4 (a b c d : Value) : Nat → Value := fun k => if k = 0 then a else if k = 1 then b else if k = 2 then c else d
theorem box4 {a b c d : Value} {t : TypeId} {its : List It} (h : Pool w base its) (hb : base ≤ w.heap.size) : Pool (w.alloc (.cells #[a, b, c, d] t)) base (its ++ [itB w.heap.size t 4 (f4 a b c d)]) :=
  h.add (i := itB w.heap.size t 4 (f4 a b c d)) (below_box _ _) (own_box w _ 4 _ _ rfl (fun c hc => by
    match c, hc with
    | 0, _ | 1, _ | 2, _ | 3, _ => rfl)) hb
theorem cell4 {a b c d : Value} {t : TypeId} {its : List It} {j g : Nat} (h : Pool w base its) (hj : its[j]? = some (itB g t 4 (f4 a b c d))) : w.cell? ⟨g, 0, none⟩ = some a ∧ w.cell? ⟨g, 1, none⟩ = some b ∧ w.cell? ⟨g, 2, none⟩ = some c ∧ w.cell? ⟨g, 3, none⟩ = some d := by
  have ho : OwnF t 4 w base (.slice (some ⟨g, 0, none⟩) 1 1) 1 (f4 a b c d) := h.ow j _ hj
  obtain ⟨-, -, -, -, q5⟩ := ho.at
  exact ⟨q5 0 (by omega), q5 1 (by omega), q5 2 (by omega), q5 3 (by omega)⟩
theorem cell4x {x y z u : Value} {t : TypeId} {g : Nat} (h : Pool w base (gl vr vf vc vs iv n m s als fr ff fc d (ext ++ [itB g t 4 (f4 x y z u)]))) : w.cell? ⟨g, 0, none⟩ = some x ∧ w.cell? ⟨g, 1, none⟩ = some y ∧ w.cell? ⟨g, 2, none⟩ = some z ∧ w.cell? ⟨g, 3, none⟩ = some u :=
  cell4 (t := t) h ((gl_ext ext.length).trans (by simp))

set_option maxHeartbeats 4000000 in
/-- laws.markServerRun. -/
theorem markServerRun_any {ra fa ca sa : Option Addr} {rc fcp cc sc : Nat} (h : Pool w base (gl (.slice ra n rc) (.slice fa m fcp) (.slice ca n cc) (.slice sa s sc) iv n m s als fr ff fc d ext)) (hb : base ≤ w.heap.size) (hn : n ≤ 120) (hm : m ≤ 100) (hs : s ≤ 4) (ht : tot als s ≤ 1048576) :
    Calls Try.prog 54 #[.agg #[.slice ra n rc, .slice fa m fcp, .slice ca n cc, .slice sa s sc], .int .i64 1] w fun e w' =>
      e = .returned (.int .i64 ((1 + n + m + n + tot als s : Nat) : Int)) ∧ Pool w' base (gl (.slice ra n rc) (.slice fa m fcp) (.slice ca n cc) (.slice sa s sc) iv n m s als (fun i => ((1 : Nat) : Int) + i) (fun i => ((1 + n : Nat) : Int) + i) (fun i => ((1 + n + m : Nat) : Int) + i) (fun j c => ((1 + n + m + n + tot als j : Nat) : Int) + c) ext) ∧ Below base w w' := by
  obtain ⟨u0, hu0⟩ : ∃ u0, u0 = w.alloc (.cells #[.slice ra n rc, .slice fa m fcp, .slice ca n cc, .slice sa s sc] 52) := ⟨_, rfl⟩
  have B0 : Below base w u0 := by rw [hu0]; exact (below_box _ _).mono hb
  have P0 := box4 (a := .slice ra n rc) (b := .slice fa m fcp) (c := .slice ca n cc) (d := .slice sa s sc) (t := 52) h hb
  rw [← hu0, gl_add] at P0
  have Z0 : base ≤ u0.heap.size := Nat.le_trans hb B0.size
  have H0 := Lib.hid P0
  have HU := Lib.hid hu0
  clear h hu0 P0
  go_enter Try.func54, Try.ntmps54
  go_wp2_with fail
  rw [← HU.out]
  refine (markSchedule_gl 1 H0.out Z0 hn hm (by omega)).mono ?_
  rintro e w1 ⟨rfl, p1, b1⟩
  have B1 := Lib.hid (B0.trans b1)
  have Z1 := Nat.le_trans Z0 b1.size
  obtain ⟨-, -, x2, x3⟩ := cell4x p1
  have P1 := Lib.hid p1
  clear p1 b1 B0 H0
  go_wp2_with fail
  refine (markIntS_any _ _ _ _ (1 + n + m) base _ (P1.out.getI (j := 2) rfl) (by omega) (by omega)).mono ?_
  rintro e w2 ⟨rfl, o2, g2⟩
  have b2 := P1.out.bel (j := 2) rfl Z1 g2
  have P2 := Lib.hid (P1.out.markC o2 g2)
  have B2 := Lib.hid (B1.out.trans b2)
  have Z2 := Nat.le_trans Z1 b2.size
  obtain ⟨-, -, -, y3⟩ := cell4x P2.out
  clear o2 g2 P1 b2 x2 x3 B1
  rw [show ((1 + n + m : Nat) : Int) + (n : Int) = ((1 + n + m + n : Nat) : Int) from by omega]
  go_wp2_with fail
  refine (markIntSS_any _ _ (1 + n + m + n) P2.out Z2 hs ht (by omega)).mono ?_
  rintro e w3 ⟨rfl, p3, b3⟩
  have P3 := Lib.hid p3.sub_ext
  have B3 := Lib.hid (B2.out.trans b3)
  clear p3 b3 P2 B2
  go_wp2
  go_ret
  exact ⟨rfl, P3.out, B3.out⟩

/-- laws.heldIntSS, where the marks are held. -/
theorem heldIntSS_any (sa : Option Addr) (sc k : Nat) (w : World) (h : RowIS w sa als s (fun j c => ((k + tot als j : Nat) : Int) + c)) (hs : s ≤ 4) (ht : tot als s ≤ 1048576) (hk : k ≤ 100000) :
    Calls Try.prog 110 #[.slice sa s sc, .int .i64 (k : Int)] w fun e w' => e = .returned (.int .i64 ((k + tot als s : Nat) : Int)) ∧ w' = w := by
  have HP := Lib.hid h
  clear h
  go_enter Try.func110, Try.ntmps110
  go_wp2
  go_loopg [1, 5] s (fun q x z wr => ∃ i : Nat, q + i = s ∧ x = .int .i64 ((k + tot als i : Nat) : Int) ∧ z = .int .i64 i ∧ w = wr)
  case atStart => exact ⟨0, by omega, rfl, rfl, rfl⟩
  case round =>
    obtain ⟨i, hi', rfl, rfl, rfl⟩ := hrel
    have HI := Lib.hid hi'
    have hii : i ≤ s := by omega
    have htm := tot_mono als hii
    obtain ⟨K, hK⟩ : ∃ K, K = k + tot als i := ⟨_, rfl⟩
    rw [← hK]
    have hK2 : K ≤ 20000000 := by omega
    have HKK := Lib.hid hK
    clear hi' hK
    by_cases hlt : i < s
    · obtain ⟨b, off, ia, ic, rfl, -, c0, r0⟩ := HP.out i hlt
      obtain ⟨N, hN⟩ : ∃ N, N = (als.getD i []).length := ⟨_, rfl⟩
      have htn : tot als i + N ≤ 1048576 := by
        have h1 := tot_mono als (show i + 1 ≤ s by omega)
        have h2 : tot als (i + 1) = tot als i + N := by rw [hN]; rfl
        omega
      rw [← hN] at c0 r0
      simp only [← HKK.out] at r0
      have HOI := Lib.hid r0
      have HNN := Lib.hid hN
      have hi0 : (0 : Int) ≤ i := by omega
      have hi1 : (i : Int) < s := by omega
      have hp : ¬ (K : Int) + N < 0 := by omega
      clear r0 hN
      go_wp2_with fail
      refine (heldIntS_any ia ic N K _ HOI.out (by omega) (by omega)).mono ?_
      rintro e w1 ⟨rfl, rfl⟩
      go_wp2
      go_roundg (gk - 1)
      case measure => have := HI.out; omega
      case rel => exact ⟨i + 1, by have := HI.out; omega, by rw [show k + tot als (i + 1) = K + N by rw [HKK.out, HNN.out]; show k + (tot als i + _) = _; omega]; go_num, by go_num, rfl⟩
    · obtain rfl : i = s := by omega
      go_wp2
      go_ret
      exact ⟨by rw [HKK.out]; rfl, rfl⟩

set_option maxHeartbeats 4000000 in
/-- laws.heldServerRun, where the marks are held. -/
theorem heldServerRun_any {ra fa ca sa : Option Addr} {rc fcp cc sc : Nat} (w : World) (h : RI w als n m s ra fa ca sa (fun i => ((1 : Nat) : Int) + i) (fun i => ((1 + n : Nat) : Int) + i) (fun i => ((1 + n + m : Nat) : Int) + i) (fun j c => ((1 + n + m + n + tot als j : Nat) : Int) + c)) (hn : n ≤ 120) (hm : m ≤ 100) (hs : s ≤ 4) (ht : tot als s ≤ 1048576) :
    Calls Try.prog 55 #[.agg #[.slice ra n rc, .slice fa m fcp, .slice ca n cc, .slice sa s sc], .int .i64 1] w fun e w' =>
      e = .returned (.int .i64 ((1 + n + m + n + tot als s : Nat) : Int)) ∧ Below w.heap.size w w' := by
  obtain ⟨u0, hu0⟩ : ∃ u0, u0 = w.alloc (.cells #[.slice ra n rc, .slice fa m fcp, .slice ca n cc, .slice sa s sc] 52) := ⟨_, rfl⟩
  have B0 : Below w.heap.size w u0 := by rw [hu0]; exact below_box _ _
  have sz0 : w.heap.size < u0.heap.size := by rw [hu0]; simp
  have x2 : u0.cell? ⟨w.heap.size, 2, none⟩ = some (.slice ca n cc) := by rw [hu0]; go_simp
  have x3 : u0.cell? ⟨w.heap.size, 3, none⟩ = some (.slice sa s sc) := by rw [hu0]; go_simp
  have H0 := Lib.hid (h.below B0)
  have HU := Lib.hid hu0
  clear h hu0
  go_enter Try.func55, Try.ntmps55
  go_wp2_with fail
  rw [← HU.out]
  refine (heldSchedule_any _ _ _ _ _ _ 1 _ H0.out.r (by have := H0.out.f; rw [show ((1 + n : Nat) : Int) = ((1 : Nat) : Int) + n from by omega] at this; exact this) (by omega) (by omega) (by omega)).mono ?_
  rintro e w1 ⟨rfl, b1⟩
  have H1 := Lib.hid (H0.out.below b1)
  have B1 := Lib.hid (B0.trans (b1.mono B0.size))
  have t2 := (b1.cell (p := ⟨w.heap.size, 2, none⟩) sz0).trans x2
  have t3 := (b1.cell (p := ⟨w.heap.size, 3, none⟩) sz0).trans x3
  clear H0 x2 x3 b1 B0
  rw [show ((1 : Nat) : Int) + (n : Int) + (m : Int) = ((1 + n + m : Nat) : Int) from by omega]
  have p1 : ¬ ((1 + n + m : Nat) : Int) < 0 := by omega
  go_wp2_with fail
  refine (heldIntS_any _ _ _ (1 + n + m) _ H1.out.c (by omega) (by omega)).mono ?_
  rintro e w2 ⟨rfl, rfl⟩
  rw [show ((1 + n + m : Nat) : Int) + (n : Int) = ((1 + n + m + n : Nat) : Int) from by omega]
  have p2 : ¬ ((1 + n + m + n : Nat) : Int) < 0 := by omega
  go_wp2_with fail
  refine (heldIntSS_any _ _ (1 + n + m + n) _ H1.out.s hs ht (by omega)).mono ?_
  rintro e w3 ⟨rfl, rfl⟩
  have p3 : ¬ ((1 + n + m + n + tot als s : Nat) : Int) < 0 := by omega
  go_wp2
  go_ret
  exact ⟨rfl, B1.out⟩

end Go.Proofs.Ytipnemngphglkaa

namespace Go.Proofs.Ytipnemngphglkaa
open Go.RowKit Go.Deep

variable {lo hi : Nat} {w w' : World}
theorem Filled.nums {b : Nat} {ts : List T3} (h : Filled w b ts.length ts ts.length) (hl : lo ≤ b) (hh : b < hi) : Nums lo hi w (some ⟨b, 0, none⟩) (ts.length * 3) := fun m hm => by
  obtain ⟨f, hr, hf⟩ := h
  have hj : m / 3 < ts.length := by omega
  obtain ⟨h0, h1, h2⟩ := hf (m / 3) _ hj (List.getElem?_eq_getElem hj)
  refine ⟨b, rfl, hl, hh, hr.lt, hr.frozen m, ?_⟩
  rw [hr.cell (i := m) hm]
  have h3 : m = m / 3 * 3 ∨ m = m / 3 * 3 + 1 ∨ m = m / 3 * 3 + 2 := by omega
  rcases h3 with e | e | e
  · exact ⟨_, by rw [e, h0]⟩
  · exact ⟨_, by rw [e, h1]⟩
  · exact ⟨_, by rw [e, h2]⟩
theorem OwnJ.nums {b cap : Nat} {js : List J4} (h : OwnJ w b (.slice (some ⟨b, 0, none⟩) js.length cap) js) (hl : lo ≤ b) (hh : b < hi) : Nums lo hi w (some ⟨b, 0, none⟩) (js.length * 4) := fun m hm => by
  obtain ⟨g, c, e, g1, g2, g3, g4⟩ := h.ownF.at (by omega)
  simp only [Value.slice.injEq, Option.some.injEq, Addr.mk.injEq, and_true] at e
  obtain ⟨rfl, -, -⟩ := e
  exact ⟨b, rfl, hl, hh, g2, g3 m, _, g4 m hm⟩

set_option maxRecDepth 100000 in
set_option maxHeartbeats 2000000 in
/-- laws.markTaskS. -/
theorem markTaskS_mk (a : Option Addr) (cap n k : Nat) (w : World) (h : Nums lo hi w a (n * 3)) (hn : n ≤ 1048576) (hk : k ≤ 100000000) :
    Calls Try.prog 50 #[.slice a n cap, .int .i64 (k : Int)] w fun e w' => e = .returned (.int .i64 ((k + 3 * n : Nat) : Int)) ∧ Mk lo hi w w' := by
  have HN := Lib.hid h
  clear h
  go_enter Try.func50, Try.ntmps50
  go_wp2
  go_loopg [1, 5] n (fun m s z wr => ∃ i : Nat, m + i = n ∧ s = .int .i64 ((k + 3 * i : Nat) : Int) ∧ z = .int .i64 i ∧ Mk lo hi w wr)
  case atStart => exact ⟨0, by omega, rfl, rfl, Mk.refl _ _ _⟩
  case round =>
    obtain ⟨i, hi', rfl, rfl, hM⟩ := hrel
    have HI := Lib.hid hi'
    have HM := Lib.hid hM
    have hii : i ≤ n := by omega
    obtain ⟨K, hK⟩ : ∃ K, K = k + 3 * i := ⟨_, rfl⟩
    rw [← hK]
    have hK2 : K ≤ 200000000 := by omega
    have HKK := Lib.hid hK
    clear hi' hM hK
    by_cases hlt : i < n
    · obtain ⟨g, rfl, g1', g2', g3', z0, x0, c0⟩ := (HN.out.mk HM.out) (i * 3) (by omega)
      obtain ⟨g1, e1, -, -, -, z1, x1, c1⟩ := (HN.out.mk HM.out) (i * 3 + 1) (by omega)
      simp only [Option.some.injEq, Addr.mk.injEq, and_true] at e1
      subst e1
      obtain ⟨g2, e2, -, -, -, z2, x2, c2⟩ := (HN.out.mk HM.out) (i * 3 + 2) (by omega)
      simp only [Option.some.injEq, Addr.mk.injEq, and_true] at e2
      subst e2
      have hi0 : (0 : Int) ≤ i := by omega
      have hi1 : (i : Int) < n := by omega
      have M1 := Lib.hid (HM.out.set (y := (K : Int)) g1' g2' ⟨x0, c0⟩)
      have M2 := Lib.hid (M1.out.set (m := i * 3 + 1) (y := (K : Int) + 1) g1' g2' ⟨x1, by simp [go_sem, c1]⟩)
      have M3 := Lib.hid (M2.out.set (m := i * 3 + 2) (y := (K : Int) + 1 + 1) g1' g2' ⟨x2, by simp [go_sem, c2]⟩)
      go_wp2
      go_roundg (gk - 1)
      case measure => have := HI.out; omega
      case rel => exact ⟨i + 1, by have := HI.out; omega, by rw [show k + 3 * (i + 1) = K + 1 + 1 + 1 by rw [HKK.out]; omega]; go_num, by go_num, M3.out⟩
    · obtain rfl : i = n := by omega
      go_wp2
      go_ret
      exact ⟨by rw [HKK.out]; rfl, HM.out⟩

set_option maxRecDepth 100000 in
set_option maxHeartbeats 2000000 in
/-- laws.markJobS. -/
theorem markJobS_mk (a : Option Addr) (cap n k : Nat) (w : World) (h : Nums lo hi w a (n * 4)) (hn : n ≤ 1048576) (hk : k ≤ 100000000) :
    Calls Try.prog 51 #[.slice a n cap, .int .i64 (k : Int)] w fun e w' => e = .returned (.int .i64 ((k + 4 * n : Nat) : Int)) ∧ Mk lo hi w w' := by
  have HN := Lib.hid h
  clear h
  go_enter Try.func51, Try.ntmps51
  go_wp2
  go_loopg [1, 5] n (fun m s z wr => ∃ i : Nat, m + i = n ∧ s = .int .i64 ((k + 4 * i : Nat) : Int) ∧ z = .int .i64 i ∧ Mk lo hi w wr)
  case atStart => exact ⟨0, by omega, rfl, rfl, Mk.refl _ _ _⟩
  case round =>
    obtain ⟨i, hi', rfl, rfl, hM⟩ := hrel
    have HI := Lib.hid hi'
    have HM := Lib.hid hM
    have hii : i ≤ n := by omega
    obtain ⟨K, hK⟩ : ∃ K, K = k + 4 * i := ⟨_, rfl⟩
    rw [← hK]
    have hK2 : K ≤ 200000000 := by omega
    have HKK := Lib.hid hK
    clear hi' hM hK
    by_cases hlt : i < n
    · obtain ⟨g, rfl, g1', g2', g3', z0, x0, c0⟩ := (HN.out.mk HM.out) (i * 4) (by omega)
      obtain ⟨g1, e1, -, -, -, z1, x1, c1⟩ := (HN.out.mk HM.out) (i * 4 + 1) (by omega)
      simp only [Option.some.injEq, Addr.mk.injEq, and_true] at e1
      subst e1
      obtain ⟨g2, e2, -, -, -, z2, x2, c2⟩ := (HN.out.mk HM.out) (i * 4 + 2) (by omega)
      simp only [Option.some.injEq, Addr.mk.injEq, and_true] at e2
      subst e2
      obtain ⟨g3, e3, -, -, -, z3, x3, c3⟩ := (HN.out.mk HM.out) (i * 4 + 3) (by omega)
      simp only [Option.some.injEq, Addr.mk.injEq, and_true] at e3
      subst e3
      have hi0 : (0 : Int) ≤ i := by omega
      have hi1 : (i : Int) < n := by omega
      have M1 := Lib.hid (HM.out.set (y := (K : Int)) g1' g2' ⟨x0, c0⟩)
      have M2 := Lib.hid (M1.out.set (m := i * 4 + 1) (y := (K : Int) + 1) g1' g2' ⟨x1, by simp [go_sem, c1]⟩)
      have M3 := Lib.hid (M2.out.set (m := i * 4 + 2) (y := (K : Int) + 1 + 1) g1' g2' ⟨x2, by simp [go_sem, c2]⟩)
      have M4 := Lib.hid (M3.out.set (m := i * 4 + 3) (y := (K : Int) + 1 + 1 + 1) g1' g2' ⟨x3, by simp [go_sem, c3]⟩)
      go_wp2
      go_roundg (gk - 1)
      case measure => have := HI.out; omega
      case rel => exact ⟨i + 1, by have := HI.out; omega, by rw [show k + 4 * (i + 1) = K + 1 + 1 + 1 + 1 by rw [HKK.out]; omega]; go_num, by go_num, M4.out⟩
    · obtain rfl : i = n := by omega
      go_wp2
      go_ret
      exact ⟨by rw [HKK.out]; rfl, HM.out⟩

theorem Pool.mk' {base : Nat} {its : List It} (h : Pool w base its) (k : Mk lo hi w w') (hh : hi ≤ base) : Pool w' base its :=
  ⟨fun j i hj => by
    obtain ⟨h1, h2 | ⟨g, cap, cur, h2, h3, h4, h5⟩⟩ := h.ow j i hj
    · exact ⟨h1, .inl h2⟩
    · exact ⟨h1, .inr ⟨g, cap, cur, h2, h3, (k.block g (Array.getElem?_eq_some_iff.1 h4).1 (.inr (by omega))).trans h4, h5⟩⟩, h.ap⟩
theorem lN_le (ts : List T3) (js : List J4) (ss : List A2) (als : List (List A2)) : lN ts js ss als ≤ 120 := by unfold lN; split <;> omega
theorem lM_le (ts : List T3) (js : List J4) (ss : List A2) (als : List (List A2)) : lM ts js ss als ≤ 60 := by
  unfold lM
  split
  · rename_i h
    exact (legB_iff.1 (okS_iff.1 h).1).2.1
  · omega
theorem lS_le (ts : List T3) (js : List J4) (ss : List A2) (als : List (List A2)) : lS ts js ss als ≤ 2 ∧ lS ts js ss als ≤ als.length := by
  unfold lS
  split
  · rename_i h
    have h1 := (ssB_iff.1 (okS_iff.1 h).2.1).1
    have h2 := (okS_iff.1 h).2.2.1
    omega
  · omega
theorem Pool.nils (w : World) (base : Nat) (als : List (List A2)) (fr ff fc : Nat → Int) (d : Nat → Nat → Int) (iv : Nat → Value) : Pool w base (gl (.slice none 0 0) (.slice none 0 0) (.slice none 0 0) (.slice none 0 0) iv 0 0 0 als fr ff fc d []) := by
  have key : ∀ (j : Nat) (i : It), (gl (.slice none 0 0) (.slice none 0 0) (.slice none 0 0) (.slice none 0 0) iv 0 0 0 als fr ff fc d [])[j]? = some i → i.v = .slice none 0 0 ∧ i.n = 0 := fun j i hj => by
    match j, hj with
    | 0, hj | 1, hj | 2, hj | 3, hj => cases Option.some.inj hj; exact ⟨rfl, rfl⟩
    | j + 4, hj => simp [gl, insL] at hj
  refine ⟨fun j i hj => ?_, fun j k a b _ ha _ l hl => ?_⟩
  · obtain ⟨e1, e2⟩ := key j i hj
    rw [e1, e2]
    exact OwnF.nil _ _ _ _ _
  · rw [(key j a ha).1] at hl
    simp [Value.ownBlock] at hl
/-- What the simulation returns: slices in blocks of their own. -/
theorem SrvGot.gp {base : Nat} {ts : List T3} {js : List J4} {ss : List A2} {als : List (List A2)} {e : Ending} {w' : World} (h : SrvGot base ts js ss als e w') :
    ∃ (ra fa ca sa : Option Addr) (rc fc cc sc : Nat) (iv : Nat → Value), e = .returned (.agg #[.slice ra (lN ts js ss als) rc, .slice fa (lM ts js ss als) fc, .slice ca (lN ts js ss als) cc, .slice sa (lS ts js ss als) sc]) ∧
      Pool w' base (gl (.slice ra (lN ts js ss als) rc) (.slice fa (lM ts js ss als) fc) (.slice ca (lN ts js ss als) cc) (.slice sa (lS ts js ss als) sc) iv (lN ts js ss als) (lM ts js ss als) (lS ts js ss als) als (fun u => optI ((cbOf js ss als).run u)) ((cbOf js ss als).fin 120) (fun u => optI ((cbOf js ss als).K u)) ((cbOf js ss als).dn 120) []) := by
  unfold lN lM lS
  rcases h with ⟨hok, vr, vf, vc, vs, iv, rfl, hp⟩ | ⟨hok, rfl⟩
  · rw [if_pos hok, if_pos hok, if_pos hok]
    obtain ⟨ra, rc, rfl⟩ := own_shape (hp.getI (j := 0) rfl)
    obtain ⟨fa, fc, rfl⟩ := own_shape (hp.getI (j := 1) rfl)
    obtain ⟨ca, cc, rfl⟩ := own_shape (hp.getI (j := 2) rfl)
    have ho : OwnF 47 1 w' base vs ss.length iv := hp.ow 3 _ rfl
    obtain ⟨sa, sc, rfl⟩ := own_shape ho
    refine ⟨ra, fa, ca, sa, rc, fc, cc, sc, iv, rfl, ?_⟩
    unfold gl
    rw [List.append_nil]
    exact hp
  · rw [if_neg (by rw [hok]; simp), if_neg (by rw [hok]; simp), if_neg (by rw [hok]; simp)]
    exact ⟨none, none, none, none, 0, 0, 0, 0, fun _ => .slice none 0 0, rfl, Pool.nils _ _ _ _ _ _ _ _⟩
theorem Pool.ri {base : Nat} {ra fa ca sa : Option Addr} {rc fcp cc sc n m s : Nat} {iv : Nat → Value} {als : List (List A2)} {fr ff fc : Nat → Int} {d : Nat → Nat → Int} {ext : List It} (h : Pool w base (gl (.slice ra n rc) (.slice fa m fcp) (.slice ca n cc) (.slice sa s sc) iv n m s als fr ff fc d ext)) : RI w als n m s ra fa ca sa fr ff fc d := by
  refine ⟨(h.getI (j := 0) rfl).intF', (h.getI (j := 1) rfl).intF', (h.getI (j := 2) rfl).intF', fun k hk => ?_⟩
  have ho : OwnF 47 1 w base (.slice sa s sc) s iv := h.ow 3 _ rfl
  obtain ⟨g, c, eg⟩ := ho.has (by omega)
  simp only [Value.slice.injEq] at eg
  obtain ⟨rfl, -, rfl⟩ := eg
  obtain ⟨q1, -, -, -, q5⟩ := ho.at
  have hi := h.getI (gl_row hk)
  obtain ⟨ia, ic, hv⟩ := own_shape hi
  rw [hv] at hi
  exact ⟨g, 0, ia, ic, rfl, q1, by rw [Nat.zero_add, q5 k (by omega), hv], hi.intF'⟩

end Go.Proofs.Ytipnemngphglkaa
