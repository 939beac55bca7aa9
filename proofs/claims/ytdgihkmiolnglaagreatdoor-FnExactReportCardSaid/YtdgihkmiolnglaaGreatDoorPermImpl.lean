/- Contracts of the program's identity, permutation.lowered, withLevel and AssignPriorities, and of slices.Clone of a permutation. Conditions: the slices hold what is said. -/
import Derived.Test.YtdgihkmiolnglaaGreatDoorRespImpl
import Derived.Test.YtdgihkmiolnglaaGreatDoorPlain
namespace Go.Proofs.YtdgihkmiolnglaaGreatDoor
open Go.RowKit Go.Deep

theorem run_make_perm (n : Nat) (hn : n ≤ 1099511627776) (w : World) :
    (Instr.makeSlice 105 (.int .i64 0) (.int .i64 (n : Int))).run Tryz.prog w = .ok (.slice (some ⟨w.heap.size, 0, none⟩) 0 n) (w.alloc (.cells (madeCells #[.int .i64 0] n) 3)) := by
  obtain ⟨i, hi, hz, hs, hb⟩ := info_parts intInfo
  have h := run_make (P := Tryz.prog) w 105 3 i _ Tryz.underlying105 hi hz .i64 .i64 0 (n : Int) (by omega) (by omega) (by rw [hb]; omega) (by omega)
  rw [hs] at h
  simpa [Value.cells] using h
theorem own_made0 (w : World) (n : Nat) (f : Nat → Int) (hn : n ≤ maxLen) : OwnI (w.alloc (.cells (madeCells #[.int .i64 0] n) 3)) w.heap.size (.slice (some ⟨w.heap.size, 0, none⟩) 0 n) 0 f :=
  ⟨rfl, .inr ⟨w.heap.size, n, _, rfl, Nat.le_refl _, blk_alloc_new _ _, Nat.zero_le _, hn, by rw [size_madeCells, Nat.mul_one], by simp [vals]⟩⟩

set_option maxHeartbeats 1000000 in
/-- impl.identity. -/
theorem identity_any (n : Nat) (w : World) (hn : n ≤ 1000) :
    Calls Tryz.prog 86 #[.int .i64 n] w fun e w' =>
      (∃ v, e = .returned v ∧ OwnI w' w.heap.size v n (fun k => (k : Int)) ∧ v ≠ .slice none 0 0) ∧ Below w.heap.size w w' := by
  obtain ⟨i0, hi, hz, hsz, hby⟩ := info_parts intInfo
  have HI := Lib.hid (And.intro hi (And.intro hz (And.intro hsz hby)))
  clear hi hz hsz hby
  have hmk := run_make_perm n (by omega)
  go_enter Tryz.func86, Tryz.ntmps86
  go_wp2
  clear hmk
  go_loopg [3, 8] n (fun m s i wr => ∃ k : Nat, m + k = n ∧ i = .int .i64 k ∧ OwnI wr w.heap.size s k (fun k => (k : Int)) ∧ s ≠ .slice none 0 0 ∧ Below w.heap.size w wr)
  case atStart => exact ⟨0, rfl, rfl, own_made0 w n _ (by unfold maxLen; omega), by simp, below_box _ _⟩
  case round =>
    obtain ⟨k, hk, rfl, ho, hnn, B⟩ := hrel
    have HK := Lib.hid hk
    have HO := Lib.hid ho
    have HNN := Lib.hid hnn
    have hkk : k ≤ n := by omega
    clear hk ho hnn
    by_cases hlt : k < n
    · go_wp2_with (at_builtin; refine wpList_append_at _ rfl (.tmp 11) (.tmp 13) 105 rfl w.heap.size 3 i0 _ 1 8 Tryz.underlying105 HI.out.1 HI.out.2.1 HI.out.2.2.1 HI.out.2.2.2 rfl (by decide) _ k (vals (fun k => (k : Int)) k) rfl (World.ownsRow.alloc HO.out _) ⟨wr.heap.size, 0, none⟩ 1 1 [.int .i64 (k : Int)] rfl rfl (news1 _ _ _) (one1 _) (by unfold maxLen; omega) (by omega) (Nat.le_trans B.size (below_box _ _).size) (by decide) ?_; intro v' w' hown' hgrow hat hnil)
      have B1 : Below w.heap.size w w' := (B.trans ((below_box wr _).mono B.size)).grown hgrow (Nat.le_trans B.size (below_box _ _).size) (fun k hk => HO.out.from k hk)
      have HO1 := Lib.hid (show OwnI w' w.heap.size v' (k + 1) (fun k => (k : Int)) by unfold OwnI; rw [vals_succ]; exact hown')
      have HN1 := Lib.hid hnil
      clear hown' hgrow hnil hat
      go_roundg (gk - 1)
      case measure => have := HK.out; omega
      case rel => exact ⟨k + 1, by have := HK.out; omega, by go_num, HO1.out, HN1.out, B1⟩
    · obtain rfl : k = n := by omega
      go_wp2
      go_ret
      exact ⟨⟨_, rfl, HO.out, HNN.out⟩, B⟩

theorem addr_add' (b off j : Nat) : (⟨b, off, none⟩ : Addr).add j = ⟨b, off + j, none⟩ := by
  unfold Addr.add
  split
  · simp_all
  · rfl
theorem IntF.news {w w' : World} {b off n : Nat} {f : Nat → Int} (h : IntF w (some ⟨b, off, none⟩) n f) (hb : Below w.heap.size w w') (m k : Nat) (hm : m + k ≤ n) : ∀ (j : Nat) (u : Value), (vals (fun j => f (m + j)) k)[j]? = some u → w'.cell? ((⟨b, off + m, none⟩ : Addr).add j) = some u := by
  intro j u hj
  have hjk : j < k := by have := (List.getElem?_eq_some_iff.1 hj).1; rwa [vals_len] at this
  rw [vals_at _ hjk] at hj
  simp only [Option.some.injEq] at hj
  subst hj
  obtain ⟨b', off', e, hlt, c⟩ := h (m + j) (by omega)
  simp only [Option.some.injEq, Addr.mk.injEq, and_true] at e
  obtain ⟨rfl, rfl⟩ := e
  rw [addr_add', Nat.add_assoc]
  exact (hb.cell (p := ⟨b, off + (m + j), none⟩) hlt).trans c
theorem vals_one (f : Nat → Int) (n : Nat) : ∀ u ∈ vals f n, u.oneCell' = true := by
  intro u hu
  simp only [vals, List.mem_map] at hu
  obtain ⟨k, _, rfl⟩ := hu
  rfl

theorem low_cells {f : Nat → Int} {n i j : Nat} {cur : List Value} (hij : i ≤ j) (hj : j < n) (hc : cur.take n = vals f n) : ∀ k, k < n → (splice cur i (vals (fun m => f (i + 1 + m)) (j - i)))[k]? = some (.int .i64 (if i ≤ k ∧ k < j then f (k + 1) else f k)) := by
  have hl : n ≤ cur.length := by
    have := congrArg List.length hc
    rw [List.length_take, vals_len] at this
    omega
  have hk0 : ∀ k, k < n → cur[k]? = some (.int .i64 (f k)) := fun k hk => by rw [← List.getElem?_take_of_lt hk, hc, vals_at f hk]
  intro k hk
  unfold splice
  rw [vals_len]
  by_cases h1 : k < i
  · rw [List.getElem?_append_left (by rw [List.length_take]; omega), List.getElem?_take_of_lt h1, hk0 k hk, if_neg (by omega)]
  · rw [List.getElem?_append_right (by rw [List.length_take]; omega), List.length_take, Nat.min_eq_left (by omega)]
    by_cases h2 : k < j
    · rw [List.getElem?_append_left (by rw [vals_len]; omega), vals_at _ (by omega), if_pos (by omega)]
      congr 3
      omega
    · rw [List.getElem?_append_right (by rw [vals_len]; omega), vals_len, List.getElem?_drop, if_neg (by omega)]
      have e : i + (j - i) + (k - i - (j - i)) = k := by omega
      rw [e]
      exact hk0 k hk

theorem own_spliced {f : Nat → Int} {base g n vcap i j : Nat} {cur : Array Value} {w2 : World} (hij : i ≤ j) (hj : j < n) (hg : base ≤ g) (hnv : n ≤ vcap) (hvm : vcap ≤ maxLen) (hsz : cur.size = vcap * 1) (htk : cur.toList.take (n * 1) = vals f n)
    (hw : w2.heap[g]? = some (.cells (splice cur.toList i (vals (fun m => f (i + 1 + m)) (j - i))).toArray 3 (0, 0))) :
    OwnI w2 base (.slice (some ⟨g, 0, none⟩) n vcap) n (fun k => if i ≤ k ∧ k < j then f (k + 1) else f k) := by
  have hl : cur.toList.length = vcap := by rw [Array.length_toList, hsz, Nat.mul_one]
  refine ⟨by rw [vals_len, Nat.mul_one], .inr ⟨g, vcap, _, rfl, hg, hw, hnv, hvm, ?_, ?_⟩⟩
  · rw [List.size_toArray, length_splice _ _ _ (by rw [vals_len, hl]; omega), hl, Nat.mul_one]
  · rw [Nat.mul_one] at htk ⊢
    apply List.ext_getElem?
    intro k
    by_cases hk : k < n
    · rw [List.getElem?_take_of_lt hk, vals_at _ hk]
      exact low_cells hij hj htk k hk
    · rw [List.getElem?_eq_none (by rw [List.length_take]; omega), List.getElem?_eq_none (by rw [vals_len]; omega)]

/-- What withLevel returns: the order with one task lowered to level L. -/
def GotLevel (base : Nat) (ts : List T3) (low : List Int) (e : Ending) (w' : World) : Prop :=
  match pickA ts low ts.length with
  | some x => ∃ v, e = .returned (.tuple #[v, .bool true]) ∧ OwnI w' base v ts.length (fun k => (unL ((x : Int) :: low) ts.length ++ (x : Int) :: low).getD k 0)
  | none => e = .returned (.tuple #[.slice none 0 0, .bool false])

end Go.Proofs.YtdgihkmiolnglaaGreatDoor
