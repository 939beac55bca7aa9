/- Contracts of the program's identity, permutation.lowered, withLevel and AssignPriorities, and of slices.Clone of a permutation. Conditions: the slices hold what is said. -/
import Derived.Test.YtocppoobcanhiaaRespImpl
import Derived.Test.YtocppoobcanhiaaAssign
namespace Go.Proofs.Ytocppoobcanhiaa
open Go.RowKit Go.Deep

theorem run_make_perm (n : Nat) (hn : n ≤ 1099511627776) (w : World) :
    (Instr.makeSlice 53 (.int .i64 0) (.int .i64 (n : Int))).run Try.prog w = .ok (.slice (some ⟨w.heap.size, 0, none⟩) 0 n) (w.alloc (.cells (madeCells #[.int .i64 0] n) 3)) := by
  obtain ⟨i, hi, hz, hs, hb⟩ := info_parts intInfo
  have h := run_make (P := Try.prog) w 53 3 i _ Try.underlying53 hi hz .i64 .i64 0 (n : Int) (by omega) (by omega) (by rw [hb]; omega) (by omega)
  rw [hs] at h
  simpa [Value.cells] using h
theorem own_made0 (w : World) (n : Nat) (f : Nat → Int) (hn : n ≤ maxLen) : OwnI (w.alloc (.cells (madeCells #[.int .i64 0] n) 3)) w.heap.size (.slice (some ⟨w.heap.size, 0, none⟩) 0 n) 0 f :=
  ⟨rfl, .inr ⟨w.heap.size, n, _, rfl, Nat.le_refl _, blk_alloc_new _ _, Nat.zero_le _, hn, by rw [size_madeCells, Nat.mul_one], by simp [vals]⟩⟩

set_option maxHeartbeats 1000000 in
/-- impl.identity. -/
theorem identity_any (n : Nat) (w : World) (hn : n ≤ 1000) :
    Calls Try.prog 55 #[.int .i64 n] w fun e w' =>
      (∃ v, e = .returned v ∧ OwnI w' w.heap.size v n (fun k => (k : Int)) ∧ v ≠ .slice none 0 0) ∧ Below w.heap.size w w' := by
  obtain ⟨i0, hi, hz, hsz, hby⟩ := info_parts intInfo
  have HI := Lib.hid (And.intro hi (And.intro hz (And.intro hsz hby)))
  clear hi hz hsz hby
  have hmk := run_make_perm n (by omega)
  go_enter Try.func55, Try.ntmps55
  go_wp2
  clear hmk
  go_loopg [3, 8] n (fun m s i wr => ∃ k : Nat, m + k = n ∧ i = .int .i64 k ∧ OwnI wr w.heap.size s k (fun k => (k : Int)) ∧ s ≠ .slice none 0 0 ∧ Below w.heap.size w wr)
  case atStart => exact ⟨0, rfl, rfl, own_made0 w n _ (by unfold maxLen; omega), by simp, below_box _ _⟩
  case round =>
    obtain ⟨k, hk, rfl, ho, hnn, B⟩ := hrel
    have HK := Lib.hid hk
    have HO := Lib.hid ho
    have HNN := Lib.hid hnn
    have hkk : k ≤ n := by omega
    clear hk ho hnn
    by_cases hlt : k < n
    · go_wp2_with (at_builtin; refine wpList_append_at _ rfl (.tmp 11) (.tmp 13) 53 rfl w.heap.size 3 i0 _ 1 8 Try.underlying53 HI.out.1 HI.out.2.1 HI.out.2.2.1 HI.out.2.2.2 rfl (by decide) _ k (vals (fun k => (k : Int)) k) rfl (World.ownsRow.alloc HO.out _) ⟨wr.heap.size, 0, none⟩ 1 1 [.int .i64 (k : Int)] rfl rfl (news1 _ _ _) (one1 _) (by unfold maxLen; omega) (by omega) (Nat.le_trans B.size (below_box _ _).size) (by decide) ?_; intro v' w' hown' hgrow hat hnil)
      have B1 : Below w.heap.size w w' := (B.trans ((below_box wr _).mono B.size)).grown hgrow (Nat.le_trans B.size (below_box _ _).size) (fun k hk => HO.out.from k hk)
      have HO1 := Lib.hid (show OwnI w' w.heap.size v' (k + 1) (fun k => (k : Int)) by unfold OwnI; rw [vals_succ]; exact hown')
      have HN1 := Lib.hid hnil
      clear hown' hgrow hnil hat
      go_roundg (gk - 1)
      case measure => have := HK.out; omega
      case rel => exact ⟨k + 1, by have := HK.out; omega, by go_num, HO1.out, HN1.out, B1⟩
    · obtain rfl : k = n := by omega
      go_wp2
      go_ret
      exact ⟨⟨_, rfl, HO.out, HNN.out⟩, B⟩

theorem addr_add' (b off j : Nat) : (⟨b, off, none⟩ : Addr).add j = ⟨b, off + j, none⟩ := by
  unfold Addr.add
  split
  · simp_all
  · rfl
theorem IntF.news {w w' : World} {b off n : Nat} {f : Nat → Int} (h : IntF w (some ⟨b, off, none⟩) n f) (hb : Below w.heap.size w w') (m k : Nat) (hm : m + k ≤ n) : ∀ (j : Nat) (u : Value), (vals (fun j => f (m + j)) k)[j]? = some u → w'.cell? ((⟨b, off + m, none⟩ : Addr).add j) = some u := by
  intro j u hj
  have hjk : j < k := by have := (List.getElem?_eq_some_iff.1 hj).1; rwa [vals_len] at this
  rw [vals_at _ hjk] at hj
  simp only [Option.some.injEq] at hj
  subst hj
  obtain ⟨b', off', e, hlt, c⟩ := h (m + j) (by omega)
  simp only [Option.some.injEq, Addr.mk.injEq, and_true] at e
  obtain ⟨rfl, rfl⟩ := e
  rw [addr_add', Nat.add_assoc]
  exact (hb.cell (p := ⟨b, off + (m + j), none⟩) hlt).trans c
theorem vals_one (f : Nat → Int) (n : Nat) : ∀ u ∈ vals f n, u.oneCell' = true := by
  intro u hu
  simp only [vals, List.mem_map] at hu
  obtain ⟨k, _, rfl⟩ := hu
  rfl

set_option maxRecDepth 100000 in
set_option maxHeartbeats 1000000 in
/-- slices.Clone of a permutation that is not nil. -/
theorem clone_any (b off cap n : Nat) (f : Nat → Int) (w : World) (hf : IntF w (some ⟨b, off, none⟩) n f) (hn : n ≤ 1000) (hn1 : 1 ≤ n) :
    Calls Try.prog 87 #[.slice (some ⟨b, off, none⟩) n cap] w fun e w' =>
      (∃ v, e = .returned v ∧ OwnI w' w.heap.size v n f) ∧ Below w.heap.size w w' := by
  obtain ⟨i0, hi, hz, hsz, hby⟩ := info_parts intInfo
  have HI := Lib.hid (And.intro hi (And.intro hz (And.intro hsz hby)))
  clear hi hz hsz hby
  have HF := Lib.hid hf
  clear hf
  have hq : ∀ w : World, (binOp .eql 53 (.slice (some ⟨b, off, none⟩) n cap) (.slice none 0 0)).run Try.prog w = .ok (.bool false) w := fun w => Lib.run_eql_slice_nil w _ _ (some ⟨b, off, none⟩) n cap 0 0 Try.underlying53
  go_enter Try.func87, Try.ntmps87
  go_wp2_with (at_builtin; refine wpList_append_at _ rfl (.tmp 5) (.tmp 6) 53 rfl w.heap.size 3 i0 _ 1 8 Try.underlying53 HI.out.1 HI.out.2.1 HI.out.2.2.1 HI.out.2.2.2 rfl (by decide) _ 0 (vals f 0) rfl (OwnI.empty w f) ⟨b, off, none⟩ n cap (vals f n) rfl (by rw [vals_len, Nat.mul_one]) (fun j u hj => by have := HF.out.news (below_box w (.cells #[] 3)) 0 n (by omega) j u (by simpa using hj); simpa using this) (vals_one f n) (by unfold maxLen; omega) (by omega) (below_box _ _).size (by omega) ?_; intro v' w' hown' hgrow hat hnil)
  have HO := Lib.hid (show OwnI w' w.heap.size v' n f by unfold OwnI; simpa [vals] using hown')
  have HB := Lib.hid (show Below w.heap.size w w' from (below_box w _).grown hgrow (below_box w _).size (fun k hk => (OwnI.empty w f).from k hk))
  clear hown' hgrow hnil hat
  go_wp2
  go_ret
  exact ⟨⟨_, rfl, HO.out⟩, HB.out⟩

theorem low_cells {f : Nat → Int} {n i j : Nat} {cur : List Value} (hij : i ≤ j) (hj : j < n) (hc : cur.take n = vals f n) : ∀ k, k < n → (splice cur i (vals (fun m => f (i + 1 + m)) (j - i)))[k]? = some (.int .i64 (if i ≤ k ∧ k < j then f (k + 1) else f k)) := by
  have hl : n ≤ cur.length := by
    have := congrArg List.length hc
    rw [List.length_take, vals_len] at this
    omega
  have hk0 : ∀ k, k < n → cur[k]? = some (.int .i64 (f k)) := fun k hk => by rw [← List.getElem?_take_of_lt hk, hc, vals_at f hk]
  intro k hk
  unfold splice
  rw [vals_len]
  by_cases h1 : k < i
  · rw [List.getElem?_append_left (by rw [List.length_take]; omega), List.getElem?_take_of_lt h1, hk0 k hk, if_neg (by omega)]
  · rw [List.getElem?_append_right (by rw [List.length_take]; omega), List.length_take, Nat.min_eq_left (by omega)]
    by_cases h2 : k < j
    · rw [List.getElem?_append_left (by rw [vals_len]; omega), vals_at _ (by omega), if_pos (by omega)]
      congr 3
      omega
    · rw [List.getElem?_append_right (by rw [vals_len]; omega), vals_len, List.getElem?_drop, if_neg (by omega)]
      have e : i + (j - i) + (k - i - (j - i)) = k := by omega
      rw [e]
      exact hk0 k hk

theorem own_spliced {f : Nat → Int} {base g n vcap i j : Nat} {cur : Array Value} {w2 : World} (hij : i ≤ j) (hj : j < n) (hg : base ≤ g) (hnv : n ≤ vcap) (hvm : vcap ≤ maxLen) (hsz : cur.size = vcap * 1) (htk : cur.toList.take (n * 1) = vals f n)
    (hw : w2.heap[g]? = some (.cells (splice cur.toList i (vals (fun m => f (i + 1 + m)) (j - i))).toArray 3 (0, 0))) :
    OwnI w2 base (.slice (some ⟨g, 0, none⟩) n vcap) n (fun k => if i ≤ k ∧ k < j then f (k + 1) else f k) := by
  have hl : cur.toList.length = vcap := by rw [Array.length_toList, hsz, Nat.mul_one]
  refine ⟨by rw [vals_len, Nat.mul_one], .inr ⟨g, vcap, _, rfl, hg, hw, hnv, hvm, ?_, ?_⟩⟩
  · rw [List.size_toArray, length_splice _ _ _ (by rw [vals_len, hl]; omega), hl, Nat.mul_one]
  · rw [Nat.mul_one] at htk ⊢
    apply List.ext_getElem?
    intro k
    by_cases hk : k < n
    · rw [List.getElem?_take_of_lt hk, vals_at _ hk]
      exact low_cells hij hj htk k hk
    · rw [List.getElem?_eq_none (by rw [List.length_take]; omega), List.getElem?_eq_none (by rw [vals_len]; omega)]

set_option maxRecDepth 100000 in
set_option maxHeartbeats 2000000 in
/-- impl.permutation.lowered: the entry at place i goes down to place j. -/
theorem lowered_any (b off cap n i j : Nat) (f : Nat → Int) (w : World) (hf : IntF w (some ⟨b, off, none⟩) n f) (hn : n ≤ 1000) (hij : i ≤ j) (hj : j < n) (hnc : n ≤ cap) :
    Calls Try.prog 74 #[.slice (some ⟨b, off, none⟩) n cap, .int .i64 i, .int .i64 j] w fun e w' =>
      (∃ v, e = .returned v ∧ OwnI w' w.heap.size v n (lowF f i j)) ∧ Below w.heap.size w w' := by
  have HF := Lib.hid hf
  clear hf
  go_enter Try.func74, Try.ntmps74
  go_wp2_with fail
  refine (clone_any _ _ _ _ _ _ HF.out hn (by omega)).mono ?_
  rintro e w1 ⟨⟨v, rfl, hov⟩, b1⟩
  obtain ⟨_, ⟨_, e0⟩ | ⟨g, vcap, cur, rfl, hg, hblk, hnv, hvm, hsz, htk⟩⟩ := hov
  · omega
  have F1 := Lib.hid (HF.out.below b1)
  obtain ⟨_, _, e, hbw, _⟩ := HF.out i (by omega)
  simp only [Option.some.injEq, Addr.mk.injEq, and_true] at e
  obtain ⟨rfl, rfl⟩ := e
  have hi0 : (0 : Int) ≤ i := by omega
  have hi1 : (i : Int) ≤ n := by omega
  have hi2 : (0 : Int) ≤ (i : Int) + 1 := by omega
  have hj1 : (j : Int) + 1 ≤ cap := by omega
  have hj2 : (i : Int) + 1 ≤ (j : Int) + 1 := by omega
  have hvi : ¬ vcap = i := by omega
  have HB := Lib.hid (And.intro hblk (And.intro hsz htk))
  clear hblk hsz htk
  have hw1 : IntKind.i64.wrap ((i : Int) + 1) = (i : Int) + 1 := IntWalk.i64_in _ (by omega)
  have hw2 : IntKind.i64.wrap ((j : Int) + 1) = (j : Int) + 1 := IntWalk.i64_in _ (by omega)
  have ht1 : ((i : Int) + 1).toNat = i + 1 := by omega
  have ht2 : ((j : Int) + 1).toNat = j + 1 := by omega
  have hmx : max ((j : Int) + 1) 0 = (j : Int) + 1 := by omega
  have hj3 : (0 : Int) ≤ (j : Int) + 1 := by omega
  go_wp2
  refine wp_region_still_tail 9 (by kernel_rfl) (by kernel_rfl) ?_
  simp only [List.take_succ_cons, List.take_zero, List.drop_succ_cons, List.drop_zero]
  change wpStill _ _ w1.drew (fun a' => wpList _ _ _ _ a' w1.drew) _ _
  iterate 9 still_step
  refine wpStill_nil ?_
  refine wpList_copy_splice rfl (.tmp 12) (.tmp 18) 53 53 rfl 3 Try.underlying53 (by kernel_rfl) _ _ _ _ _ _ rfl rfl g i cur.toList 3 (by show w1.heap[g]? = _; simpa using HB.out.1) (vals (fun m => f (i + 1 + m)) (j - i))
    (by rw [vals_len]; show _ = min _ _; omega) (fun hp => ⟨rfl, ⟨b, off + (i + 1), none⟩, by rw [vals_len] at hp; exact if_neg (by omega), F1.out.news (Below.refl _ _).drew (i + 1) (j - i) (by omega)⟩)
    (by have := HB.out.2.1; rw [vals_len, Array.length_toList]; omega) (vals_one _ _) w.heap.size w b1.drew hg ?_
  intro w2 hw2 b2
  have OW := Lib.hid (own_spliced hij hj hg hnv hvm HB.out.2.1 HB.out.2.2 hw2.out)
  have F2 := Lib.hid (show w2.cell? ⟨b, off + i, none⟩ = some (.int .i64 (f i)) by
    obtain ⟨b', off', e, hlt, c⟩ := HF.out i (by omega)
    simp only [Option.some.injEq, Addr.mk.injEq, and_true] at e
    obtain ⟨rfl, rfl⟩ := e
    exact (b2.cell (p := ⟨b, off + i, none⟩) hlt).trans c)
  have c0 := F2.out
  have hcell := OW.out.cellAt hj
  have z0 := hcell.1
  have z1 := hcell.2.1
  have B2 := Lib.hid b2
  have hi3 : (i : Int) < n := by omega
  have hj4 : (j : Int) < n := by omega
  have hj5 : (0 : Int) ≤ j := by omega
  clear hcell hw2 b2
  go_wp2
  · go_ret
    exact ⟨⟨_, rfl, (OW.out.set hj (f i)).congr fun k _ => rfl⟩, B2.out.setCell hg _⟩
  · go_ret
    exact ⟨⟨_, rfl, (OW.out.set hj (f i)).congr fun k _ => rfl⟩, B2.out.setCell hg _⟩

/-- What withLevel returns: the order with one task lowered to level L. -/
def GotLevel (base : Nat) (ts : List T3) (low : List Int) (e : Ending) (w' : World) : Prop :=
  match pickA ts low ts.length with
  | some x => ∃ v, e = .returned (.tuple #[v, .bool true]) ∧ OwnI w' base v ts.length (fun k => (unL ((x : Int) :: low) ts.length ++ (x : Int) :: low).getD k 0)
  | none => e = .returned (.tuple #[.slice none 0 0, .bool false])

set_option maxHeartbeats 2000000 in
/-- impl.permutation.withLevel. -/
theorem withLevel_any (b off cap tcap L : Nat) (ta : Option Addr) (ts : List T3) (low : List Int) (w : World) (hr : Row w ta ts) (hf : IntF w (some ⟨b, off, none⟩) ts.length fun k => (unL low ts.length ++ low).getD k 0) (hs : svB ts = true) (hlow : Low ts low) (hL : (unL low ts.length).length = L + 1) (hc : ts.length ≤ cap) :
    Calls Try.prog 56 #[.slice (some ⟨b, off, none⟩) ts.length cap, .slice ta ts.length tcap, .int .i64 L] w fun e w' =>
      GotLevel w.heap.size ts low e w' ∧ Below w.heap.size w w' := by
  have HR := Lib.hid hr
  have HF := Lib.hid hf
  have HS := Lib.hid hs
  have HLO := Lib.hid hlow
  have HL := Lib.hid hL
  have hn5 := (sv_all hs).2
  have hLn : L < ts.length := by have := au_len hs hlow; omega
  clear hr hf hs hlow hL
  have hw1 : IntKind.i64.wrap ((L : Int) + 1) = ((L + 1 : Nat) : Int) := by rw [IntWalk.i64_in _ (by omega)]; omega
  go_enter Try.func56, Try.ntmps56
  go_wp2
  go_loopg [14] (L + 1) (fun m z wr => ∃ i : Nat, m + i = L + 1 ∧ z = .int .i64 i ∧ (∀ j y : Nat, j < i → (unL low ts.length)[j]? = some (y : Int) → fitB ts low y = false) ∧ Below w.heap.size w wr)
  case atStart => exact ⟨0, rfl, rfl, fun j y h => absurd h (Nat.not_lt_zero _), Below.refl _ _⟩
  case round =>
    obtain ⟨i, hi, rfl, hno, B⟩ := hrel
    have HK := Lib.hid hi
    have HN := Lib.hid hno
    have hil : i ≤ L + 1 := by omega
    clear hi hno
    by_cases hlt : i < L + 1
    · have hlt' : (i : Int) < ((L + 1 : Nat) : Int) := by omega
      obtain ⟨x, hx, hlw, hxl⟩ := au_low HL.out (show i ≤ L by omega)
      have hxm := unL_mem.1 (List.mem_of_getElem? hx)
      have hxn : x < ts.length := by omega
      have hres := au_resp (ts := ts) hxm.2 hxl
      have HX := Lib.hid hx
      have hord : ordB ts (unL ((x : Int) :: low) ts.length ++ (x : Int) :: low) = true := by
        have h0 := ordB_iff.1 (au_ord HS.out HLO.out)
        have hlen := lowL_len (os := unL low ts.length ++ low) (i := i) (j := L) (by rw [h0.2.1]; omega) (by rw [h0.2.1]; omega)
        have hnd : (unL ((x : Int) :: low) ts.length ++ (x : Int) :: low).Nodup := List.nodup_append.2 ⟨unL_nd _ _, List.nodup_cons.2 ⟨hxm.2, HLO.out.nd⟩, fun a ha c hc e => by subst e; exact (unL_mem.1 ha).2 hc⟩
        refine ordB_iff.2 ⟨HS.out, by rw [← hlw, hlen]; exact h0.2.1, fun y hy => ?_, hnd⟩
        rcases List.mem_append.1 hy with h | h
        · exact (unL_mem.1 h).1
        · rcases List.mem_cons.1 h with e | e
          · omega
          · exact HLO.out.rng y e
      have hol : (unL ((x : Int) :: low) ts.length ++ (x : Int) :: low).length = ts.length := (ordB_iff.1 hord).2.1
      have hat : ∀ k, k < ts.length → lowF (fun k => (unL low ts.length ++ low).getD k 0) i L k = (unL ((x : Int) :: low) ts.length ++ (x : Int) :: low).getD k 0 := fun k hk => by
        rw [← hlw, lowL_at (by omega) (by rw [(ordB_iff.1 (au_ord HS.out HLO.out)).2.1]; omega)]
      obtain ⟨c, hcc⟩ : ∃ c, c = unL ((x : Int) :: low) ts.length ++ (x : Int) :: low := ⟨_, rfl⟩
      rw [← hcc] at hord hol hat hres
      have HA := Lib.hid hat
      have HC := Lib.hid hcc
      have HO := Lib.hid hord
      have HRS := Lib.hid hres
      have HOL := Lib.hid hol
      clear hx hlw hxl hxm hres hord hol hat hcc
      have CL := Lib.hid (lowered_any b off cap ts.length i L (fun k => (unL low ts.length ++ low).getD k 0) wr (HF.out.below B) (by omega) (by omega) hLn hc)
      go_wp2_with fail
      refine CL.out.mono ?_
      rintro e w1 ⟨⟨v, rfl, hov⟩, b1⟩
      obtain ⟨g, vcap, rfl, hg1, hg2, hvc, _, _⟩ := hov.at (by omega)
      have OV := Lib.hid (hov.congr HA.out)
      have B1 := B.trans (b1.mono B.size)
      clear hov CL
      have CR := response_any ta (some ⟨g, 0, none⟩) tcap vcap ts c L w1 (HR.out.below B1) (by have := OV.out.intF'; rw [HOL.out]; exact this) (by rw [HOL.out]; exact hvc) HO.out (by rw [HOL.out]; exact hLn)
      rw [HOL.out] at CR
      have CR := Lib.hid CR
      cases hz : rspO ts c L with
      | none =>
        simp only [hz, lfpV] at CR
        go_wp2_with (go_at_call 51; refine CR.out.mono ?_; rintro e w2 ⟨rfl, b2⟩)
        go_roundg (gk - 1)
        case measure => have := HK.out; omega
        case rel => exact ⟨i + 1, by have := HK.out; omega, by go_num, fun j y hj hy => by
          by_cases e : j = i
          · subst e
            have e2 := HX.out.symm.trans hy
            simp only [Option.some.injEq, Int.natCast_inj] at e2
            subst e2
            rw [← HRS.out, hz]
            rfl
          · exact HN.out j y (by omega) hy, B1.trans (b2.mono B1.size)⟩
      | some r =>
        simp only [hz, lfpV] at CR
        go_wp2_with (go_at_call 51; refine CR.out.mono ?_; rintro e w2 ⟨rfl, b2⟩)
        go_ret2
        refine ⟨?_, B1.trans (b2.mono B1.size)⟩
        have hp : pickA ts low ts.length = some x := au_pick HX.out (by rw [← HRS.out, hz]; rfl) HN.out
        unfold GotLevel
        rw [hp]
        exact ⟨_, rfl, by rw [← HC.out]; exact (OV.out.below b2).mono B.size⟩
    · obtain rfl : i = L + 1 := by omega
      go_wp2
      go_ret2
      refine ⟨?_, B⟩
      have hp : pickA ts low ts.length = none := au_pick_none fun j y hy => HN.out j y (by have := (List.getElem?_eq_some_iff.1 hy).1; have := HL.out; omega) hy
      unfold GotLevel
      rw [hp]
      rfl

end Go.Proofs.Ytocppoobcanhiaa
