/- Contracts of the reference's text functions: l10Plain, l10Num, l10Fields. Conditions: those of each theorem. -/
import Derived.Test.YtdgihkmiolnglaaGreatDoorTxtMem
import Derived.Laws.IdiomStrings
import Derived.Deep.RegionWith
import Derived.BigQuiet
namespace Go.Proofs.YtdgihkmiolnglaaGreatDoor
open Go.RowKit Go.Deep

theorem run_str1 (w : World) (x : Int) (d : Nat) (c : UInt8) (hx : x = (d : Int)) (hc : c = UInt8.ofNat d) (hd : d < 256) :
    (convert 22 9 (.slice (some ⟨w.heap.size, 0, none⟩) 1 1)).run Tryz.prog (w.alloc (.cells #[.int .u8 x] 5)) = .ok (.string (bs [c])) (w.alloc (.cells #[.int .u8 x] 5)) := by
  subst hx
  subst hc
  have h := run_convert_bytes_back (P := Tryz.prog) (w.alloc (.cells #[.int .u8 (d : Int)] 5)) 22 9 5 ⟨w.heap.size, 0, none⟩ 1 [UInt8.ofNat d] Tryz.underlying22 Tryz.underlying5 Tryz.underlying9 (fun j hj => by
    obtain rfl : j = 0 := by simpa using hj
    simp [Addr.add, go_sem]
    omega)
  exact h
theorem ret_str {l m : List UInt8} (h : l = m) : Ending.returned (.string (bs l)) = .returned (.string (bs m)) := by rw [h]
theorem run_add_bs {P : Program} (w : World) (l m : List UInt8) (h : l.length + m.length ≤ 4000000000000000000) :
    (Op.stringOp .add (bs l) (bs m)).run P w = .ok (.string (bs (l ++ m))) w := by
  rw [run_string_add_sum w _ _ (by rw [bs_size, bs_size]; omega), bs_append]

set_option maxRecDepth 100000 in
set_option maxHeartbeats 1000000 in
/-- spec.l10Plain. -/
theorem l10Plain_any (N : Nat) (w : World) (hN : N < 1000000000000) :
    Calls Tryz.prog 30 #[.int .i64 (N : Int)] w fun e w' => e = .returned (.string (bs (Lib.decDigits N))) ∧ Below w.heap.size w w' := by
  have hL := dec_len_big 11 N (by omega)
  have HL := Lib.hid hL
  have HN := Lib.hid hN
  clear hL hN
  go_enter Tryz.func30, Tryz.ntmps30
  go_wp2
  go_loopg [0, 3] N (fun m vn vo wr => ∃ (n : Nat) (o : List UInt8), m = n ∧ vn = .int .i64 (n : Int) ∧ vo = .string (bs o) ∧ Lib.decDigits n ++ o = Lib.decDigits N ∧ n ≤ N ∧ Below w.heap.size w wr)
  case atStart => exact ⟨N, [], rfl, rfl, rfl, by simp, Nat.le_refl _, Below.refl _ _⟩
  case round =>
    obtain ⟨n, o, hmn, rfl, rfl, hdec, hle, B⟩ := hrel
    have HM := Lib.hid hmn
    have HD := Lib.hid hdec
    have HLE := Lib.hid hle
    have HB := Lib.hid B
    have hsz : o.length ≤ 12 := by
      have e := congrArg List.length hdec
      rw [List.length_append] at e
      have := HL.out
      omega
    clear hdec hle B hmn
    by_cases h9 : n < 10
    · have h9' : ¬ (9 : Int) < n := by omega
      obtain ⟨c, hc⟩ : ∃ c, c = UInt8.ofNat (48 + n) := ⟨_, rfl⟩
      have hcv := run_str1 wr (48 + (n : Int)) (48 + n) c (by omega) hc (by omega)
      have hadd := fun w => run_add_bs (P := Tryz.prog) w [c] o (by simp; omega)
      have HC := Lib.hid hc
      clear hc hsz
      go_wp2
      go_ret
      exact ⟨ret_str (by show [c] ++ o = _; rw [HC.out, ← dec_one h9, HD.out]), HB.out.alloc (HB.out.size) _⟩
    · have h9' : (9 : Int) < n := by omega
      obtain ⟨c, hc⟩ : ∃ c, c = UInt8.ofNat (48 + n % 10) := ⟨_, rfl⟩
      have hcv := run_str1 wr (48 + (n : Int) % 10) (48 + n % 10) c (by omega) hc (by omega)
      have hadd := fun w => run_add_bs (P := Tryz.prog) w [c] o (by simp; omega)
      have HC := Lib.hid hc
      clear hc hsz
      go_wp2
      have hw : wrap64 ((n : Int) / 10) = ((n / 10 : Nat) : Int) := by
        have q1 := HN.out
        have q2 := HLE.out
        have q3 : wrap64 ((n : Int) / 10) = (n : Int) / 10 := IntWalk.wrap64_in _ (by omega)
        exact q3.trans (by omega)
      go_roundg (n / 10)
      case measure => have := HM.out; omega
      case rel => exact ⟨n / 10, [c] ++ o, rfl, by rw [hw], rfl, by rw [HC.out, ← List.append_assoc, ← dec_more h9, HD.out], by have := HLE.out; omega, HB.out.alloc (HB.out.size) _⟩

theorem bs_toList (l : List UInt8) : (bs l).toList = l := by rw [ByteArray.toList_eq]; simp [bs]
theorem bs_get {l : List UInt8} {i : Nat} (h : i < (bs l).size) (h' : i < l.length) : (bs l)[i]'h = l[i]'h' := by simp [bs, ByteArray.getElem_eq_getElem_data]
theorem val_take_lt (l : List UInt8) (h : l.length ≤ 2) (hd : ∀ c ∈ l, 48 ≤ c.toNat ∧ c.toNat ≤ 57) : val l < 100 := by
  match l, h, hd with
  | [], _, _ => decide
  | [a], _, hd => have := hd a (by simp); show 0 * 10 + (a.toNat - 48) < 100; omega
  | [a, b], _, hd => have := hd a (by simp); have := hd b (by simp); show (0 * 10 + (a.toNat - 48)) * 10 + (b.toNat - 48) < 100; omega
  | _ :: _ :: _ :: _, h, _ => simp at h
theorem dig_take {l : List UInt8} {i : Nat} (hi : i < l.length) (h : ∀ c ∈ l.take i, 48 ≤ c.toNat ∧ c.toNat ≤ 57) (hc : 48 ≤ (l[i]'hi).toNat ∧ (l[i]'hi).toNat ≤ 57) : ∀ c ∈ l.take (i + 1), 48 ≤ c.toNat ∧ c.toNat ≤ 57 := by
  intro c hm
  rw [List.take_succ_eq_append_getElem hi] at hm
  rcases List.mem_append.1 hm with h1 | h1
  · exact h c h1
  · simp only [List.mem_singleton] at h1; subst h1; exact hc
theorem val_take {l : List UInt8} {i : Nat} (hi : i < l.length) : val (l.take (i + 1)) = val (l.take i) * 10 + ((l[i]'hi).toNat - 48) := by
  rw [List.take_succ_eq_append_getElem hi, val_snoc]
theorem num2_bad {l : List UInt8} {i : Nat} (hi : i < l.length) (hl : l.length ≤ 2) (hc : (l[i]'hi).toNat < 48 ∨ 57 < (l[i]'hi).toNat) : num2 l = -1 := by
  unfold num2
  split
  · rfl
  · rw [if_pos]
    rw [List.all_eq_false]
    exact ⟨l[i]'hi, List.getElem_mem hi, by simp; omega⟩
theorem num2_good {l : List UInt8} (h0 : l.length ≠ 0) (hl : l.length ≤ 2) (hd : ∀ c ∈ l, 48 ≤ c.toNat ∧ c.toNat ≤ 57) : num2 l = if Lib.decDigits (val l) = l then ((val l : Nat) : Int) else -1 := by
  unfold num2
  rw [if_neg (by omega), if_neg]
  rw [Bool.not_eq_false, List.all_eq_true]
  intro c hc
  exact decide_eq_true (hd c hc)

set_option maxRecDepth 100000 in
set_option maxHeartbeats 1000000 in
/-- spec.l10Num. -/
theorem l10Num_any (l : List UInt8) (w : World) (hl : l.length ≤ 1048576) :
    Calls Tryz.prog 56 #[.string (bs l)] w fun e w' => e = .returned (.int .i64 (num2 l)) ∧ Below w.heap.size w w' := by
  have hs : (bs l).size = l.length := bs_size l
  by_cases h0 : l.length = 0
  · have e0 : num2 l = -1 := by rw [num2, if_pos (.inl h0)]
    rw [e0]
    have h1 : ((bs l).size : Int) = 0 := by omega
    clear e0
    go_enter Tryz.func56, Tryz.ntmps56
    go_wp2
    go_ret
    exact ⟨rfl, Below.refl _ _⟩
  by_cases h2 : 2 < l.length
  · have e0 : num2 l = -1 := by rw [num2, if_pos (.inr h2)]
    rw [e0]
    have hz : (((l.length : Nat) : Int) == 0) = false := by rw [beq_eq_false_iff_ne]; omega
    have h2' : (2 : Int) < (l.length : Nat) := by omega
    clear e0 h0 h2
    go_enter Tryz.func56, Tryz.ntmps56
    go_wp2
    go_ret
    exact ⟨rfl, Below.refl _ _⟩
  have hz : (((l.length : Nat) : Int) == 0) = false := by rw [beq_eq_false_iff_ne]; omega
  have h2' : ¬ (2 : Int) < (l.length : Nat) := by omega
  have H0 := Lib.hid h0
  have H2 := Lib.hid h2
  clear h0 h2
  go_enter Tryz.func56, Tryz.ntmps56
  go_wp2
  go_loopg [3, 4] l.length (fun q vn vi wr => ∃ i : Nat, q + i = l.length ∧ vi = .int .i64 (i : Int) ∧ vn = .int .i64 ((val (l.take i) : Nat) : Int) ∧ (∀ c ∈ l.take i, 48 ≤ c.toNat ∧ c.toNat ≤ 57) ∧ Below w.heap.size w wr)
  case atStart => exact ⟨0, by simp, rfl, by simp [val], by simp, Below.refl _ _⟩
  case round =>
    obtain ⟨i, hq, rfl, rfl, hdig, B⟩ := hrel
    have HQ := Lib.hid hq
    have HB := Lib.hid B
    have HDG := Lib.hid hdig
    have hil : i ≤ l.length := by omega
    obtain ⟨v, hv⟩ : ∃ v, v = val (l.take i) := ⟨_, rfl⟩
    have hv99 : v < 100 := by rw [hv]; exact val_take_lt _ (by rw [List.length_take]; have := H2.out; omega) hdig
    have HV := Lib.hid hv
    rw [← hv]
    clear hq B hdig hv
    by_cases hi : i < l.length
    · have hi1 : (i : Int) < (l.length : Nat) := by omega
      obtain ⟨x, hx⟩ : ∃ x : Nat, x = (l[i]'hi).toNat := ⟨_, rfl⟩
      have hgx : ((bs l)[i]'(by rw [hs]; exact hi)).toNat = x := by rw [bs_get _ hi, hx]
      have HX := Lib.hid hx
      clear hx
      by_cases hx1 : x < 48
      · have hx1' : (x : Int) < 48 := by omega
        have e0 : num2 l = -1 := num2_bad hi (by have := H2.out; omega) (by rw [← HX.out]; exact .inl hx1)
        have HE := Lib.hid e0
        clear e0
        go_wp2
        go_ret
        exact ⟨ret_int HE.out.symm, HB.out⟩
      by_cases hx2 : 57 < x
      · have hx1' : ¬ (x : Int) < 48 := by omega
        have hx2' : (57 : Int) < x := by omega
        have e0 : num2 l = -1 := num2_bad hi (by have := H2.out; omega) (by rw [← HX.out]; exact .inr hx2)
        have HE := Lib.hid e0
        clear e0
        go_wp2
        go_ret
        exact ⟨ret_int HE.out.symm, HB.out⟩
      have hx1' : ¬ (x : Int) < 48 := by omega
      have hx2' : ¬ (57 : Int) < x := by omega
      go_wp2
      go_roundg (gk - 1)
      case measure => have := HQ.out; omega
      case rel => exact ⟨i + 1, by have := HQ.out; omega, by go_num, by rw [val_take hi, ← HX.out, ← HV.out]; congr 1; omega, dig_take hi HDG.out (by rw [← HX.out]; omega), HB.out⟩
    · obtain rfl : i = l.length := by omega
      have hv2 : v = val l := by rw [HV.out, List.take_length]
      have hdg := HDG.out
      rw [List.take_length] at hdg
      have hng := num2_good H0.out (by have := H2.out; omega) hdg
      rw [← hv2] at hng
      have HNG := Lib.hid hng
      clear hv2 hng hdg
      go_wp2_with fail
      refine (l10Plain_any v _ (by omega)).mono ?_
      rintro e w1 ⟨rfl, b1⟩
      have B2 := Lib.hid (HB.out.trans (b1.mono HB.out.size))
      clear b1
      by_cases he : Lib.decDigits v = l
      · have hn := HNG.out
        rw [if_pos he] at hn
        have HN := Lib.hid hn
        have hb : ((bs (Lib.decDigits v)).toList == (bs l).toList) = true := by rw [he]; simp
        clear hn he
        go_wp2
        go_ret
        exact ⟨ret_int HN.out.symm, B2.out⟩
      · have hn := HNG.out
        rw [if_neg he] at hn
        have HN := Lib.hid hn
        have hb : ((bs (Lib.decDigits v)).toList == (bs l).toList) = false := by rw [beq_eq_false_iff_ne, bs_toList, bs_toList]; exact he
        clear hn he
        go_wp2
        go_ret
        exact ⟨ret_int HN.out.symm, B2.out⟩

set_option maxRecDepth 100000 in
set_option maxHeartbeats 1000000 in
/-- spec.l10Fields. -/
theorem l10Fields_any (l : List UInt8) (w : World) (hl : l.length ≤ 1048576) :
    Calls Tryz.prog 55 #[.string (bs l)] w fun e w' => GotL w.heap.size (fall l) e w' ∧ Below w.heap.size w w' := by
  have hs : (bs l).size = l.length := bs_size l
  obtain ⟨i0, hi, hz, hsz, hby⟩ := info_parts strInfo
  have HI := Lib.hid (And.intro hi (And.intro hz (And.intro hsz hby)))
  clear hi hz hsz hby
  go_enter Tryz.func55, Tryz.ntmps55
  go_wp2
  go_loopg [3, 4, 5] l.length (fun q vo vw vi wr => ∃ (i : Nat) (L : List (List UInt8)) (W : List UInt8), q + i = l.length ∧ vi = .int .i64 (i : Int) ∧ flds (l.take i) = (L, W) ∧ OwnL wr w.heap.size vo L ∧ vw = .string (bs W) ∧ Below w.heap.size w wr)
  case atStart => exact ⟨0, [], [], by simp, rfl, rfl, OwnL.empty w, rfl, below_box _ _⟩
  case round =>
    obtain ⟨i, L, W, hq, rfl, hf, hO, rfl, B⟩ := hrel
    obtain ⟨oa, ocap, rfl⟩ := hO.shape
    have HQ := Lib.hid hq
    have HB := Lib.hid B
    have HO := Lib.hid hO
    have HF := Lib.hid hf
    have hil : i ≤ l.length := by omega
    have hlen := flds_len (l.take i)
    rw [hf, List.length_take] at hlen
    obtain ⟨k1, k2⟩ := hlen
    simp only at k1 k2
    have hL1 : L.length ≤ 1048576 := by omega
    have hW1 : W.length ≤ 1048576 := by omega
    clear hq B hO hf k1 k2
    by_cases hi : i < l.length
    · have hi1 : (i : Int) < (l.length : Nat) := by omega
      obtain ⟨c, hc⟩ : ∃ c : UInt8, c = (l[i]'hi) := ⟨_, rfl⟩
      obtain ⟨x, hx⟩ : ∃ x : Nat, x = c.toNat := ⟨_, rfl⟩
      have hgx : ((bs l)[i]'(by rw [hs]; exact hi)).toNat = x := by rw [bs_get _ hi, hx, hc]
      have hst : flds (l.take (i + 1)) = fstep (L, W) c := by rw [flds_take hi, HF.out, hc]
      have HST := Lib.hid hst
      have HX := Lib.hid hx
      clear hx hst
      by_cases hx1 : x = 32
      · have hc32 : c = 32 := by apply UInt8.toNat_inj.1; rw [← HX.out, hx1]; rfl
        have hst := HST.out
        rw [show fstep (L, W) c = (L ++ [W], []) from if_pos hc32] at hst
        have HS2 := Lib.hid hst
        have hx1' : ((x : Int) == 32) = true := by rw [beq_iff_eq]; omega
        clear hst hc32 hx1 hc
        go_wp2_with (at_builtin; refine wpList_append_own _ rfl (.tmp 17) (.tmp 19) 23 rfl w.heap.size 9 i0 _ 1 16 Tryz.underlying23 HI.out.1 HI.out.2.1 HI.out.2.2.1 HI.out.2.2.2 rfl (by decide) _ L.length (svals L) rfl (World.ownsRow.alloc HO.out _) ⟨wr.heap.size, 0, none⟩ 1 1 [.string (bs W)] rfl rfl (newsS _ _ _) (oneS _) (by unfold maxLen; omega) (by omega) (Nat.le_trans HB.out.size (below_box _ _).size) ?_; intro v' w' hown' hgrow hnil)
        have B1 : Below w.heap.size w w' := (HB.out.trans ((below_box wr _).mono HB.out.size)).grown hgrow (Nat.le_trans HB.out.size (below_box _ _).size) (fun k hk => (HO.out.lt k hk).1)
        have HO1 := Lib.hid (OwnL.push hown')
        clear hown' hgrow hnil
        go_roundg (gk - 1)
        case measure => have := HQ.out; omega
        case rel => exact ⟨i + 1, _, _, by have := HQ.out; omega, by go_num, HS2.out, HO1.out, rfl, B1⟩
      · have hc32 : ¬ c = 32 := by rintro rfl; exact hx1 HX.out
        have hst := HST.out
        rw [show fstep (L, W) c = (L, W ++ [c]) from if_neg hc32] at hst
        have HS2 := Lib.hid hst
        have hx1' : ((x : Int) == 32) = false := by rw [beq_eq_false_iff_ne]; omega
        have hex : (bs l).extract i (i + 1) = bs [c] := by
          rw [bs_extract, List.take_succ_eq_append_getElem hi, List.drop_append_of_le_length (by rw [List.length_take]; omega), List.drop_take, hc]; simp
        have hadd := fun w => run_add_bs (P := Tryz.prog) w W [c] (by simp; omega)
        clear hst hc32 hx1 hc
        go_wp2
        go_roundg (gk - 1)
        case measure => have := HQ.out; omega
        case rel => exact ⟨i + 1, _, _, by have := HQ.out; omega, by go_num, HS2.out, HO.out, rfl, HB.out⟩
    · obtain rfl : i = l.length := by omega
      have hf := HF.out
      rw [List.take_length] at hf
      have HF2 := Lib.hid hf
      clear hf
      go_wp2_with (at_builtin; refine wpList_append_own _ rfl (.tmp 28) (.tmp 30) 23 rfl w.heap.size 9 i0 _ 1 16 Tryz.underlying23 HI.out.1 HI.out.2.1 HI.out.2.2.1 HI.out.2.2.2 rfl (by decide) _ L.length (svals L) rfl (World.ownsRow.alloc HO.out _) ⟨wr.heap.size, 0, none⟩ 1 1 [.string (bs W)] rfl rfl (newsS _ _ _) (oneS _) (by unfold maxLen; omega) (by omega) (Nat.le_trans HB.out.size (below_box _ _).size) ?_; intro v' w' hown' hgrow hnil)
      have B1 : Below w.heap.size w w' := (HB.out.trans ((below_box wr _).mono HB.out.size)).grown hgrow (Nat.le_trans HB.out.size (below_box _ _).size) (fun k hk => (HO.out.lt k hk).1)
      have HO1 := Lib.hid (OwnL.push hown')
      clear hown' hgrow hnil
      go_ret
      exact ⟨⟨_, rfl, by rw [fall, HF2.out]; exact HO1.out⟩, B1⟩

end Go.Proofs.YtdgihkmiolnglaaGreatDoor
