/- Contracts of the program's assignment.fitting, its iterator, and firstOf over it. Conditions: the slices hold what is said; what each theorem names. -/
import Derived.Test.YtdgihkmiolnglaaGreatDoorPartWith
import Derived.Test.YtdgihkmiolnglaaGreatDoorPartSeq
import Derived.Test.YtdgihkmiolnglaaGreatDoorPartGen
import Derived.RangeFuncCalls
import Derived.Shelf.Abstract
import Derived.WalkKit
import Derived.OwnWalkIn
import Derived.TacticsInMore
import Derived.LoopNIn
import Derived.LoopIn
namespace Go.Proofs.YtdgihkmiolnglaaGreatDoor
open Go.RowKit Go.Deep

attribute [local go_sem] Oper.semAt_some

/-- Three boxes: an assignment, a task set, a number. -/
def box3 (w : World) (va vs : Value) (n : Int) : World := ((w.alloc (.cells #[va] 92)).alloc (.cells #[vs] 27)).alloc (.cells #[.int .i64 n] 3)
theorem box3_at (w : World) (va vs : Value) (n : Int) : Boxed (box3 w va vs n) w.heap.size 92 va ∧ Boxed (box3 w va vs n) (w.heap.size + 1) 27 vs ∧ Boxed (box3 w va vs n) (w.heap.size + 2) 3 (.int .i64 n) ∧ Below w.heap.size w (box3 w va vs n) ∧ (box3 w va vs n).heap.size = w.heap.size + 3 := by
  have h1 := Boxed.new w 92 va
  have h2 := Boxed.new (w.alloc (.cells #[va] 92)) 27 vs
  have h3 := Boxed.new ((w.alloc (.cells #[va] 92)).alloc (.cells #[vs] 27)) 3 (.int .i64 n)
  simp only [World.size_alloc] at h2 h3
  exact ⟨(h1.alloc _).alloc _, h2.alloc _, h3, (((Below.refl _ w).alloc (Nat.le_refl _) _).alloc (by simp) _).alloc (by simp; omega) _, by simp [box3]⟩

/-- impl.assignment.fitting: three boxes and a closure. -/
theorem fitting_any (oa sa : Option Addr) (k ocap m cap : Nat) (n : Int) (w : World) :
    Calls Tryz.prog 103 #[.slice oa k ocap, .slice sa m cap, .int .i64 n] w fun e w' => e = .returned (.func (.func 122) #[] #[.pointer (some ⟨w.heap.size + 2, 0, none⟩), .pointer (some ⟨w.heap.size, 0, none⟩), .pointer (some ⟨w.heap.size + 1, 0, none⟩)]) ∧
      w' = box3 w (.slice oa k ocap) (.slice sa m cap) n := by
  go_enter Tryz.func103, Tryz.ntmps103
  go_wp2
  go_ret
  exact ⟨rfl, rfl⟩

theorem wide_deep (k : Nat) : Fence.wide.depth.isSome = true → 1 ≤ k := fun h => (by cases h)
theorem grown_below {A B : World} (h : Below A.heap.size A B) : A.grownBy B none := ⟨h.os, h.tape, h.output, h.size, fun k hk _ => h.block k hk⟩
theorem head_pre {x z : List Nat} (h : x <+: z) (hx : x ≠ []) : z.head? = x.head? := by
  obtain ⟨y, rfl⟩ := h
  cases x with
  | nil => exact absurd rfl hx
  | cons a x => rfl
theorem pre_of {x y : List Nat} {z : List Nat} (h : z = x ++ y) : x <+: z := ⟨y, h.symm⟩

set_option maxRecDepth 100000 in
set_option maxHeartbeats 4000000 in
/-- The iterator of assignment.fitting. -/
theorem fit_stops (n bc ba bs : Nat) (oa sa : Option Addr) (k ocap cap N : Nat) (ts : List T3) (f : Nat → Int) (w : World) (hc : w.cell? ⟨bc, 0, none⟩ = some (.int .i64 (N : Int))) (ha : w.cell? ⟨ba, 0, none⟩ = some (.slice oa k ocap)) (hs : w.cell? ⟨bs, 0, none⟩ = some (.slice sa ts.length cap))
    (hr : Row w sa ts) (ho : IntF w oa k f) (hk : k < ts.length) (hn : ts.length ≤ 1000) (hN : N ≤ 5) :
    SeqStopsK Fence.wide n Tryz.prog 122 #[.pointer (some ⟨bc, 0, none⟩), .pointer (some ⟨ba, 0, none⟩), .pointer (some ⟨bs, 0, none⟩)] (fun c : Nat => #[Value.int .i64 (c : Int)]) (Below w.heap.size) (fun ys => ys = fitL ts N f k) (fun pre => pre <+: fitL ts N f k) (fitL ts N f k).length w := by
  intro l J Jx W hW hJ hJx hY h0
  obtain ⟨i0, hi, hz, hsz, hby⟩ := info_parts taskInfo
  have HI := Lib.hid (And.intro hi (And.intro hz (And.intro hsz hby)))
  have hbc := World.block_lt_of_cell? w _ hc
  have hba := World.block_lt_of_cell? w _ ha
  have hbs := World.block_lt_of_cell? w _ hs
  have HC := Lib.hid (And.intro hc (And.intro ha hs))
  have HR := Lib.hid hr
  have HO := Lib.hid ho
  have HW := Lib.hid hW
  have HJ := Lib.hid hJ
  have HY := Lib.hid hY
  have H0 := Lib.hid h0
  have HLE := Lib.hid (fun c : Int => onN_len ts f c k)
  have HT := Lib.hid (fun c : Nat => show fit ts f k c = edf (onN ts f (c : Nat) k ++ [tk ts k]) from rfl)
  clear hi hz hsz hby hc ha hs hr ho hW hJ hJx hY h0
  refine callsIn_of_wp Tryz.func122 rfl trivial ?_ rfl
  simp only [Tryz.ntmps122, List.size_toArray, List.length_cons, List.length_nil, Nat.reduceAdd, Nat.reduceSub, Array.replicate_succ, Array.replicate_zero, List.push_toArray, List.append_toArray, List.nil_append, List.cons_append]
  have c0 := (HW.out.cell (p := ⟨bc, 0, none⟩) hbc).trans HC.out.1
  gi_wp2
  gi_loopw [8] (fun z wr => ∃ (c : Nat) (pre : List Nat), c ≤ N ∧ z = .int .i64 c ∧ fitL ts N f k = pre ++ fitG ts f k c (N - c) ∧ J pre wr ∧ Below w.heap.size w wr) (fun z _ => N - (intOf z).toNat)
  case atStart => exact ⟨0, [], Nat.zero_le _, rfl, rfl, H0.out, HW.out⟩
  case round =>
    obtain ⟨c, pre, hcN, rfl, hpre, hj, hB⟩ := hrel
    have HP := Lib.hid hpre
    have HJP := Lib.hid hj
    have HB := Lib.hid hB
    clear hpre hj hB c0
    by_cases hlt : c < N
    · obtain ⟨m, hm⟩ : ∃ m, N - c = m + 1 := ⟨N - c - 1, by omega⟩
      have HG := Lib.hid (fitG_succ ts f k c m)
      have HM := Lib.hid hm
      have d1 := (HB.out.cell (p := ⟨ba, 0, none⟩) hba).trans HC.out.2.1
      have d2 := (HB.out.cell (p := ⟨bs, 0, none⟩) hbs).trans HC.out.2.2
      have hc1 : (c : Int) < N := by omega
      have hc0 : (0 : Int) ≤ c := by omega
      clear hm
      gi_wp2_with fail
      refine ⟨trivial, wide_deep _, ?_⟩
      refine (callsIn_wide.2 (tasks_any sa oa cap ocap k ts f (c : Int) wr (HR.out.below HB.out) (HO.out.below HB.out) (by omega) hn)).mono ?_
      rintro e w2 ⟨v, rfl, ho2, b2⟩
      obtain ⟨a2, c2, rfl, hr2, hl2, hm2⟩ := ho2.row
      have HB2 := Lib.hid (HB.out.trans (b2.mono HB.out.size))
      have HG2 := Lib.hid b2
      have HO2 := Lib.hid ho2
      have hle := HLE.out (c : Int)
      have d3 := (HB2.out.cell (p := ⟨ba, 0, none⟩) hba).trans HC.out.2.1
      have d4 := (HB2.out.cell (p := ⟨bs, 0, none⟩) hbs).trans HC.out.2.2
      obtain ⟨bt, ot, rfl, hbt, e0, e1, e2⟩ := (HR.out.below HB2.out).at hk
      have hk2 : (k : Int) < ts.length := by omega
      have hk0 : (0 : Int) ≤ k := by omega
      obtain ⟨⟨C, D, Q⟩, ht⟩ : ∃ t, t = tk ts k := ⟨_, rfl⟩
      have HTK := Lib.hid ht
      rw [← ht] at e0 e1 e2
      simp only at e0 e1 e2
      clear ho2 b2 hr2 hl2 hm2 ht d1 d2
      gi_wp2_with (gi_at_builtin; refine wpListIn_append_own _ rfl (.tmp 15) (.tmp 21) 27 rfl wr.heap.size 29 i0 _ 3 24 Tryz.underlying27 HI.out.1 HI.out.2.1 HI.out.2.2.1 HI.out.2.2.2 rfl (by decide) _ (onN ts f (c : Int) k).length (flat (onN ts f (c : Int) k)) rfl (World.ownsRow.alloc HO2.out _) ⟨w2.heap.size, 0, none⟩ 1 1 [.int .i64 C, .int .i64 D, .int .i64 Q] rfl rfl (news3 _ _ _ _ _) (one3 _ _ _) (by unfold maxLen; omega) (by omega) (Nat.le_trans HG2.out.size (below_box _ _).size) ?_; intro v' w3 hown' hgrow hnil)
      have HG3 := Lib.hid (show Below wr.heap.size wr w3 from (HG2.out.trans ((below_box w2 _).mono HG2.out.size)).grown hgrow (Nat.le_trans HG2.out.size (below_box _ _).size) (fun k hk => (World.ownsRow.lt HO2.out k hk).1))
      have ho3 : Own w3 wr.heap.size v' (onN ts f (c : Int) k ++ [(C, D, Q)]) := by unfold Own; rw [flat_snoc, List.length_append]; exact hown'
      obtain ⟨L9, hL9⟩ : ∃ L9, L9 = onN ts f (c : Int) k ++ [(C, D, Q)] := ⟨_, rfl⟩
      rw [← hL9] at ho3
      have hl9 : L9.length ≤ 1099511627776 := by rw [hL9, List.length_append]; simp; omega
      have HL9 := Lib.hid (show fit ts f k c = edf L9 by rw [HT.out, hL9, HTK.out])
      obtain ⟨a3, c3, rfl, hr3, -, -⟩ := ho3.row
      have HR3 := Lib.hid hr3
      have HZ := Lib.hid (show (onN ts f (c : Int) k = []) ↔ (onN ts f (c : Int) k).length = 0 from List.length_eq_zero_iff.symm)
      clear hown' hgrow hnil ho3 hr3 hL9
      refine ⟨trivial, wide_deep _, ?_⟩
      refine (callsIn_wide.2 (edfFeasible_any _ _ L9 _ HR3.out hl9)).mono ?_
      rintro e w4 ⟨rfl, b4⟩
      have HG4 := Lib.hid (HG3.out.trans (b4.mono HG3.out.size))
      have HB4 := Lib.hid (HB.out.trans (HG4.out.mono HB.out.size))
      have HJ4 := Lib.hid (HJ.out pre wr w4 none HJP.out (grown_below HG4.out) (fun r e => by cases e))
      clear b4
      cases he : edf L9 with
      | true =>
        have HE := Lib.hid (HL9.out.trans he)
        have hlen : pre.length < (fitL ts N f k).length := by rw [HP.out, HM.out, HG.out, if_pos HE.out]; simp
        obtain ⟨fn, tmps, assign, body, hy, hR⟩ := HY.out pre c w4 HJ4.out hlen
        have HRR := Lib.hid hR
        clear he hlen hR
        gi_wp2_with fail
        refine ⟨wide_deep _, HRR.out.mono ?_⟩
        rintro e w5 (⟨rfl, hj5, hk5⟩ | ⟨rfl, hx5⟩)
        · have HJ5 := Lib.hid hj5
          have HK5 := Lib.hid (HB4.out.trans hk5)
          have HP5 := Lib.hid (show fitL ts N f k = (pre ++ [c]) ++ (if onN ts f (c : Nat) k = [] then [] else fitG ts f k (c + 1) m) by rw [HP.out, HM.out, HG.out, if_pos HE.out, List.append_assoc])
          clear hj5 hk5
          by_cases hz : (onN ts f (c : Int) k).length = 0
          · have HZZ := Lib.hid (show fitL ts N f k = pre ++ [c] by rw [HP5.out, if_pos (HZ.out.2 hz), List.append_nil])
            gi_wp2
            refine bodyPost_ret (results_none rfl _ _ _) rfl ?_
            exact ⟨⟨_, rfl⟩, .inl ⟨_, rfl, by rw [HZZ.out]; exact HJ5.out⟩⟩
          · have HZZ := Lib.hid (show fitL ts N f k = (pre ++ [c]) ++ fitG ts f k (c + 1) (N - (c + 1)) by rw [HP5.out, if_neg (fun e => hz (HZ.out.1 e))]; have := HM.out; rw [show N - (c + 1) = m by omega])
            have hz2 : ((((onN ts f (c : Int) k).length : Nat) : Int) == 0) = false := beq_eq_false_iff_ne.2 (by omega)
            clear hz
            gi_wp2
            go_roundw
            case rel => exact ⟨c + 1, pre ++ [c], by omega, by go_num, HZZ.out, HJ5.out, HK5.out⟩
            case measure => simp [intOf]; omega
        · have HX5 := Lib.hid hx5
          have HP5 := Lib.hid (show fitL ts N f k = (pre ++ [c]) ++ (if onN ts f (c : Nat) k = [] then [] else fitG ts f k (c + 1) m) by rw [HP.out, HM.out, HG.out, if_pos HE.out, List.append_assoc])
          clear hx5
          gi_wp2
          refine bodyPost_ret (results_none rfl _ _ _) rfl ?_
          exact ⟨⟨_, rfl⟩, .inr ⟨_, pre_of HP5.out, HX5.out⟩⟩
      | false =>
        have HE := Lib.hid (HL9.out.trans he)
        have HP5 := Lib.hid (show fitL ts N f k = pre ++ (if onN ts f (c : Nat) k = [] then [] else fitG ts f k (c + 1) m) by rw [HP.out, HM.out, HG.out, if_neg (by rw [HE.out]; simp), List.nil_append])
        clear he
        gi_wp2_with fail
        refine ⟨fun _ h => (by cases h), ?_⟩
        by_cases hz : (onN ts f (c : Int) k).length = 0
        · have HZZ := Lib.hid (show fitL ts N f k = pre by rw [HP5.out, if_pos (HZ.out.2 hz), List.append_nil])
          gi_wp2
          refine bodyPost_ret (results_none rfl _ _ _) rfl ?_
          exact ⟨⟨_, rfl⟩, .inl ⟨_, rfl, by rw [HZZ.out]; exact HJ4.out⟩⟩
        · have HZZ := Lib.hid (show fitL ts N f k = pre ++ fitG ts f k (c + 1) (N - (c + 1)) by rw [HP5.out, if_neg (fun e => hz (HZ.out.1 e))]; have := HM.out; rw [show N - (c + 1) = m by omega])
          have hz2 : ((((onN ts f (c : Int) k).length : Nat) : Int) == 0) = false := beq_eq_false_iff_ne.2 (by omega)
          clear hz
          gi_wp2
          go_roundw
          case rel => exact ⟨c + 1, pre, by omega, by go_num, HZZ.out, HJ4.out, HB4.out⟩
          case measure => simp [intOf]; omega
    · obtain rfl : c = N := by omega
      have HZZ := Lib.hid (show fitL ts c f k = pre by rw [HP.out, Nat.sub_self]; simp [fitG])
      gi_wp2
      go_end0
      exact ⟨⟨_, rfl⟩, .inl ⟨_, rfl, by rw [HZZ.out]; exact HJP.out⟩⟩

end Go.Proofs.YtdgihkmiolnglaaGreatDoor
