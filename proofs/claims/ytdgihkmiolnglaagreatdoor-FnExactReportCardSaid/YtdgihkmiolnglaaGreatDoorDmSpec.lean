/- Contract of spec.DeadlineMonotonic. Condition: the slice holds tasks, at most 2^40 of them. -/
import Derived.Test.YtdgihkmiolnglaaGreatDoorMem
import Derived.Test.YtdgihkmiolnglaaGreatDoorPlain
namespace Go.Proofs.YtdgihkmiolnglaaGreatDoor
open Go.RowKit Go.Deep

/-- What DeadlineMonotonic returns. -/
def dmB' (ts : List T3) : List Int := if svB ts = true then dmO ts else []
/-- A list of integers was returned, in memory of its own. -/
def GotInts (base : Nat) (l : List Int) (e : Ending) (w' : World) : Prop := ∃ v, e = .returned v ∧ OwnI w' base v l.length (fun k => l.getD k 0)
theorem dmI_len (ts : List T3) (d : Nat) : ∀ i, (dmI ts d i).length ≤ i
  | 0 => Nat.le_refl _
  | i + 1 => by
    have := dmI_len ts d i
    simp only [dmI]
    split
    · simp; omega
    · omega
theorem dmD_len (ts : List T3) : ∀ d, (dmD ts d).length ≤ d * ts.length
  | 0 => by simp [dmD]
  | d + 1 => by
    have h1 := dmD_len ts d
    have h2 := dmI_len ts (d + 1) ts.length
    simp only [dmD, List.length_append]
    rw [Nat.succ_mul]
    omega
theorem vals_app' (l : List Int) (x : Int) : vals (fun k => (l ++ [x]).getD k 0) (l.length + 1) = vals (fun k => l.getD k 0) l.length ++ [.int .i64 x] := by
  rw [vals_succ]
  congr 1
  · simp only [vals]
    refine List.map_congr_left fun k hk => ?_
    have := List.mem_range.1 hk
    rw [List.getD_eq_getElem?_getD, List.getElem?_append_left this, ← List.getD_eq_getElem?_getD]
  · rw [List.getD_eq_getElem?_getD, List.getElem?_append_right (Nat.le_refl _), Nat.sub_self]
    rfl

set_option maxHeartbeats 2000000 in
/-- spec.DeadlineMonotonic. -/
theorem specDeadlineMonotonic_any (ta : Option Addr) (tcap : Nat) (ts : List T3) (w : World) (hr : Row w ta ts) (hn : ts.length ≤ 1048576) :
    Calls Tryz.prog 35 #[.slice ta ts.length tcap] w fun e w' =>
      GotInts w.heap.size (dmB' ts) e w' ∧ Below w.heap.size w w' := by
  obtain ⟨i0, hi, hz, hsz, hby⟩ := info_parts intInfo
  have HI := Lib.hid (And.intro hi (And.intro hz (And.intro hsz hby)))
  clear hi hz hsz hby
  have HR := Lib.hid hr
  have HR1 := Lib.hid (hr.below (below_box w (.cells #[] 3)))
  clear hr
  cases hs : svB ts with
  | false =>
    have HA := Lib.hid (show dmB' ts = [] by rw [dmB', hs]; rfl)
    go_enter Tryz.func35, Tryz.ntmps35
    go_wp2_with (go_at_call 57; refine (specSetValid_any _ _ ts _ HR1.out (by omega)).mono ?_; rintro e w1 ⟨rfl, b1⟩; rw [hs])
    go_ret
    exact ⟨⟨_, rfl, by rw [HA.out]; exact (OwnI.empty w _).below b1⟩, (below_box w _).trans (b1.mono (below_box w _).size)⟩
  | true =>
    have HS := Lib.hid hs
    have HA := Lib.hid (show dmB' ts = dmO ts by rw [dmB', hs]; rfl)
    have hn5 := (sv_all hs).2
    go_enter Tryz.func35, Tryz.ntmps35
    go_wp2_with fail
    refine (specSetValid_any _ _ ts _ HR1.out (by omega)).mono ?_
    rintro e w1 ⟨rfl, b1⟩
    rw [HS.out]
    clear hs
    have B1 : Below w.heap.size w w1 := (below_box w _).trans (b1.mono (below_box w _).size)
    have O1 := Lib.hid ((OwnI.empty w (fun k => ([] : List Int).getD k 0)).below b1)
    go_wp2
    go_loopg [3, 4] 12 (fun m s z wr => ∃ d : Nat, m + d = 12 ∧ z = .int .i64 ((d : Int) + 1) ∧ OwnI wr w.heap.size s (dmD ts d).length (fun k => (dmD ts d).getD k 0) ∧ Below w.heap.size w wr)
    case atStart => exact ⟨0, rfl, rfl, O1.out, B1⟩
    case round =>
      clear O1
      obtain ⟨d, hd, rfl, ho, B⟩ := hrel
      obtain ⟨G, hG⟩ : ∃ G, G = gk := ⟨_, rfl⟩
      have HG := Lib.hid hG
      have HD := Lib.hid hd
      have HO := Lib.hid ho
      have hdd : d ≤ 12 := by omega
      clear hd ho hG
      by_cases hlt : d < 12
      · have hlt' : (d : Int) + 1 ≤ 12 := by omega
        go_wp2
        go_loopg [3, 5] ts.length (fun m s z w2 => ∃ i : Nat, m + i = ts.length ∧ z = .int .i64 i ∧ OwnI w2 w.heap.size s (dmD ts d ++ dmI ts (d + 1) i).length (fun k => (dmD ts d ++ dmI ts (d + 1) i).getD k 0) ∧ Below w.heap.size w w2)
        case atStart => exact ⟨0, rfl, rfl, by simp only [dmI, List.append_nil]; exact HO.out, B⟩
        case round =>
          clear HO B
          obtain ⟨i, hi, rfl, ho, B⟩ := hrel
          have HK := Lib.hid hi
          have HO := Lib.hid ho
          have hin : i ≤ ts.length := by omega
          have hl1 := dmD_len ts d
          have hl2 := dmI_len ts (d + 1) i
          have hl3 : d * ts.length ≤ 12 * 5 := Nat.mul_le_mul (by omega) hn5
          have hul : (dmD ts d ++ dmI ts (d + 1) i).length ≤ 100 := by rw [List.length_append]; omega
          clear hi ho hl1 hl2 hl3
          by_cases hil : i < ts.length
          · have hil' : (i : Int) < ts.length := by omega
            have hi0 : (0 : Int) ≤ i := by omega
            have htv := tk_tv (sv_all HS.out).1 hil
            have hbd := tv_bd htv
            obtain ⟨bt, ot, rfl, hbt, _, e1, _⟩ := (HR.out.below B).at hil
            rw [← hbd.2.2.2.2.2.2.1] at e1
            have HX := Lib.hid (show dmI ts (d + 1) (i + 1) = if dln (tk ts i) = d + 1 then dmI ts (d + 1) i ++ [(i : Int)] else dmI ts (d + 1) i from rfl)
            obtain ⟨D, hD⟩ : ∃ D, D = dln (tk ts i) := ⟨_, rfl⟩
            rw [← hD] at e1 HX
            clear hbd htv hD
            by_cases hdx : D = d + 1
            · have hdx' : ((D : Int) == (d : Int) + 1) = true := by simp; omega
              have HDX := Lib.hid hdx
              obtain ⟨U, hU⟩ : ∃ U, U = dmD ts d ++ dmI ts (d + 1) i := ⟨_, rfl⟩
              have HU := Lib.hid hU
              rw [← hU] at HO hul
              clear hU hdx
              go_wp2_with (at_builtin; refine wpList_append_own _ rfl (.tmp 28) (.tmp 30) 52 rfl w.heap.size 3 i0 _ 1 8 Tryz.underlying52 HI.out.1 HI.out.2.1 HI.out.2.2.1 HI.out.2.2.2 rfl (by decide) _ U.length (vals (fun j => U.getD j 0) U.length) rfl (World.ownsRow.alloc HO.out _) ⟨wr.heap.size, 0, none⟩ 1 1 [.int .i64 (i : Int)] rfl rfl (news1 _ _ _) (one1 _) (by unfold maxLen; omega) (by omega) (Nat.le_trans B.size (below_box _ _).size) ?_; intro v' w' hown' hgrow hnil)
              have B2 : Below w.heap.size w w' := (B.trans ((below_box wr _).mono B.size)).grown hgrow (Nat.le_trans B.size (below_box _ _).size) (fun k hk => HO.out.from k hk)
              have HO1 := Lib.hid (show OwnI w' w.heap.size v' (U ++ [(i : Int)]).length (fun j => (U ++ [(i : Int)]).getD j 0) by unfold OwnI; rw [List.length_append, List.length_singleton, vals_app']; exact hown')
              clear hown' hgrow hnil
              go_roundg (gk - 1)
              case measure => have := HK.out; omega
              case rel => exact ⟨i + 1, by have := HK.out; omega, by go_num, by rw [HX.out, if_pos HDX.out, ← List.append_assoc, ← HU.out]; exact HO1.out, B2⟩
            · have hdx' : ((D : Int) == (d : Int) + 1) = false := by simp; omega
              have HDX := Lib.hid hdx
              clear hdx
              go_wp2
              go_roundg (gk - 1)
              case measure => have := HK.out; omega
              case rel => exact ⟨i + 1, by have := HK.out; omega, by go_num, by rw [HX.out, if_neg HDX.out]; exact HO.out, B⟩
          · obtain rfl : i = ts.length := by omega
            go_wp2
            go_roundg (G - 1)
            case measure => have := HG.out; have := HD.out; omega
            case rel => exact ⟨d + 1, by have := HG.out; have := HD.out; omega, by go_num, HO.out, B⟩
      · obtain rfl : d = 12 := by omega
        go_wp2
        go_ret
        exact ⟨⟨_, rfl, by rw [HA.out]; exact HO.out⟩, B⟩

end Go.Proofs.YtdgihkmiolnglaaGreatDoor
