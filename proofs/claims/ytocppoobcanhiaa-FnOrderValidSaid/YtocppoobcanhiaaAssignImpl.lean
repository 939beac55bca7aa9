/- Contract of the program's AssignPriorities. Condition: the slice holds tasks, at most 2^40 of them. -/
import Derived.Test.YtocppoobcanhiaaPermImpl
namespace Go.Proofs.Ytocppoobcanhiaa
open Go.RowKit Go.Deep

/-- What AssignPriorities finds. -/
def audB (ts : List T3) : Option (List Int) := if svB ts = true then aud ts else none
def audO (ts : List T3) : List Int := (audB ts).getD []
/-- An order was returned, in memory of its own, and whether there is one. -/
def GotAssign (base : Nat) (ts : List T3) (e : Ending) (w' : World) : Prop :=
  ∃ v, e = .returned (.tuple #[v, .bool (audB ts).isSome]) ∧ OwnI w' base v (audO ts).length (fun k => (audO ts).getD k 0)
theorem audO_len {ts : List T3} : (audO ts).length ≤ ts.length := by
  unfold audO audB
  split
  · rename_i hs
    cases h : aud ts with
    | none => simp
    | some os => have := (ordB_iff.1 (fixB_iff.1 (aud_fix hs h)).1).2.1; simp [this]
  · simp
theorem range_id (n k : Nat) (hk : k < n) : (unL [] n ++ []).getD k 0 = (k : Int) := by
  rw [List.append_nil, unL_nil, List.getD_eq_getElem?_getD, List.getElem?_map, List.getElem?_range hk]
  rfl
theorem unL_full {ts : List T3} {low : List Int} (hs : svB ts = true) (h : Low ts low) (hl : low.length = ts.length) : unL low ts.length = [] := by
  have := au_len hs h
  exact List.length_eq_zero_iff.1 (by omega)

set_option maxHeartbeats 2000000 in
/-- impl.AssignPriorities. -/
theorem assignPriorities_any (ta : Option Addr) (tcap : Nat) (ts : List T3) (w : World) (hr : Row w ta ts) (hn : ts.length ≤ 1099511627776) :
    Calls Try.prog 30 #[.slice ta ts.length tcap] w fun e w' =>
      GotAssign w.heap.size ts e w' ∧ Below w.heap.size w w' := by
  have HR := Lib.hid hr
  clear hr
  cases hs : svB ts with
  | false =>
    have HA := Lib.hid (show audB ts = none by rw [audB, hs]; rfl)
    go_enter Try.func30, Try.ntmps30
    go_wp2_with (go_at_call 46; refine (setValid_any _ _ ts _ HR.out hn).mono ?_; rintro e w1 ⟨rfl, b1⟩; rw [hs])
    go_ret2
    refine ⟨⟨.slice none 0 0, by rw [HA.out]; rfl, ?_⟩, b1⟩
    rw [audO, HA.out]
    exact OwnI.nil _ _ _
  | true =>
    have HS := Lib.hid hs
    have HA := Lib.hid (show audB ts = aud ts by rw [audB, hs]; rfl)
    have hn5 := (sv_all hs).2
    have hw1 : IntKind.i64.wrap ((ts.length : Int) - 1) = (ts.length : Int) - 1 := IntWalk.i64_in _ (by omega)
    go_enter Try.func30, Try.ntmps30
    go_wp2_with fail
    refine (setValid_any _ _ ts _ HR.out hn).mono ?_
    rintro e w1 ⟨rfl, b1⟩
    rw [HS.out]
    clear hs
    go_wp2_with fail
    refine (identity_any ts.length w1 (by omega)).mono ?_
    rintro e w2 ⟨⟨v, rfl, hov, hnn⟩, b2⟩
    have OV := Lib.hid hov
    obtain ⟨va, vc, rfl⟩ := own_shape hov
    have B2 := b1.trans (b2.mono b1.size)
    clear hov hnn
    go_wp2
    go_loopg [4, 5] ts.length (fun m s z wr => ∃ (L : Nat) (low : List Int) (a : Option Addr) (c : Nat), m = L ∧ z = .int .i64 ((L : Int) - 1) ∧ s = .slice a ts.length c ∧ Low ts low ∧ low.length + L = ts.length ∧ OwnI wr w.heap.size (.slice a ts.length c) ts.length (fun k => (unL low ts.length ++ low).getD k 0) ∧ audL ts L low = aud ts ∧ Below w.heap.size w wr)
    case atStart => exact ⟨ts.length, [], va, vc, rfl, rfl, rfl, Low.nil ts, by simp, (OV.out.congr fun k hk => (range_id _ k hk).symm).mono b1.size, rfl, B2⟩
    case round =>
      obtain ⟨L, low, a, c, hm, rfl, rfl, hlow, hll, ho, hau, B⟩ := hrel
      have HK := Lib.hid hm
      have HLO := Lib.hid hlow
      have HLL := Lib.hid hll
      have HO := Lib.hid ho
      have HAU := Lib.hid hau
      have hLn : L ≤ ts.length := by omega
      clear hm hlow hll ho hau
      cases L with
      | zero =>
        have hz : ¬ (0 : Int) ≤ ((0 : Nat) : Int) - 1 := by omega
        go_wp2
        go_ret2
        have hlf : low.length = ts.length := by have := HLL.out; omega
        have hum := unL_full HS.out HLO.out hlf
        have hau : aud ts = some low := by rw [← HAU.out]; rfl
        have h2 := HO.out
        refine ⟨⟨_, by rw [HA.out, hau]; rfl, ?_⟩, B⟩
        rw [audO, HA.out, hau]
        rw [hum] at h2
        simp only [List.nil_append] at h2
        simp only [Option.getD_some]
        rw [hlf]
        exact h2
      | succ L =>
        have hz : (0 : Int) ≤ ((L + 1 : Nat) : Int) - 1 := by omega
        have he : ((L + 1 : Nat) : Int) - 1 = (L : Int) := by omega
        have hL0 : (0 : Int) ≤ (L : Int) := by omega
        have hw2 : IntKind.i64.wrap ((L : Int) - 1) = (L : Int) - 1 := IntWalk.i64_in _ (by omega)
        rw [he]
        clear hz he
        obtain ⟨g, cap, e, hg1, hg2, hvc, _, _⟩ := HO.out.at (by omega)
        simp only [Value.slice.injEq, true_and] at e
        obtain ⟨rfl, rfl⟩ := e
        have CL := Lib.hid (withLevel_any g 0 c tcap L ta ts low wr (HR.out.below B) HO.out.intF' HS.out HLO.out (by have := au_len HS.out HLO.out; have := HLL.out; omega) hvc)
        unfold GotLevel at CL
        cases hp : pickA ts low ts.length with
        | none =>
          simp only [hp] at CL
          go_wp2_with (go_at_call 56; refine CL.out.mono ?_; rintro e w3 ⟨rfl, b3⟩)
          go_ret2
          have hau : aud ts = none := by rw [← HAU.out, audL, hp]
          refine ⟨⟨.slice none 0 0, by rw [HA.out, hau]; rfl, ?_⟩, B.trans (b3.mono B.size)⟩
          rw [audO, HA.out, hau]
          exact OwnI.nil _ _ _
        | some x =>
          simp only [hp] at CL
          go_wp2_with fail
          refine CL.out.mono ?_
          rintro e w3 ⟨⟨v, rfl, hov⟩, b3⟩
          obtain ⟨a', c', rfl⟩ := own_shape hov
          have OV3 := Lib.hid (hov.mono B.size)
          have hps := pickA_some hp
          have HLC := Lib.hid (HLO.out.cons hps.1 hps.2)
          have HAC := Lib.hid (show audL ts L ((x : Int) :: low) = aud ts by rw [← HAU.out, audL, hp])
          clear hov hp hps CL
          go_wp2
          go_roundg (gk - 1)
          case measure => have := HK.out; omega
          case rel => exact ⟨L, (x : Int) :: low, a', c', by have := HK.out; omega, rfl, rfl, HLC.out, by have := HLL.out; simp only [List.length_cons]; omega, OV3.out, HAC.out, B.trans (b3.mono B.size)⟩

end Go.Proofs.Ytocppoobcanhiaa
