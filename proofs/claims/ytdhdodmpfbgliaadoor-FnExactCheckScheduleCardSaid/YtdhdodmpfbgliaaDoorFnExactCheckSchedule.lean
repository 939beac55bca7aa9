/- laws.FnExactCheckSchedule: for every task set, every list of jobs and every schedule (slices of whatever length, nil too, of whatever values) the program's CheckSchedule answers as the reference does and changes no argument; the law returns true and leaves its arguments as they were. Condition: the package variable errors.errorType starts as the program's text lays it (the card ties it). -/
import Derived.Test.YtdhdodmpfbgliaaDoorRows
import Derived.Test.YtdhdodmpfbgliaaDoorChecked
import Derived.Test.YtdhdodmpfbgliaaDoorTie
import Derived.Test.YtdhdodmpfbgliaaDoorCards
import Derived.Test.YtdhdodmpfbgliaaDoorLaidB
import Derived.Test.YtdhdodmpfbgliaaDoorExactChkWalk
import Derived.Test.YtdhdodmpfbgliaaDoorChkImp9
import Derived.Test.YtdhdodmpfbgliaaDoorArgJ
import Derived.Test.YtdhdodmpfbgliaaDoorArgI
namespace Go.Proofs.YtdhdodmpfbgliaaDoor
open Go.ChangeShapes Go.WideShapes Go.ChangeAt Go.RowKit Go.Joins Go.Deep

theorem fnExactCheckSchedule_any (a : Option Addr) (cap : Nat) (ts : List T3) (ja : Option Addr) (jcap : Nat) (js : List J4) (ra : Option Addr) (rcap : Nat) (os : List Int) (w : World) (hG : ErrG w) (hr : Row w a ts) (hm : ts.length ≤ maxLen) (hj : RowJ w ja js) (hjm : js.length ≤ maxLen) (hi : IntF w ra os.length fun k => os.getD k 0) (_ : os.length ≤ maxLen) :
    Calls Tryd.prog 7 #[.slice a ts.length cap, .slice ja js.length jcap, .slice ra os.length rcap] w fun e w' => e = .returned (.bool true) ∧ Below w.heap.size w w' := exactCheckSchedule_walk impl9 a ja ra cap jcap rcap os.length ts js _ w hG hr hj hi hm hjm

set_option maxRecDepth 100000 in
theorem fnExactCheckSchedule_lifted (os : Os) (started : os.Started) (H : Type) (enc : TypeId × Value → H) :
    ReturnsInHanded {} Tryd.checked os 7 .any (fun w args => (Rows.fnExactCheckScheduleSpec.pre enc Tryd.prog Tryd.f7 [] false w args ∧ laidMetH Tryd.prog [("errors.errorType", Rows.laid_errors_errorType)] w) ∧ sizedMet enc Tryd.prog Tryd.f7 (OpenSpec.ofChange Rows.fnExactCheckScheduleSpec) false w args) (Rows.fnExactCheckScheduleSpec.post enc Tryd.prog Tryd.f7 false true false false) := by
  refine returnsInHanded_of_change_and (C := Tryd.checked) (X := fun w _ => laidMetH Tryd.prog [("errors.errorType", Rows.laid_errors_errorType)] w) (fun _ _ _ hh h => h.of_heap hh) ownKnobs started (by kernel_rfl) Tryd.func7
    (ChangeSpec.witness_at (enc := enc) (C := Tryd.checked) (os := os) (X := fun w _ => laidMetH Tryd.prog [("errors.errorType", Rows.laid_errors_errorType)] w) false (metW os) #[.slice none 0 0, .slice none 0 0, .slice none 0 0] 8 rfl (by kernel_rfl) (by kernel_rfl) (by kernel_rfl) (by kernel_rfl) (by kernel_rfl) (metW_met os _)) ?_
  intro W base args ds gs before hval0 hW _ _ hL _
  have hG := errG_of hL
  have hval : ∀ (j : Nat) t v, Tryd.f7.params[j]? = some t → args[j]? = some v → Value.okWide Tryd.prog W .any base t v := hval0
  have hW' := hW
  obtain ⟨p, q, hA0, hV, rfl, hfz, hnd⟩ := hW
  have hA : DataW.TrodAll enc Tryd.prog W 0 (fun _ => true) true Tryd.f7.params.toList args.toList ds p := hA0
  rw [Tryd.params7] at hA hval
  obtain ⟨v0, vs0, d0, ds0, p0, q0, hargs, rfl, rfl, h0, r0⟩ := trodAll_cons hA
  obtain ⟨v1, vs1, d1, ds1, p1, q1, rfl, rfl, rfl, h1, r1⟩ := trodAll_cons r0
  obtain ⟨v2, vs2, d2, ds2, p2, q2, rfl, rfl, rfl, h2, r2⟩ := trodAll_cons r1
  obtain ⟨rfl, rfl, rfl⟩ := trodAll_nil r2
  obtain rfl : args = #[v0, v1, v2] := by cases args; simp_all
  obtain ⟨rfl, rfl⟩ := trodVars_none hV
  have k0 := h0
  have lt0 : ∀ x ∈ p0, x.block < W.heap.size := by obtain ⟨m, hm⟩ := k0; exact DataW.trod_lt m _ _ _ hm
  have k1 := h1
  have lt1 : ∀ x ∈ p1, x.block < W.heap.size := by obtain ⟨m, hm⟩ := k1; exact DataW.trod_lt m _ _ _ hm
  have k2 := h2
  have lt2 : ∀ x ∈ p2, x.block < W.heap.size := by obtain ⟨m, hm⟩ := k2; exact DataW.trod_lt m _ _ _ hm
  clear hA0 hval0
  obtain ⟨a0, cap0, ts0, rfl, hr0, hm0⟩ := row_of_arg (hval 0 43 v0 rfl rfl) h0
  obtain ⟨a1, cap1, js1, rfl, hr1, hm1⟩ := rowJ_of_arg (hval 1 44 v1 rfl rfl) h1
  obtain ⟨a2, cap2, os2, rfl, hr2, hm2⟩ := ints_of_arg (hval 2 27 v2 rfl rfl) h2
  refine (fnExactCheckSchedule_any a0 cap0 ts0 a1 cap1 js1 a2 cap2 os2 W hG hr0 hm0 hr1 hm1 hr2 hm2).mono fun e W' ⟨he, bel⟩ => ?_
  subst he
  exact ⟨_, rfl, _, _, _, [], _, [], hW', trodAll_mk1 (shut_bool Tryd.underlying4 _), (trodAll_cons_mk (Below.trod laidOut (by kernel_rfl) (of_decide_eq_true (by kernel_rfl)) k0 bel lt0) (trodAll_cons_mk (Below.trod laidOut (by kernel_rfl) (of_decide_eq_true (by kernel_rfl)) k1 bel lt1) (trodAll_cons_mk (Below.trod laidOut (by kernel_rfl) (of_decide_eq_true (by kernel_rfl)) k2 bel lt2) trodAll_mk0))), rfl, bel.frame _, fun h => by cases h⟩

set_option maxHeartbeats 8000000 in
/-- The row's statement. -/
theorem fnExactCheckSchedule_row : Rows.FnExactCheckScheduleSaid :=
  OpenClaim.holds_of_wide 7 Tryd.f7 rfl rfl rfl rfl rfl rfl rfl ⟨rfl, rfl, rfl, rfl, rfl⟩ rfl rfl rfl rfl rfl (by as_aux_lemma => kernel_rfl) Tryd.func7 (by as_aux_lemma => kernel_rfl)
    (of_decide_eq_true (by as_aux_lemma => kernel_rfl)) (by unfold Func.isWrapper; first | (rw [if_pos (by decide +kernel)]; kernel_rfl) | (rw [if_neg (by decide +kernel)]; exact ⟨rfl, rfl⟩))
    (fun os started H enc _ => fnExactCheckSchedule_lifted os started H enc)

set_option maxRecDepth 100000 in
/-- The given statement: the tied card. -/
theorem fnExactCheckSchedule_holds : Rows.FnExactCheckScheduleCardSaid :=
  Claim7.holds_tied_plain_at .later [] [.handle] true Rows.fnExactCheckScheduleCard.stood.harness true
    fnExactCheckSchedule_row (fun _ h => by cases h) (by kernel_rfl) (fun _ h => by cases h) fnExactCheckSchedule_row_tie rfl ⟨rfl, rfl⟩ (by kernel_rfl) rfl
    (fun f fn hf hfn => by
      obtain rfl : f = 7 := (Option.some.inj ((show Tryd.prog.funcNamed "loop.example/deadlinescheduler/laws.FnExactCheckSchedule" = some 7 by kernel_rfl).symm.trans hf)).symm
      obtain rfl : fn = Tryd.f7 := (Option.some.inj (Tryd.func7.symm.trans hfn)).symm
      exact ⟨by kernel_rfl, fun j t ht => by
        rw [Tryd.params7] at ht
        have hm : t ∈ #[43, 44, 27].toList := by
          obtain ⟨hj, e⟩ := Array.getElem?_eq_some_iff.1 ht
          rw [← e]; simp
        simp only [List.mem_cons, List.not_mem_nil, or_false] at hm
        rcases hm with rfl | rfl | rfl
        · exact (show Tryd.prog.wantsStandIn 43 = false by kernel_rfl)
        · exact (show Tryd.prog.wantsStandIn 44 = false by kernel_rfl)
        · exact (show Tryd.prog.wantsStandIn 27 = false by kernel_rfl)⟩)
    (by kernel_rfl)
#print axioms fnExactCheckSchedule_holds

end Go.Proofs.YtdhdodmpfbgliaaDoor
