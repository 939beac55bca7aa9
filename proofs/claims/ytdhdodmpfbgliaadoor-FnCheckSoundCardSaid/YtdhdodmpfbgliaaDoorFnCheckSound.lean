/- laws.FnCheckSound: for every slice of bytes the law returns true (the program keeps promise 17 at the set, the pattern and the schedule that the bytes draw, and answers there as the reference does) and leaves its argument as it was. Condition: the package variable errors.errorType starts as the program's text lays it (the card ties it). -/
import Derived.Test.YtdhdodmpfbgliaaDoorRows
import Derived.Test.YtdhdodmpfbgliaaDoorChecked
import Derived.Test.YtdhdodmpfbgliaaDoorTie
import Derived.Test.YtdhdodmpfbgliaaDoorCards
import Derived.Test.YtdhdodmpfbgliaaDoorLaidB
import Derived.Test.YtdhdodmpfbgliaaDoorChkSndLaw
import Derived.Test.YtdhdodmpfbgliaaDoorChkImp9
import Derived.Test.YtdhdodmpfbgliaaDoorArgB
namespace Go.Proofs.YtdhdodmpfbgliaaDoor
open Go.ChangeShapes Go.WideShapes Go.ChangeAt Go.RowKit Go.Joins Go.Deep

/-- The walk, over the landed program. -/
theorem fnCheckSound_walk9 (a : Option Addr) (len cap : Nat) (w : World) (hG : ErrG w) (hb : Byts w a len cap) :
    Calls Tryd.prog 4 #[.slice a len cap] w fun e w' => e = .returned (.bool true) ∧ Below w.heap.size w w' := fnCheckSound_walk impl9 a len cap w hG hb

set_option maxRecDepth 100000 in
theorem fnCheckSound_lifted (os : Os) (started : os.Started) (H : Type) (enc : TypeId × Value → H) :
    ReturnsInHanded {} Tryd.checked os 4 .any (fun w args => (Rows.fnCheckSoundSpec.pre enc Tryd.prog Tryd.f4 [] false w args ∧ laidMetH Tryd.prog [("errors.errorType", Rows.laid_errors_errorType)] w) ∧ sizedMet enc Tryd.prog Tryd.f4 (OpenSpec.ofChange Rows.fnCheckSoundSpec) false w args) (Rows.fnCheckSoundSpec.post enc Tryd.prog Tryd.f4 false true false false) := by
  refine returnsInHanded_of_change_and (C := Tryd.checked) (X := fun w _ => laidMetH Tryd.prog [("errors.errorType", Rows.laid_errors_errorType)] w) (fun _ _ _ hh h => h.of_heap hh) ownKnobs started (by kernel_rfl) Tryd.func4
    (ChangeSpec.witness_at (enc := enc) (C := Tryd.checked) (os := os) (X := fun w _ => laidMetH Tryd.prog [("errors.errorType", Rows.laid_errors_errorType)] w) false (metW os) #[.slice none 0 0] 8 rfl (by kernel_rfl) (by kernel_rfl) (by kernel_rfl) (by kernel_rfl) (by kernel_rfl) (metW_met os _)) ?_
  intro W base args ds gs before hval0 hW _ _ hL _
  have hG := errG_of hL
  have hval : ∀ (j : Nat) t v, Tryd.f4.params[j]? = some t → args[j]? = some v → Value.okWide Tryd.prog W .any base t v := hval0
  have hW' := hW
  obtain ⟨p, q, hA0, hV, rfl, hfz, hnd⟩ := hW
  have hA : DataW.TrodAll enc Tryd.prog W 0 (fun _ => true) true Tryd.f4.params.toList args.toList ds p := hA0
  rw [Tryd.params4] at hA hval
  obtain ⟨v0, vs0, d0, ds0, p0, q0, hargs, rfl, rfl, h0, r0⟩ := trodAll_cons hA
  obtain ⟨rfl, rfl, rfl⟩ := trodAll_nil r0
  obtain rfl : args = #[v0] := by cases args; simp_all
  obtain ⟨rfl, rfl⟩ := trodVars_none hV
  have k0 := h0
  have lt0 : ∀ x ∈ p0, x.block < W.heap.size := by obtain ⟨m, hm⟩ := k0; exact DataW.trod_lt m _ _ _ hm
  clear hA0 hval0
  obtain ⟨a0, len0, cap0, rfl, hb0⟩ := bytes_of_arg (hval 0 22 v0 rfl rfl) h0
  refine (fnCheckSound_walk9 a0 len0 cap0 W hG hb0).mono fun e W' ⟨he, bel⟩ => ?_
  subst he
  exact ⟨_, rfl, _, _, _, [], _, [], hW', trodAll_mk1 (shut_bool Tryd.underlying4 _), (trodAll_cons_mk (Below.trod laidOut (by kernel_rfl) (of_decide_eq_true (by kernel_rfl)) k0 bel lt0) trodAll_mk0), rfl, bel.frame _, fun h => by cases h⟩

set_option maxHeartbeats 8000000 in
/-- The row's statement. -/
theorem fnCheckSound_row : Rows.FnCheckSoundSaid :=
  OpenClaim.holds_of_wide 4 Tryd.f4 rfl rfl rfl rfl rfl rfl rfl ⟨rfl, rfl, rfl, rfl, rfl⟩ rfl rfl rfl rfl rfl (by as_aux_lemma => kernel_rfl) Tryd.func4 (by as_aux_lemma => kernel_rfl)
    (of_decide_eq_true (by as_aux_lemma => kernel_rfl)) (by unfold Func.isWrapper; first | (rw [if_pos (by decide +kernel)]; kernel_rfl) | (rw [if_neg (by decide +kernel)]; exact ⟨rfl, rfl⟩))
    (fun os started H enc _ => fnCheckSound_lifted os started H enc)

set_option maxRecDepth 100000 in
/-- The given statement: the tied card. -/
theorem fnCheckSound_holds : Rows.FnCheckSoundCardSaid :=
  Claim7.holds_tied_plain_at .later [] [.handle] true Rows.fnCheckSoundCard.stood.harness true
    fnCheckSound_row (fun _ h => by cases h) (by kernel_rfl) (fun _ h => by cases h) fnCheckSound_row_tie rfl ⟨rfl, rfl⟩ (by kernel_rfl) rfl
    (fun f fn hf hfn => by
      obtain rfl : f = 4 := (Option.some.inj ((show Tryd.prog.funcNamed "loop.example/deadlinescheduler/laws.FnCheckSound" = some 4 by kernel_rfl).symm.trans hf)).symm
      obtain rfl : fn = Tryd.f4 := (Option.some.inj (Tryd.func4.symm.trans hfn)).symm
      exact ⟨by kernel_rfl, fun j t ht => by
        rw [Tryd.params4] at ht
        have hm : t ∈ #[22].toList := by
          obtain ⟨hj, e⟩ := Array.getElem?_eq_some_iff.1 ht
          rw [← e]; simp
        simp only [List.mem_cons, List.not_mem_nil, or_false] at hm
        subst hm
        · exact (show Tryd.prog.wantsStandIn 22 = false by kernel_rfl)⟩)
    (by kernel_rfl)
#print axioms fnCheckSound_holds

end Go.Proofs.YtdhdodmpfbgliaaDoor
