/- The walk of laws.FnPartitionSafe, for whatever code. Condition: the argument is a slice of bytes. -/
import Derived.Test.YtjmagpfnikhboaaPartImpl
import Derived.Test.YtjmagpfnikhboaaPartDraws
import Derived.Test.YtjmagpfnikhboaaMissImpl
import Derived.Test.YtjmagpfnikhboaaSyncImpl
import Derived.Test.YtjmagpfnikhboaaRunImpl
namespace Go.Proofs.Ytjmagpfnikhboaa
open Go.RowKit Go.Deep

theorem late_noneP {ts : List T3} {js : List J4} (hl : legB ts js = true) (he : edf ts = true) : ∀ n, n ≤ js.length → lateL js (finF js) n = []
  | 0, _ => rfl
  | n + 1, hn => by
    have ih := late_noneP hl he n (by omega)
    have hk : n < js.length := by omega
    obtain ⟨hv, _, h1⟩ := legB_iff.1 hl
    have hx := (h1 n hk).nat (sv_all hv).1
    have hz := edf_safe he hl hk
    simp only [lateL]
    rw [if_neg, ih]
    simp only [lateB, Bool.and_eq_true, Bool.or_eq_true, decide_eq_true_eq]
    rintro ⟨hd, h2⟩
    have hdn : (jb js n).2.2.1 = (jdl js n : Nat) := (leg_fits hl).2.2 n hk
    have hD : jdl js n ≤ 120 := by omega
    have h3 := ((edfP js).fin_by (T := 120) (i := n) (show 0 < (edfP js).ex n by simp only [edfP]; omega) hD).2 hz
    simp only [finF] at h2
    omega
/-- Processors as numbers that Go reads. -/
def zsI (r : List Nat) : List Int := r.map fun x => ((x : Nat) : Int)
theorem zsI_len (r : List Nat) : (zsI r).length = r.length := by simp [zsI]
theorem zsI_get (r : List Nat) : (fun k => (zsI r).getD k 0) = nz r := by
  funext k
  unfold zsI nz
  rw [List.getD_eq_getElem?_getD, List.getD_eq_getElem?_getD, List.getElem?_map]
  cases r[k]? <;> rfl
theorem zsI_av {ts : List T3} {N : Nat} {r : List Nat} (hv : svB ts = true) (hN : 1 ≤ N ∧ N ≤ 5) (h : part ts N = some r) : avB ts (N : Int) (zsI r) = true := by
  obtain ⟨h1, h2, _⟩ := part_some h
  refine avB_iff.2 ⟨hv, by omega, by rw [zsI_len]; exact h1, fun k hk => ?_⟩
  rw [zsI_len] at hk
  have := h2 k (by omega)
  have e : (zsI r).getD k 0 = nz r k := congrFun (zsI_get r) k
  rw [e]
  unfold nz
  omega

set_option maxRecDepth 100000 in
set_option maxHeartbeats 4000000 in
/-- laws.FnPartitionSafe. -/
theorem fnPartitionSafe_walk (a : Option Addr) (len cap : Nat) (w : World) (hb : Byts w a len cap) :
    Calls Try.prog 9 #[.slice a len cap] w fun e w' => e = .returned (.bool true) ∧ Below w.heap.size w w' := by
  have hm : cap ≤ maxLen := hb.2.2
  have hlc : len ≤ cap := hb.2.1
  unfold maxLen at hm
  have HB := Lib.hid hb
  clear hb
  by_cases hl : 1048576 < len
  · have hl' : (1048576 : Int) < len := by omega
    go_enter Try.func9, Try.ntmps9
    go_wp2
    go_ret
    exact ⟨rfl, Below.refl _ _⟩
  have hl' : ¬ (1048576 : Int) < len := by omega
  go_enter Try.func9, Try.ntmps9
  go_wp2_with fail
  refine (drawPartition_any _ _ _ _ HB.out).mono ?_
  rintro e w1 ⟨g, cap1, ts, c, rfl, hn, hlc1, hcm1, hcb, hr1, b1⟩
  have R1 := Lib.hid hr1
  clear hr1
  clear HB
  go_wp2_with fail
  refine (partition_any _ _ ts c _ R1.out (by omega)).mono ?_
  rintro e w2 ⟨⟨v, rfl, ho2⟩, b2⟩
  obtain ⟨sa, sc, rfl⟩ := own_shape ho2
  have B2 := b1.trans (b2.mono b1.size)
  have R2 := Lib.hid (R1.out.below b2)
  have O2 := Lib.hid ho2.intF'
  clear b1 b2 R1 ho2
  go_wp2_with fail
  refine (specPartition_any _ _ ts c _ R2.out (by omega)).mono ?_
  rintro e w3 ⟨⟨va, vc, rfl, -⟩, b3⟩
  have B3 := B2.trans (b3.mono B2.size)
  have R3 := Lib.hid (R2.out.below b3)
  have O3 := Lib.hid (O2.out.below b3)
  clear b3 R2 O2 B2
  cases hp : prO ts c with
  | none =>
    simp only [Option.getD_none, List.length_nil, Option.isSome_none]
    clear hp
    go_wp2
    go_loopg [9] 0 (fun q z wr => q = 0 ∧ z = .int .i64 0 ∧ w3 = wr)
    case atStart => exact ⟨rfl, rfl, rfl⟩
    case round =>
      obtain ⟨-, rfl, rfl⟩ := hrel
      go_wp2_with fail
      refine (alive_any _).mono ?_
      rintro e w4 ⟨rfl, b4⟩
      go_wp2
      go_ret
      exact ⟨rfl, B3.trans (b4.mono B3.size)⟩
  | some r =>
    have hcond : svB ts = true ∧ 1 ≤ c ∧ c ≤ 5 := by
      unfold prO at hp
      split at hp
      · assumption
      · simp at hp
    obtain ⟨hv, hc1, hc5⟩ := hcond
    obtain ⟨N, hN⟩ : ∃ N : Nat, c = (N : Int) := ⟨c.toNat, by omega⟩
    subst hN
    have hpt : part ts N = some r := by
      rw [show prO ts (N : Int) = part ts N from if_pos ⟨hv, hc1, hc5⟩] at hp
      exact hp
    rw [hp] at O3
    obtain ⟨r1, r2, r3⟩ := part_some hpt
    have hl5 : ts.length ≤ 5 := (sv_all hv).2
    have HAV := Lib.hid (zsI_av hv ⟨by omega, by omega⟩ hpt)
    have O3 := Lib.hid (show IntF w3 sa (zsI r).length fun k => (zsI r).getD k 0 by rw [zsI_len, zsI_get]; exact O3.out)
    have HZL := Lib.hid (zsI_len r)
    have HFE := Lib.hid (fun k (hk : k < N) => show edf (ctL ts (N : Int) (zsI r) (k : Int)) = true by
      rw [show ctL ts (N : Int) (zsI r) (k : Int) = onN ts (nz r) (k : Int) ts.length by
        unfold ctL
        rw [if_pos ⟨HAV.out, by omega, by omega⟩, zsI_get, zsI_len, r1]]
      exact r3 k hk)
    have hr5 : r.length ≤ 5 := by omega
    simp only [Option.getD_some, Option.isSome_some]
    clear hp hpt r1 r2 r3 hv
    go_wp2
    go_loopg [9] N (fun q z wr => ∃ k : Nat, q + k = N ∧ z = .int .i64 k ∧ Below w3.heap.size w3 wr)
    case atStart => exact ⟨0, by omega, rfl, Below.refl _ _⟩
    case round =>
      obtain ⟨k, hq, rfl, B⟩ := hrel
      have HQ := Lib.hid hq
      have HBK := Lib.hid B
      have hkN : k ≤ N := by omega
      clear hq B
      by_cases hlt : k < N
      · have hk1 : (k : Int) < N := by omega
        have hc := coreTasks_any (some ⟨g, 0, none⟩) sa cap1 sc ts (N : Int) (zsI r) (k : Int) wr (R3.out.below HBK.out) (O3.out.below HBK.out) (by omega) (by rw [HZL.out]; omega)
        rw [HZL.out] at hc
        go_wp2_with fail
        refine hc.mono ?_
        rintro e w4 ⟨v, rfl, ho4, b4⟩
        clear hc
        have hed := HFE.out k hlt
        obtain ⟨on, hon⟩ : ∃ on, on = ctL ts (N : Int) (zsI r) (k : Int) := ⟨_, rfl⟩
        rw [← hon] at ho4 hed
        obtain ⟨oa, oc, rfl, hor, -, -⟩ := ho4.row
        have HED := Lib.hid hed
        have hsv : svB on = true := (edf_iff.1 hed).1
        have hol : on.length ≤ 5 := (sv_all hsv).2
        have HSV := Lib.hid hsv
        have B4 := Lib.hid (HBK.out.trans (b4.mono HBK.out.size))
        have R4 := Lib.hid hor
        clear hon ho4 hor b4 hed hsv
        go_wp2_with fail
        refine (synchronous_any _ _ on 120 _ R4.out (by omega)).mono ?_
        rintro e w5 ⟨v, rfl, hoj, b5⟩
        rw [show syB on 120 = sy on 120 120 by rw [syB, if_pos ⟨HSV.out, by omega, by omega⟩]; rfl] at hoj
        obtain ⟨js, hjs⟩ : ∃ js, js = sy on 120 120 := ⟨_, rfl⟩
        rw [← hjs] at hoj
        obtain ⟨ja, jcap, rfl⟩ := hoj.shape
        have HL := Lib.hid (show legB on js = true by rw [hjs]; exact sy_legal HSV.out (by omega))
        have h60 : js.length ≤ 60 := (legB_iff.1 HL.out).2.1
        have B5 := Lib.hid (B4.out.trans (b5.mono B4.out.size))
        have R5 := Lib.hid (R4.out.below b5)
        have RJ5 := Lib.hid hoj.rowJ
        clear hjs hoj b5 R4 B4
        go_wp2_with fail
        refine (runEdf_any _ _ _ _ on js _ R5.out RJ5.out (by omega) (by omega)).mono ?_
        rintro e w6 ⟨⟨vr, vf, rfl, o1, o2, -⟩, b6⟩
        obtain ⟨ra6, rc6, rfl⟩ := own_shape o1
        obtain ⟨fa6, fc6, rfl⟩ := own_shape o2
        have e2 : lenF on js = js.length := by rw [lenF, if_pos HL.out]
        have e1 : lenR on js = 120 := by rw [lenR, if_pos HL.out]
        rw [e2] at o2
        rw [e1, e2]
        have B6 := Lib.hid (B5.out.trans (b6.mono B5.out.size))
        have RJ6 := Lib.hid (RJ5.out.below b6)
        have O6 := Lib.hid o2.intF'
        clear o1 o2 b6 e1 e2 R5 RJ5 B5
        go_wp2_with fail
        refine (missed_any _ _ _ _ js.length js (finF js) _ ⟨_, _, _, rfl⟩ _ RJ6.out O6.out (by omega) (by omega)).mono ?_
        rintro e w7 ⟨v, rfl, ho7, b7⟩
        rw [if_pos rfl, late_noneP HL.out HED.out js.length (Nat.le_refl _)] at ho7
        obtain ⟨a7, c7, rfl⟩ := own_shape ho7
        have B7 := Lib.hid (B6.out.trans (b7.mono B6.out.size))
        clear ho7 b7 B6 RJ6 O6
        go_wp2
        go_roundg (gk - 1)
        case measure => have := HQ.out; omega
        case rel => exact ⟨k + 1, by have := HQ.out; omega, by go_num, B7.out⟩
      · obtain rfl : k = N := by omega
        have B4 := B3.trans (HBK.out.mono B3.size)
        go_wp2_with fail
        refine (alive_any _).mono ?_
        rintro e w5 ⟨rfl, b5⟩
        go_wp2
        go_ret
        exact ⟨rfl, B4.trans (b5.mono B4.size)⟩

end Go.Proofs.Ytjmagpfnikhboaa
