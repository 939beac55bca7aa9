/- Contracts of spec.l4Others and spec.AssignPriorities. Conditions: the slices hold what is said, at most 2^40 tasks. -/
import Derived.Test.YtocppoobcanhiaaAssignImpl
namespace Go.Proofs.Ytocppoobcanhiaa
open Go.RowKit Go.Deep

theorem unL_succ (l : List Int) (k : Nat) : unL l (k + 1) = if (k : Int) ∈ l then unL l k else unL l k ++ [(k : Int)] := by
  unfold unL
  rw [List.range_succ, List.map_append, List.filter_append]
  by_cases h : (k : Int) ∈ l
  · simp [h]
  · simp [h]
theorem unL_len_le (l : List Int) (k : Nat) : (unL l k).length ≤ k := by
  unfold unL
  have := List.length_filter_le (fun x => decide (x ∉ l)) ((List.range k).map fun i : Nat => (i : Int))
  simpa using this
theorem mem_getD {l : List Int} {x : Int} : (∀ k, k < l.length → l.getD k 0 ≠ x) ↔ x ∉ l := by
  constructor
  · intro h hm
    obtain ⟨k, hk, e⟩ := List.getElem_of_mem hm
    exact h k hk (by rw [List.getD_eq_getElem?_getD, List.getElem?_eq_getElem hk, e]; rfl)
  · intro h k hk e
    rw [List.getD_eq_getElem?_getD, List.getElem?_eq_getElem hk] at e
    exact h (by rw [← e]; exact List.getElem_mem hk)
theorem vals_app (l : List Int) (x : Int) : vals (fun k => (l ++ [x]).getD k 0) (l.length + 1) = vals (fun k => l.getD k 0) l.length ++ [.int .i64 x] := by
  rw [vals_succ]
  congr 1
  · simp only [vals]
    refine List.map_congr_left fun k hk => ?_
    have := List.mem_range.1 hk
    rw [List.getD_eq_getElem?_getD, List.getElem?_append_left this, ← List.getD_eq_getElem?_getD]
  · rw [List.getD_eq_getElem?_getD, List.getElem?_append_right (Nat.le_refl _), Nat.sub_self]
    rfl
theorem vals_cons (l : List Int) (x : Int) : vals (fun k => (x :: l).getD k 0) (1 + l.length) = [.int .i64 x] ++ vals (fun k => l.getD k 0) l.length := by
  apply List.ext_getElem?
  intro j
  by_cases hj : j < 1 + l.length
  · rw [vals_at _ hj]
    cases j with
    | zero => rfl
    | succ j =>
      rw [List.singleton_append, List.getElem?_cons_succ, vals_at _ (by omega)]
      simp
  · rw [List.getElem?_eq_none (by rw [vals_len]; omega), List.getElem?_eq_none (by simp [vals_len]; omega)]

theorem own_one (w : World) (y : Int) : (w.alloc (.cells #[.int .i64 y] 3)).ownsRow w.heap.size 3 1 (.slice (some ⟨w.heap.size, 0, none⟩) 1 1) 1 [.int .i64 y] :=
  ⟨rfl, .inr ⟨w.heap.size, 1, #[.int .i64 y], rfl, Nat.le_refl _, blk_alloc_new _ _, Nat.le_refl _, by simp [maxLen], rfl, rfl⟩⟩

set_option maxHeartbeats 1000000 in
/-- spec.l4Others. -/
theorem l4Others_any (many n : Nat) (la : Option Addr) (lcap : Nat) (l : List Int) (w : World) (hf : IntF w la l.length fun k => l.getD k 0) (hm : many ≤ 1000) (hl : l.length ≤ 1000) :
    Calls Try.prog 54 #[.int .i64 many, .int .i64 n, .slice la l.length lcap] w fun e w' =>
      (∃ v, e = .returned v ∧ OwnI w' w.heap.size v (unL ((n : Int) :: l) many).length fun k => (unL ((n : Int) :: l) many).getD k 0) ∧ Below w.heap.size w w' := by
  obtain ⟨i0, hi, hz, hsz, hby⟩ := info_parts intInfo
  have HI := Lib.hid (And.intro hi (And.intro hz (And.intro hsz hby)))
  clear hi hz hsz hby
  have HF := Lib.hid hf
  clear hf
  go_enter Try.func54, Try.ntmps54
  go_wp2
  go_loopg [7, 8] many (fun m s i wr => ∃ k : Nat, m + k = many ∧ i = .int .i64 k ∧ OwnI wr w.heap.size s (unL ((n : Int) :: l) k).length (fun j => (unL ((n : Int) :: l) k).getD j 0) ∧ Below w.heap.size w wr)
  case atStart => exact ⟨0, rfl, rfl, OwnI.empty w _, below_box _ _⟩
  case round =>
    obtain ⟨k, hk, rfl, ho, B⟩ := hrel
    have HK := Lib.hid hk
    have HO := Lib.hid ho
    have hkk : k ≤ many := by omega
    have hul := unL_len_le ((n : Int) :: l) k
    have HU := Lib.hid (unL_succ ((n : Int) :: l) k)
    clear hk ho
    by_cases hlt : k < many
    · have hlt' : (k : Int) < many := by omega
      by_cases hkn : k = n
      · subst hkn
        go_wp2
        go_roundg (gk - 1)
        case measure => have := HK.out; omega
        case rel => exact ⟨k + 1, by have := HK.out; omega, by go_num, by rw [HU.out, if_pos List.mem_cons_self]; exact HO.out, B⟩
      · have hne : ((k : Int) != (n : Int)) = true := by simp; omega
        have hne2 : ((k : Int) == (n : Int)) = false := by simp; omega
        have CI := Lib.hid (l4Index_any la lcap l.length (fun k => l.getD k 0) (k : Int) wr (HF.out.below B) (by omega))
        by_cases hmem : (k : Int) ∈ l
        · have hx : ¬ idF (fun k => l.getD k 0) (k : Int) l.length < 0 := fun h => mem_getD.1 (idF_neg.1 h) hmem
          obtain ⟨x, hx2⟩ : ∃ x, x = idF (fun k => l.getD k 0) (k : Int) l.length := ⟨_, rfl⟩
          rw [← hx2] at CI hx
          clear hx2
          go_wp2_with (go_at_call 44; refine CI.out.mono ?_; rintro e w1 ⟨rfl, rfl⟩)
          go_roundg (gk - 1)
          case measure => have := HK.out; omega
          case rel => exact ⟨k + 1, by have := HK.out; omega, by go_num, by rw [HU.out, if_pos (List.mem_cons_of_mem _ hmem)]; exact HO.out, B⟩
        · have hx : idF (fun k => l.getD k 0) (k : Int) l.length < 0 := idF_neg.2 (mem_getD.2 hmem)
          have hnm : (k : Int) ∉ (n : Int) :: l := fun h => by
            rcases List.mem_cons.1 h with e | e
            · omega
            · exact hmem e
          obtain ⟨x, hx2⟩ : ∃ x, x = idF (fun k => l.getD k 0) (k : Int) l.length := ⟨_, rfl⟩
          rw [← hx2] at CI hx
          have HNM := Lib.hid hnm
          clear hx2 hnm hmem
          obtain ⟨U, hU⟩ : ∃ U, U = unL ((n : Int) :: l) k := ⟨_, rfl⟩
          rw [← hU] at HO HU hul
          clear hU
          go_wp2_with fail
          refine CI.out.mono ?_
          rintro e w1 ⟨rfl, rfl⟩
          go_wp2_with (at_builtin; refine wpList_append_own _ rfl (.tmp 24) (.tmp 26) 23 rfl w.heap.size 3 i0 _ 1 8 Try.underlying23 HI.out.1 HI.out.2.1 HI.out.2.2.1 HI.out.2.2.2 rfl (by decide) _ U.length (vals (fun j => U.getD j 0) U.length) rfl (World.ownsRow.alloc HO.out _) ⟨wr.heap.size, 0, none⟩ 1 1 [.int .i64 (k : Int)] rfl rfl (news1 _ _ _) (one1 _) (by unfold maxLen; omega) (by omega) (Nat.le_trans B.size (below_box _ _).size) ?_; intro v' w' hown' hgrow hnil)
          have B1 : Below w.heap.size w w' := (B.trans ((below_box wr _).mono B.size)).grown hgrow (Nat.le_trans B.size (below_box _ _).size) (fun k hk => HO.out.from k hk)
          have HO1 := Lib.hid (show OwnI w' w.heap.size v' (U ++ [(k : Int)]).length (fun j => (U ++ [(k : Int)]).getD j 0) by unfold OwnI; rw [List.length_append, List.length_singleton, vals_app]; exact hown')
          clear hown' hgrow hnil
          go_roundg (gk - 1)
          case measure => have := HK.out; omega
          case rel => exact ⟨k + 1, by have := HK.out; omega, by go_num, by rw [HU.out, if_neg HNM.out]; exact HO1.out, B1⟩
    · obtain rfl : k = many := by omega
      go_wp2
      go_ret
      exact ⟨⟨_, rfl, HO.out⟩, B⟩

/-- Of the tasks from k on, f is the first that fits, or -1. -/
def Fnd (ts : List T3) (low : List Int) (k : Nat) (f : Int) : Prop :=
  (f = -1 ∧ ∀ i, k ≤ i → i < ts.length → fitB ts low i = false) ∨ ∃ i : Nat, f = i ∧ k ≤ i ∧ i < ts.length ∧ fitB ts low i = true ∧ ∀ j, k ≤ j → j < i → fitB ts low j = false
theorem Fnd.skip {ts : List T3} {low : List Int} {k : Nat} {f : Int} (h : Fnd ts low (k + 1) f) (hf : fitB ts low k = false) : Fnd ts low k f := by
  rcases h with ⟨e, h⟩ | ⟨i, e, h1, h2, h3, h4⟩
  · exact .inl ⟨e, fun i hi hn => by
      by_cases e : i = k
      · subst e; exact hf
      · exact h i (by omega) hn⟩
  · exact .inr ⟨i, e, by omega, h2, h3, fun j hj hji => by
      by_cases e : j = k
      · subst e; exact hf
      · exact h4 j (by omega) hji⟩
theorem Fnd.all {ts : List T3} {low : List Int} {f : Int} (h : Fnd ts low 0 f) : f = optI (pickA ts low ts.length) := by
  rcases h with ⟨e, h⟩ | ⟨i, e, h1, h2, h3, h4⟩
  · cases hp : pickA ts low ts.length with
    | none => exact e
    | some i =>
      obtain ⟨a, b⟩ := pickA_some hp
      rw [h i (Nat.zero_le _) a] at b
      simp at b
  · rw [pickA_first h3 (fun j hj => h4 j (Nat.zero_le _) hj) _ h2]
    exact e
theorem oth_mem {n : Nat} {l : List Int} {j : Nat} (hj : j < n) : j ∈ (unL l n).map Int.toNat ↔ (j : Int) ∉ l := by
  constructor
  · intro h
    obtain ⟨x, hx, e⟩ := List.mem_map.1 h
    have h1 := unL_mem.1 hx
    have : x = (j : Int) := by omega
    exact this ▸ h1.2
  · intro h
    exact List.mem_map.2 ⟨(j : Int), unL_mem.2 ⟨by omega, h⟩, by simp⟩
theorem oth_resp {ts : List T3} {low : List Int} {i : Nat} : lfp (rL ts ((unL ((i : Int) :: low) ts.length).map Int.toNat) i) (dln (tk ts i)) = resp ts (fun j => decide ((j : Int) ∉ (i : Int) :: low)) i := by
  have e : lfp (rL ts ((unL ((i : Int) :: low) ts.length).map Int.toNat) i) (dln (tk ts i)) = resp ts (fun j => decide (j ∈ (unL ((i : Int) :: low) ts.length).map Int.toNat)) i := by
    unfold resp
    congr 1
    funext x
    unfold rL rF
    rw [wkL_eq (nodup_toNat (unL_nd _ _) fun x hx => (unL_mem.1 hx).1.1) fun h hh => by
      obtain ⟨x, hx, e⟩ := List.mem_map.1 hh
      have := (unL_mem.1 hx).1
      omega]
  rw [e]
  exact resp_congr fun j hj => decide_eq_decide.2 (oth_mem hj)
theorem oth_intF {w : World} {a : Option Addr} {l : List Int} (h : IntF w a l.length fun k => l.getD k 0) (h0 : ∀ x ∈ l, 0 ≤ x) : IntF w a (l.map Int.toNat).length fun k => ((l.map Int.toNat).getD k 0 : Nat) := by
  intro k hk
  rw [List.length_map] at hk
  obtain ⟨b, off, e1, e2, e3⟩ := h k hk
  refine ⟨b, off, e1, e2, e3.trans ?_⟩
  have e : l.getD k 0 = l[k] := by simp [List.getD, List.getElem?_eq_getElem hk]
  have e' : (l.map Int.toNat).getD k 0 = l[k].toNat := by simp [List.getD, List.getElem?_eq_getElem hk]
  simp only [e, e']
  have := h0 l[k] (List.getElem_mem hk)
  congr 2
  omega

set_option maxHeartbeats 4000000 in
/-- spec.AssignPriorities. -/
theorem specAssignPriorities_any (ta : Option Addr) (tcap : Nat) (ts : List T3) (w : World) (hr : Row w ta ts) (hn : ts.length ≤ 1048576) :
    Calls Try.prog 29 #[.slice ta ts.length tcap] w fun e w' =>
      GotAssign w.heap.size ts e w' ∧ Below w.heap.size w w' := by
  obtain ⟨i0, hi, hz, hsz, hby⟩ := info_parts intInfo
  have HI := Lib.hid (And.intro hi (And.intro hz (And.intro hsz hby)))
  clear hi hz hsz hby
  have HR := Lib.hid hr
  clear hr
  cases hs : svB ts with
  | false =>
    have HA := Lib.hid (show audB ts = none by rw [audB, hs]; rfl)
    go_enter Try.func29, Try.ntmps29
    go_wp2_with (go_at_call 41; refine (specSetValid_any _ _ ts _ HR.out (by omega)).mono ?_; rintro e w1 ⟨rfl, b1⟩; rw [hs])
    go_ret2
    refine ⟨⟨_, by rw [HA.out]; rfl, ?_⟩, b1.alloc b1.size _⟩
    rw [audO, HA.out]
    exact (OwnI.empty w1 _).mono b1.size
  | true =>
    have HS := Lib.hid hs
    have HA := Lib.hid (show audB ts = aud ts by rw [audB, hs]; rfl)
    have hn5 := (sv_all hs).2
    have hw1 : IntKind.i64.wrap ((ts.length : Int) - 1) = (ts.length : Int) - 1 := IntWalk.i64_in _ (by omega)
    go_enter Try.func29, Try.ntmps29
    go_wp2_with fail
    refine (specSetValid_any _ _ ts _ HR.out (by omega)).mono ?_
    rintro e w1 ⟨rfl, b1⟩
    rw [HS.out]
    clear hs
    have hs1 := b1.size
    go_wp2
    go_loopg [4] ts.length (fun m s wr => ∃ (L g c : Nat) (low : List Int), m = L ∧ s = .slice (some ⟨g, 0, none⟩) low.length c ∧ Low ts low ∧ low.length + L = ts.length ∧ OwnI wr w.heap.size (.slice (some ⟨g, 0, none⟩) low.length c) low.length (fun k => low.getD k 0) ∧ audL ts L low = aud ts ∧ Below w.heap.size w wr)
    case atStart => exact ⟨ts.length, w1.heap.size, 0, [], rfl, rfl, Low.nil ts, by simp, (OwnI.empty w1 _).mono hs1, rfl, b1.alloc hs1 _⟩
    case round =>
      obtain ⟨L, g, c, low, hm, rfl, hlow, hll, ho, hau, B⟩ := hrel
      obtain ⟨G, hG⟩ : ∃ G, G = gk := ⟨_, rfl⟩
      have HG := Lib.hid hG
      have HK := Lib.hid hm
      have HLO := Lib.hid hlow
      have HLL := Lib.hid hll
      have HO := Lib.hid ho
      have HAU := Lib.hid hau
      have hLn : low.length ≤ ts.length := by omega
      clear hm hlow hll ho hau hG
      by_cases hlt : low.length < ts.length
      · have hlt' : (low.length : Int) < ts.length := by omega
        go_wp2
        go_loopg [5, 6] ts.length (fun m f z w2 => ∃ (k : Nat) (x : Int), m = k ∧ z = .int .i64 ((k : Int) - 1) ∧ f = .int .i64 x ∧ k ≤ ts.length ∧ Fnd ts low k x ∧ OwnI w2 w.heap.size (.slice (some ⟨g, 0, none⟩) low.length c) low.length (fun k => low.getD k 0) ∧ Below w.heap.size w w2)
        case atStart => exact ⟨ts.length, -1, rfl, rfl, rfl, Nat.le_refl _, .inl ⟨rfl, fun i h1 h2 => by omega⟩, HO.out, B⟩
        case round =>
          clear HO B
          obtain ⟨k, x, hm, rfl, rfl, hkn, hfd, ho2, BB⟩ := hrel
          have HM := Lib.hid hm
          have HFD := Lib.hid hfd
          have O2 := Lib.hid ho2
          clear hm hfd ho2
          cases k with
          | zero =>
            have hz : ¬ (0 : Int) ≤ ((0 : Nat) : Int) - 1 := by omega
            have hfa := HFD.out.all
            have hsz2 := BB.size
            cases hp : pickA ts low ts.length with
            | none =>
              rw [hp] at hfa
              simp only [optI] at hfa
              subst hfa
              go_wp2
              go_ret2
              have hau : aud ts = none := by
                rw [← HAU.out]
                obtain ⟨L', rfl⟩ : ∃ L', L = L' + 1 := ⟨L - 1, by have := HLL.out; omega⟩
                rw [audL, hp]
              refine ⟨⟨_, by rw [HA.out, hau]; rfl, ?_⟩, BB.alloc hsz2 _⟩
              rw [audO, HA.out, hau]
              exact (OwnI.empty _ _).mono hsz2
            | some y =>
              rw [hp] at hfa
              simp only [optI] at hfa
              subst hfa
              have hy0 : ¬ (y : Int) < 0 := by omega
              have hps := pickA_some hp
              have HLC := Lib.hid (HLO.out.cons hps.1 hps.2)
              have HP := Lib.hid hp
              clear hp hps
              have hnew := O2.out.intF'
              have HNW := Lib.hid (show ∀ o : Obj, ∀ (j : Nat) (u : Value), (vals (fun k => low.getD k 0) low.length)[j]? = some u → (wr.alloc o).cell? ((⟨g, 0, none⟩ : Addr).add j) = some u from fun o j u hj => by
                have hjl : j < low.length := by have := (List.getElem?_eq_some_iff.1 hj).1; rwa [vals_len] at this
                rw [vals_at _ hjl] at hj
                simp only [Option.some.injEq] at hj
                subst hj
                obtain ⟨b, off, e1, e2, e3⟩ := hnew j hjl
                simp only [Option.some.injEq, Addr.mk.injEq, and_true] at e1
                obtain ⟨rfl, rfl⟩ := e1
                rw [addr_add']
                exact ((below_box wr o).cell (p := ⟨g, 0 + j, none⟩) e2).trans e3)
              clear hnew
              go_wp2_with (at_builtin; refine wpList_append_own _ rfl (.tmp 44) (.tmp 45) 23 rfl wr.heap.size 3 i0 _ 1 8 Try.underlying23 HI.out.1 HI.out.2.1 HI.out.2.2.1 HI.out.2.2.2 rfl (by decide) _ 1 [.int .i64 (y : Int)] rfl (own_one wr y) ⟨g, 0, none⟩ low.length c (vals (fun k => low.getD k 0) low.length) rfl (by rw [vals_len, Nat.mul_one]) (HNW.out _) (vals_one _ _) (by unfold maxLen; omega) (by omega) (below_box _ _).size ?_; intro v' w' hown' hgrow hnil)
              have O3 := (show OwnI w' wr.heap.size v' ((y : Int) :: low).length (fun k => ((y : Int) :: low).getD k 0) by unfold OwnI; rw [List.length_cons, Nat.add_comm, vals_cons]; exact hown')
              have B3 : Below wr.heap.size wr w' := (below_box wr _).grown hgrow (below_box wr _).size (fun k hk => (World.ownsRow.lt (own_one wr y) k hk).1)
              obtain ⟨g', c', e, _⟩ := O3.at (by simp)
              subst e
              have HO3 := Lib.hid (O3.mono hsz2)
              have BW := BB.trans (B3.mono hsz2)
              clear O3 hown' hgrow hnil B3
              go_roundg (G - 1)
              case measure => have := HG.out; have := HK.out; have := HLL.out; omega
              case rel => exact ⟨L - 1, g', c', (y : Int) :: low, by have := HG.out; have := HK.out; omega, rfl, HLC.out, by have := HLL.out; simp only [List.length_cons]; omega, HO3.out, by
                obtain ⟨L', hL'⟩ : ∃ L', L = L' + 1 := ⟨L - 1, by have := HLL.out; omega⟩
                have h := HAU.out
                rw [hL', audL, HP.out] at h
                rw [hL']
                exact h, BW⟩
          | succ k =>
            have hz : (0 : Int) ≤ ((k + 1 : Nat) : Int) - 1 := by omega
            have he : ((k + 1 : Nat) : Int) - 1 = (k : Int) := by omega
            have hk0 : (0 : Int) ≤ (k : Int) := by omega
            have hw2 : IntKind.i64.wrap ((k : Int) - 1) = (k : Int) - 1 := IntWalk.i64_in _ (by omega)
            rw [he]
            clear hz he
            have CI := Lib.hid (l4Index_any (some ⟨g, 0, none⟩) c low.length (fun k => low.getD k 0) (k : Int) wr O2.out.intF' (by omega))
            by_cases hmem : (k : Int) ∈ low
            · have hx : ¬ idF (fun k => low.getD k 0) (k : Int) low.length < 0 := fun h => mem_getD.1 (idF_neg.1 h) hmem
              have HFL := Lib.hid (fitB_low (ts := ts) hmem)
              obtain ⟨q, hq⟩ : ∃ q, q = idF (fun k => low.getD k 0) (k : Int) low.length := ⟨_, rfl⟩
              rw [← hq] at CI hx
              clear hq hmem
              go_wp2_with (go_at_call 44; refine CI.out.mono ?_; rintro e w3 ⟨rfl, rfl⟩)
              go_roundg (gk - 1)
              case measure => have := HM.out; omega
              case rel => exact ⟨k, x, by have := HM.out; omega, rfl, rfl, by omega, HFD.out.skip HFL.out, O2.out, BB⟩
            · have hx : idF (fun k => low.getD k 0) (k : Int) low.length < 0 := idF_neg.2 (mem_getD.2 hmem)
              have HFB := Lib.hid (show fitB ts low k = (resp ts (fun j => decide ((j : Int) ∉ (k : Int) :: low)) k).isSome by rw [fitB, decide_eq_true hmem, Bool.true_and])
              obtain ⟨q, hq⟩ : ∃ q, q = idF (fun k => low.getD k 0) (k : Int) low.length := ⟨_, rfl⟩
              rw [← hq] at CI hx
              clear hq hmem
              go_wp2_with fail
              refine CI.out.mono ?_
              rintro e w3 ⟨rfl, rfl⟩
              go_wp2_with fail
              refine (l4Others_any ts.length k (some ⟨g, 0, none⟩) c low wr O2.out.intF' (by omega) (by omega)).mono ?_
              rintro e w3 ⟨⟨v, rfl, hov⟩, b3⟩
              obtain ⟨va, vc, rfl⟩ := own_shape hov
              have B3 := BB.trans (b3.mono BB.size)
              have CR := l4Response_any ta va tcap vc ts ((unL ((k : Int) :: low) ts.length).map Int.toNat) k w3 (HR.out.below B3) (oth_intF hov.intF' fun x hx => (unL_mem.1 hx).1.1) (sv_all HS.out).1 (fun j hj => by
                  rw [List.length_map] at hj
                  have e' : ((unL ((k : Int) :: low) ts.length).map Int.toNat).getD j 0 = ((unL ((k : Int) :: low) ts.length)[j]).toNat := by simp [List.getD, List.getElem?_eq_getElem hj]
                  rw [e']
                  have := (unL_mem.1 (List.getElem_mem hj)).1
                  omega) (by rw [List.length_map]; have := unL_len_le ((k : Int) :: low) ts.length; omega) (by omega)
              rw [List.length_map, oth_resp] at CR
              have CR := Lib.hid CR
              clear hov
              cases hres : resp ts (fun j => decide ((j : Int) ∉ (k : Int) :: low)) k with
              | none =>
                simp only [hres, optI] at CR
                go_wp2_with (go_at_call 49; refine CR.out.mono ?_; rintro e w4 ⟨rfl, b4⟩)
                go_roundg (gk - 1)
                case measure => have := HM.out; omega
                case rel => exact ⟨k, x, by have := HM.out; omega, rfl, rfl, by omega, HFD.out.skip (by rw [HFB.out, hres]; rfl), O2.out.below (b3.trans (b4.mono b3.size)), B3.trans (b4.mono B3.size)⟩
              | some r =>
                simp only [hres, optI] at CR
                have hr0 : (0 : Int) ≤ (r : Int) := by omega
                go_wp2_with (go_at_call 49; refine CR.out.mono ?_; rintro e w4 ⟨rfl, b4⟩)
                go_roundg (gk - 1)
                case measure => have := HM.out; omega
                case rel => exact ⟨k, (k : Int), by have := HM.out; omega, rfl, rfl, by omega, .inr ⟨k, rfl, Nat.le_refl _, by omega, by rw [HFB.out, hres]; rfl, fun j h1 h2 => by omega⟩, O2.out.below (b3.trans (b4.mono b3.size)), B3.trans (b4.mono B3.size)⟩
      · go_wp2
        go_ret2
        have hlf : low.length = ts.length := by omega
        have hL0 : L = 0 := by have := HLL.out; omega
        have hau : aud ts = some low := by rw [← HAU.out, hL0]; rfl
        refine ⟨⟨_, by rw [HA.out, hau]; rfl, ?_⟩, B⟩
        rw [audO, HA.out, hau]
        exact HO.out

end Go.Proofs.Ytocppoobcanhiaa
