/- The program's lexer: contracts of literal, digits, number, end; then ParseTask. Conditions: those of each theorem (what the library's error variables hold). -/
import Derived.Test.YtdgihkmiolnglaaGreatDoorTxtTask
import Derived.Test.YtdgihkmiolnglaaGreatDoorTxtRead
import Derived.Test.YtdgihkmiolnglaaGreatDoorShelf
import Derived.Deep.RegionWith
import Derived.BigQuiet
namespace Go.Proofs.YtdgihkmiolnglaaGreatDoor
open Go.RowKit Go.Deep

/-- Block b is a lexer with the rest r; f: has it failed? -/
def LX (b : Nat) (s : List UInt8 × Bool) (w : World) : Prop := w.heap[b]? = some (.cells #[.string (bs s.1), .bool s.2] 56 (0, 0))
theorem LX.lt {b : Nat} {s : List UInt8 × Bool} {w : World} (h : LX b s w) : b < w.heap.size := (Array.getElem?_eq_some_iff.1 h).1
theorem LX.c0 {b : Nat} {s : List UInt8 × Bool} {w : World} (h : LX b s w) : w.cell? ⟨b, 0, none⟩ = some (.string (bs s.1)) := by simp [World.cell?, show w.heap[b]? = _ from h]
theorem LX.c1 {b : Nat} {s : List UInt8 × Bool} {w : World} (h : LX b s w) : w.cell? ⟨b, 1, none⟩ = some (.bool s.2) := by simp [World.cell?, show w.heap[b]? = _ from h]
theorem LX.f0 {b : Nat} {s : List UInt8 × Bool} {w : World} (h : LX b s w) (k : Nat) : w.frozen? ⟨b, k, none⟩ = false := by simp [World.frozen?, show w.heap[b]? = _ from h]
theorem LX.below {b : Nat} {s : List UInt8 × Bool} {w w' : World} (h : LX b s w) (hb : Below w.heap.size w w') : LX b s w' := (hb.block b h.lt).trans h
theorem LX.set0 {b : Nat} {s : List UInt8 × Bool} {w : World} (h : LX b s w) (r : List UInt8) : LX b (r, s.2) (w.setCell ⟨b, 0, none⟩ (.string (bs r))) := by
  unfold LX at h ⊢
  simp [World.setCell, Array.getElem?_modify, h]
theorem LX.set1 {b : Nat} {s : List UInt8 × Bool} {w : World} (h : LX b s w) (f : Bool) : LX b (s.1, f) (w.setCell ⟨b, 1, none⟩ (.bool f)) := by
  unfold LX at h ⊢
  simp [World.setCell, Array.getElem?_modify, h]
theorem lst_data (l : List UInt8) : (bs l).data.toList = l := by simp [bs]

set_option maxRecDepth 100000 in
set_option maxHeartbeats 1000000 in
theorem literal_any (b : Nat) (s : List UInt8 × Bool) (t : List UInt8) (w : World) (h : LX b s w) :
    Calls Tryz.prog 37 #[.pointer (some ⟨b, 0, none⟩), .string (bs t)] w fun e w' => e = .returned (.tuple #[]) ∧ LX b (litS t s) w' ∧ Below b w w' ∧ w'.heap.size = w.heap.size := by
  obtain ⟨r, f⟩ := s
  have k0 := h.c0
  have k1 := h.c1
  have z0 := h.f0 0
  have z1 := h.f0 1
  have hc := Tryz.strings_CutPrefix (bs r) (bs t) w
  rw [lst_data, lst_data] at hc
  obtain ⟨r', hr'⟩ : ∃ r', r' = Lib.trimPrefix r t := ⟨_, rfl⟩
  obtain ⟨ok, hok⟩ : ∃ ok, ok = Lib.hasPrefix r t := ⟨_, rfl⟩
  rw [← hr', ← hok] at hc
  have hS : litS t (r, f) = (r', f || !ok) := by
    rw [hr', hok, litS, Lib.trimPrefix, Lib.hasPrefix]
    cases t.isPrefixOf r <;> simp
  have HS := Lib.hid hS
  have HH := Lib.hid h
  clear hr' hok hS h
  simp only at k0 k1
  have hc' : Calls Tryz.prog 64 #[.string (bs r), .string (bs t)] w fun e w' => e = .returned (.tuple #[.string (bs r'), .bool ok]) ∧ w' = w := hc
  clear hc
  cases f <;> cases ok
  all_goals
    go_enter Tryz.func37, Tryz.ntmps37
    go_wp2_with fail
    refine hc'.mono ?_
    rintro e w1 ⟨rfl, rfl⟩
    go_wp2
    go_end0
    refine ⟨rfl, ?_, ((Below.refl b _).setCell (Nat.le_refl b) _).setCell (Nat.le_refl b) _, by simp [World.setCell]⟩
    rw [HS.out]
    exact (HH.out.set0 r').set1 _

set_option maxRecDepth 100000 in
set_option maxHeartbeats 1000000 in
theorem end_any (b : Nat) (s : List UInt8 × Bool) (w : World) (h : LX b s w) :
    Calls Tryz.prog 39 #[.pointer (some ⟨b, 0, none⟩)] w fun e w' => e = .returned (.tuple #[]) ∧ w' = w.setCell ⟨b, 1, none⟩ (.bool (s.2 || s.1 != [])) := by
  obtain ⟨r, f⟩ := s
  have k0 := h.c0
  have k1 := h.c1
  have z1 := h.f0 1
  clear h
  simp only at k0 k1
  cases f with
  | true =>
    go_enter Tryz.func39, Tryz.ntmps39
    go_wp2
    go_end0
    exact ⟨rfl, rfl⟩
  | false =>
    have HX := Lib.hid (show (false || r != []) = !(bs r).toList.isEmpty by rw [bs_toList]; cases r <;> rfl)
    go_enter Tryz.func39, Tryz.ntmps39
    go_wp2
    go_end0
    rw [HX.out]
    exact ⟨rfl, rfl⟩

set_option maxRecDepth 100000 in
set_option maxHeartbeats 1000000 in
theorem digits_any (b : Nat) (s : List UInt8 × Bool) (w : World) (h : LX b s w) (hl : s.1.length ≤ 1048576) :
    Calls Tryz.prog 65 #[.pointer (some ⟨b, 0, none⟩)] w fun e w' => e = .returned (.int .i64 (dgN s.1 : Int)) ∧ w' = w := by
  obtain ⟨l, f⟩ := s
  have k0 := h.c0
  simp only at k0 hl ⊢
  have hs : (bs l).size = l.length := bs_size l
  clear h
  go_enter Tryz.func65, Tryz.ntmps65
  go_wp2
  go_loopg [3] l.length (fun q vi wr => ∃ i : Nat, q + i = l.length ∧ vi = .int .i64 (i : Int) ∧ (∀ c ∈ l.take i, isDig c = true) ∧ w = wr)
  case atStart => exact ⟨0, by simp, rfl, by simp, rfl⟩
  case round =>
    obtain ⟨i, hq, rfl, hd, rfl⟩ := hrel
    have HQ := Lib.hid hq
    have HD := Lib.hid hd
    have hil : i ≤ l.length := by omega
    clear hq hd
    by_cases hi : i < l.length
    · have hi0 : (0 : Int) ≤ i := by omega
      have hi1 : (i : Int) < (l.length : Nat) := by omega
      obtain ⟨x, hx⟩ : ∃ x : Nat, x = (l[i]'hi).toNat := ⟨_, rfl⟩
      have hgx : ((bs l)[i]'(by rw [hs]; exact hi)).toNat = x := by rw [bs_get _ hi, hx]
      have HX := Lib.hid hx
      clear hx
      by_cases hx1 : x < 48
      · have hx1' : ¬ (48 : Int) ≤ x := by omega
        have HE := Lib.hid (dgN_eq hil HD.out (.inr ⟨hi, decide_eq_false (by rw [← HX.out]; omega)⟩))
        clear hx1
        go_wp2
        go_ret
        exact ⟨ret_int (by rw [HE.out]), rfl⟩
      by_cases hx2 : 57 < x
      · have hx1' : (48 : Int) ≤ x := by omega
        have hx2' : ¬ (x : Int) ≤ 57 := by omega
        have HE := Lib.hid (dgN_eq hil HD.out (.inr ⟨hi, decide_eq_false (by rw [← HX.out]; omega)⟩))
        clear hx1 hx2
        go_wp2
        go_ret
        exact ⟨ret_int (by rw [HE.out]), rfl⟩
      have hx1' : (48 : Int) ≤ x := by omega
      have hx2' : (x : Int) ≤ 57 := by omega
      have HC := Lib.hid (show isDig (l[i]'hi) = true from decide_eq_true (by rw [← HX.out]; omega))
      clear hx1 hx2
      go_wp2
      go_roundg (gk - 1)
      case measure => have := HQ.out; omega
      case rel =>
        refine ⟨i + 1, by have := HQ.out; omega, by go_num, ?_, rfl⟩
        intro c hm
        rw [List.take_succ_eq_append_getElem hi] at hm
        rcases List.mem_append.1 hm with h1 | h1
        · exact HD.out c h1
        · simp only [List.mem_singleton] at h1; subst h1; exact HC.out
    · obtain rfl : i = l.length := by omega
      have HE := Lib.hid (dgN_eq hil HD.out (.inl rfl))
      clear hi
      go_wp2
      go_ret
      exact ⟨ret_int (by rw [HE.out]), rfl⟩

/-- What the library's error variables hold: some value of an interface's type. -/
def ErrsG (w : World) : Prop := (∃ te pe, w.cell? ⟨0, 0, none⟩ = some (.iface te pe)) ∧ ∃ te pe, w.cell? ⟨1, 0, none⟩ = some (.iface te pe)
def gTop : Nat := max 0 1
theorem cell_lt {w : World} {b k : Nat} {v : Value} (h : w.cell? ⟨b, k, none⟩ = some v) : b < w.heap.size := by
  rcases Nat.lt_or_ge b w.heap.size with h' | h'
  · exact h'
  · simp [World.cell?, Array.getElem?_eq_none h'] at h
theorem ErrsG.lt {w : World} (h : ErrsG w) : gTop < w.heap.size := by
  obtain ⟨⟨a, b, h1⟩, c, d, h2⟩ := h
  exact Nat.max_lt.2 ⟨cell_lt h1, cell_lt h2⟩
theorem ErrsG.below {n : Nat} {w w' : World} (h : ErrsG w) (hn : gTop < n) (hb : Below n w w') : ErrsG w' := by
  obtain ⟨⟨a, b, h1⟩, c, d, h2⟩ := h
  have hn1 : 0 < n := Nat.lt_of_le_of_lt (Nat.le_max_left _ _) hn
  have hn2 : 1 < n := Nat.lt_of_le_of_lt (Nat.le_max_right _ _) hn
  exact ⟨⟨a, b, (hb.cell (p := ⟨0, 0, none⟩) hn1).trans h1⟩, c, d, (hb.cell (p := ⟨1, 0, none⟩) hn2).trans h2⟩
theorem ex_take (l : List UInt8) : (bs l).extract 0 (dgN l) = bs (dgs l) := by
  rw [bs_extract, List.drop_zero, dgs_take]
theorem ex_drop (l : List UInt8) : (bs l).extract (dgN l) l.length = bs (dgR l) := by
  rw [bs_extract, List.take_length, dgR_drop]

theorem atoi_any (D : List UInt8) (hD : D.length ≤ 1048576) (w : World) (hG : ErrsG w) :
    Calls Tryz.prog 66 #[.string (bs D)] w fun e w' => (∃ (n : Int) (ev : Value), e = .returned (.tuple #[.int .i64 n, ev]) ∧ ((Lib.atoiAll D = .ok n ∧ ev = .nilIface) ∨ ((∀ v, Lib.atoiAll D ≠ .ok v) ∧ ∃ te pe, ev = .iface te (.pointer (some pe))))) ∧ Below w.heap.size w w' := by
  have hsz : (bs D).size ≤ 1048576 := by rw [bs_size]; exact hD
  have hl : (bs D).data.toList = D := lst_data D
  rcases ha : Lib.atoiAll D with v | _ | _
  · refine (Tryz.strconv_Atoi_ok (bs D) (by omega) v (by rw [hl]; exact ha) w).mono ?_
    rintro e w' ⟨rfl, hw⟩
    refine ⟨⟨v, _, rfl, .inl ⟨rfl, rfl⟩⟩, ?_⟩
    rcases hw with rfl | ⟨t, rfl⟩
    · exact Below.refl _ _
    · exact Lib.bytesWorld_below _ _ _
  · obtain ⟨⟨te, pe, hv⟩, -⟩ := hG
    refine (Tryz.strconv_Atoi_syntax (bs D) (by omega) (by rw [hl]; exact ha) _ w hv (.inr ⟨te, pe, rfl⟩)).mono ?_
    rintro e w' ⟨N, rfl, -, -, hb⟩
    exact ⟨⟨_, _, rfl, .inr ⟨(fun v h => nomatch h), _, _, rfl⟩⟩, hb⟩
  · obtain ⟨-, te, pe, hv⟩ := hG
    refine (Tryz.strconv_Atoi_range (bs D) (by omega) (by rw [hl]; exact ha) _ w hv (.inr ⟨te, pe, rfl⟩)).mono ?_
    rintro e w' ⟨N, rfl, -, -, hb⟩
    exact ⟨⟨_, _, rfl, .inr ⟨(fun v h => nomatch h), _, _, rfl⟩⟩, hb⟩
theorem numV_ok {l : List UInt8} {v : Int} (h : Lib.atoiAll (dgs l) = .ok v) (hz : Lib.hasPrefix (dgs l) [48] = false) (f : Bool) : numV l = v ∧ numS (l, f) = (dgR l, f) := by
  have e : rdN l = some v := by
    unfold rdN
    rw [h]
    dsimp only
    rw [if_neg]
    rw [show Lib.hasPrefix (dgs l) [48] = List.isPrefixOf [48] (dgs l) from rfl] at hz
    rw [hz]; decide
  exact ⟨by rw [numV, e]; rfl, by rw [numS]; simp [e]⟩
theorem numV_zero {l : List UInt8} {v : Int} (h : Lib.atoiAll (dgs l) = .ok v) (hz : Lib.hasPrefix (dgs l) [48] = true) (f : Bool) : numV l = 0 ∧ numS (l, f) = (dgR l, true) := by
  have e : rdN l = none := by
    unfold rdN
    rw [h]
    dsimp only
    rw [if_pos]
    exact hz
  exact ⟨by rw [numV, e]; rfl, by rw [numS]; simp [e]⟩
theorem numV_bad {l : List UInt8} (h : ∀ v, Lib.atoiAll (dgs l) ≠ .ok v) (f : Bool) : numV l = 0 ∧ numS (l, f) = (dgR l, true) := by
  have e : rdN l = none := by
    unfold rdN
    rcases ha : Lib.atoiAll (dgs l) with v | _ | _
    · exact absurd ha (h v)
    · rfl
    · rfl
  exact ⟨by rw [numV, e]; rfl, by rw [numS]; simp [e]⟩

set_option maxRecDepth 100000 in
set_option maxHeartbeats 1000000 in
theorem lexNumber_any (b : Nat) (s : List UInt8 × Bool) (w : World) (h : LX b s w) (hl : s.1.length ≤ 1048576) (hg : gTop < b) (hG : ErrsG w) :
    Calls Tryz.prog 38 #[.pointer (some ⟨b, 0, none⟩)] w fun e w' => e = .returned (.int .i64 (numV s.1)) ∧ LX b (numS s) w' ∧ Below b w w' := by
  obtain ⟨l, f⟩ := s
  simp only at hl ⊢
  have hs : (bs l).size = l.length := bs_size l
  have k0 := h.c0
  have z0 := h.f0 0
  have z1 := h.f0 1
  have k0' : w.drew.cell? ⟨b, 0, none⟩ = some (.string (bs l)) := k0
  have hd := digits_any b (l, f) w.drew h hl
  simp only at k0 k0' hd
  have e1 := ex_take l
  have e2 := ex_drop l
  have hle := dgN_le l
  obtain ⟨k, hk⟩ : ∃ k, k = dgN l := ⟨_, rfl⟩
  rw [← hk] at hd e1 e2 hle
  have hdk : (bs (dgs l)).size = k := by rw [bs_size, hk]; rfl
  have HK := Lib.hid hk
  have HH := Lib.hid h
  clear hk h
  go_enter Tryz.func38, Tryz.ntmps38
  go_wp2_with fail
  go_region_with (go_at_call 65; refine hd.mono ?_; rintro e w2 ⟨rfl, rfl⟩)
  all_goals
    go_wp2_with fail
    obtain ⟨W, hW⟩ : ∃ W, W = (w.setCell ⟨b, 0, none⟩ (.string (bs (dgR l)))).drew := ⟨_, rfl⟩
    rw [← hW]
    have hL : LX b (dgR l, f) W := by rw [hW]; exact HH.out.set0 _
    have hB : Below b w W := by rw [hW]; exact ((Below.refl b w).setCell (Nat.le_refl b) _).drew
    have hGW := hG.below hg hB
    have hbW := hL.lt
    clear hW
    refine (atoi_any (dgs l) (by have := dgN_le l; unfold dgN at this; omega) W hGW).mono ?_
    rintro e w2 ⟨⟨n, ev, rfl, hres⟩, b2⟩
    have hL2 := hL.below b2
    have B2 := Lib.hid (hB.trans (b2.mono (Nat.le_of_lt hbW)))
    have y1 := hL2.f0 1
    have y2 := hL2.c1
    have HL := Lib.hid hL2
    clear hL hL2 hB hGW b2 k0 k0' z0 z1 hd e1 e2 hle hdk HK HH hs hl hbW
    rcases hres with ⟨hv, rfl⟩ | ⟨hno, te, pe, rfl⟩
    · have hp := Tryz.strings_HasPrefix (bs (dgs l)) (bs [48]) w2
      rw [lst_data, lst_data] at hp
      cases hz : Lib.hasPrefix (dgs l) [48] with
      | false =>
        rw [hz] at hp
        have HV := Lib.hid (numV_ok hv hz f)
        clear hz hv
        go_wp2_with fail
        refine hp.mono ?_
        rintro e w3 ⟨rfl, rfl⟩
        clear hp
        go_wp2
        go_ret
        exact ⟨ret_int HV.out.1.symm, by rw [HV.out.2]; exact HL.out, B2.out⟩
      | true =>
        rw [hz] at hp
        have HV := Lib.hid (numV_zero hv hz f)
        clear hz hv
        go_wp2_with fail
        refine hp.mono ?_
        rintro e w3 ⟨rfl, rfl⟩
        clear hp
        go_wp2
        go_ret
        exact ⟨ret_int HV.out.1.symm, by rw [HV.out.2]; exact HL.out.set1 true, B2.out.setCell (Nat.le_refl b) _⟩
    · have HV := Lib.hid (numV_bad hno f)
      clear hno
      go_wp2
      go_ret
      exact ⟨ret_int HV.out.1.symm, by rw [HV.out.2]; exact HL.out.set1 true, B2.out.setCell (Nat.le_refl b) _⟩

set_option maxRecDepth 100000 in
set_option maxHeartbeats 1000000 in
/-- impl.ParseTask. -/
theorem parseTask_any (l : List UInt8) (w : World) (hl : l.length ≤ 1048576) (hG : ErrsG w) :
    Calls Tryz.prog 9 #[.string (bs l)] w (GotTask w l) := by
  have hs : (bs l).size = l.length := bs_size l
  have hb0 := below_box w (.cells #[.int .i64 0, .int .i64 0, .int .i64 0] 29)
  by_cases h20 : 20 < l.length
  · have h20' : (20 : Int) < (l.length : Nat) := by omega
    have HN := Lib.hid (isT_not_of_len h20)
    have HB0 := Lib.hid hb0
    clear h20 hb0
    go_enter Tryz.func9, Tryz.ntmps9
    go_wp2
    refine bodyPost_ret (v := .tuple #[.agg #[.int .i64 0, .int .i64 0, .int .i64 0], .bool false]) ?_ rfl (got_not HN.out HB0.out)
    simp [results, Tryz.results9, go_sem]
  have h20' : ¬ (20 : Int) < (l.length : Nat) := by omega
  have H20 := Lib.hid h20
  clear h20
  go_enter Tryz.func9, Tryz.ntmps9
  obtain ⟨R, hR⟩ : ∃ R, R = w.alloc (.cells #[.int .i64 0, .int .i64 0, .int .i64 0] 29) := ⟨_, rfl⟩
  have hRs : R.heap.size = w.heap.size + 1 := by rw [hR]; simp
  obtain ⟨W0, hW0⟩ : ∃ W0, W0 = R.alloc (.cells #[.string (bs l), .bool false] 56) := ⟨_, rfl⟩
  have hL0 : LX (w.heap.size + 1) (l, false) W0 := by rw [hW0, ← hRs]; exact blk_alloc_new _ _
  have hB0 : Below w.heap.size w W0 := by rw [hW0]; exact (by rw [hR]; exact hb0 : Below w.heap.size w R).alloc (by omega) _
  have hw0 : W0.heap.size = w.heap.size + 2 := by rw [hW0]; simp [hRs]
  have q0 : W0.cell? ⟨w.heap.size, 0, none⟩ = some (.int .i64 0) := by rw [hW0, hR]; simp [go_sem]
  have q1 : W0.cell? ⟨w.heap.size, 1, none⟩ = some (.int .i64 0) := by rw [hW0, hR]; simp [go_sem]
  have q2 : W0.cell? ⟨w.heap.size, 2, none⟩ = some (.int .i64 0) := by rw [hW0, hR]; simp [go_sem]
  have z0 : W0.frozen? ⟨w.heap.size, 0, none⟩ = false := by rw [hW0, hR]; simp [go_sem]
  have z1 : W0.frozen? ⟨w.heap.size, 1, none⟩ = false := by rw [hW0, hR]; simp [go_sem]
  have z2 : W0.frozen? ⟨w.heap.size, 2, none⟩ = false := by rw [hW0, hR]; simp [go_sem]
  have hg : gTop < w.heap.size + 1 := Nat.lt_succ_of_lt hG.lt
  have hG0 : ErrsG W0 := hG.below hG.lt hB0
  have HW := Lib.hid (And.intro hR hW0)
  have n1 := litS_len kwS (l, false)
  have n2 := numS_len (sc1 l)
  have n3 := litS_len gapW (numS (sc1 l))
  have n4 := numS_len (sc2 l)
  have n5 := litS_len gapW (numS (sc2 l))
  have n1 : (sc1 l).1.length ≤ l.length := n1
  have n3 : (sc2 l).1.length ≤ (numS (sc1 l)).1.length := n3
  have n5 : (sc3 l).1.length ≤ (numS (sc2 l)).1.length := n5
  clear hR hW0 hb0 hRs hG
  go_wp2_with fail
  rw [← HW.out.1, ← HW.out.2]
  refine (literal_any (w.heap.size + 1) (l, false) kwS W0 hL0).mono ?_
  rintro e w1 ⟨rfl, h1, b1, -⟩
  have s1 := b1.size
  have h1 : LX (w.heap.size + 1) (sc1 l) w1 := h1
  have G1 := hG0.below hg b1
  clear hL0
  go_wp2_with fail
  refine (lexNumber_any _ (sc1 l) w1 h1 (by omega) hg G1).mono ?_
  rintro e w2 ⟨rfl, h2, b2⟩
  have s2 := b2.size
  have b2 := b1.trans b2
  have G2 := hG0.below hg b2
  clear h1 b1 G1
  go_wp2_with fail
  refine (literal_any _ (numS (sc1 l)) gapW w2 h2).mono ?_
  rintro e w3 ⟨rfl, h3, b3, -⟩
  have s3 := b3.size
  have b3 := b2.trans b3
  have h3 : LX (w.heap.size + 1) (sc2 l) w3 := h3
  have G3 := hG0.below hg b3
  clear h2 b2 G2
  go_wp2_with fail
  refine (lexNumber_any _ (sc2 l) w3 h3 (by omega) hg G3).mono ?_
  rintro e w4 ⟨rfl, h4, b4⟩
  have s4 := b4.size
  have b4 := b3.trans b4
  have G4 := hG0.below hg b4
  clear h3 b3 G3
  go_wp2_with fail
  refine (literal_any _ (numS (sc2 l)) gapW w4 h4).mono ?_
  rintro e w5 ⟨rfl, h5, b5, -⟩
  have s5 := b5.size
  have b5 := b4.trans b5
  have h5 : LX (w.heap.size + 1) (sc3 l) w5 := h5
  have G5 := hG0.below hg b5
  clear h4 b4 G4
  go_wp2_with fail
  refine (lexNumber_any _ (sc3 l) w5 h5 (by omega) hg G5).mono ?_
  rintro e w6 ⟨rfl, h6, b6⟩
  have s6 := b6.size
  have b6 := b5.trans b6
  clear h5 b5 G5
  go_wp2_with fail
  obtain ⟨A, hA⟩ : ∃ A, A = numV (sc1 l).1 := ⟨_, rfl⟩
  obtain ⟨B, hB⟩ : ∃ B, B = numV (sc2 l).1 := ⟨_, rfl⟩
  obtain ⟨C, hC⟩ : ∃ C, C = numV (sc3 l).1 := ⟨_, rfl⟩
  have HGood := Lib.hid (show scE l = false → tvB A B C = true → IsT l A B C by rw [hA, hB, hC]; exact scan_good)
  have HBad := Lib.hid (show scE l = true ∨ tvB A B C = false → ∀ c d p, ¬ IsT l c d p by rw [hA, hB, hC]; exact scan_bad)
  rw [← hA, ← hB, ← hC]
  clear hA hB hC n1 n2 n3 n4 n5
  obtain ⟨W7, hW7⟩ : ∃ W7, W7 = w6.alloc (.cells #[.int .i64 A, .int .i64 B, .int .i64 C] 29) := ⟨_, rfl⟩
  rw [← hW7]
  have h7 : LX (w.heap.size + 1) (numS (sc3 l)) W7 := by rw [hW7]; exact h6.below (below_box _ _)
  have b7 : Below (w.heap.size + 1) W0 W7 := by rw [hW7]; exact b6.alloc (by omega) _
  have c0 : W7.cell? ⟨w6.heap.size, 0, none⟩ = some (.int .i64 A) := by rw [hW7]; simp [go_sem]
  have c1 : W7.cell? ⟨w6.heap.size, 1, none⟩ = some (.int .i64 B) := by rw [hW7]; simp [go_sem]
  have c2 : W7.cell? ⟨w6.heap.size, 2, none⟩ = some (.int .i64 C) := by rw [hW7]; simp [go_sem]
  have s7 : W7.heap.size = w6.heap.size + 1 := by rw [hW7]; simp
  clear hW7 h6 b6
  refine (end_any _ (numS (sc3 l)) W7 h7).mono ?_
  rintro e W8 ⟨rfl, hW8⟩
  have hE : ((numS (sc3 l)).2 || (numS (sc3 l)).1 != []) = scE l := rfl
  rw [hE] at hW8
  have h8 : LX (w.heap.size + 1) ((numS (sc3 l)).1, scE l) W8 := by rw [hW8]; exact h7.set1 _
  have b8 : Below (w.heap.size + 1) W0 W8 := by rw [hW8]; exact b7.setCell (Nat.le_refl _) _
  have hfar : ∀ j, W8.cell? ⟨w6.heap.size, j, none⟩ = W7.cell? ⟨w6.heap.size, j, none⟩ := fun j => by
    rw [hW8]
    exact World.cell?_of_block (a := ⟨w6.heap.size, j, none⟩) (Below.heap_setCell _ ⟨w.heap.size + 1, 1, none⟩ _ _ (by simp only; omega))
  rw [← hfar 0] at c0
  rw [← hfar 1] at c1
  rw [← hfar 2] at c2
  have s8 : W8.heap.size = W7.heap.size := by rw [hW8]; simp [World.setCell]
  have hf := h8.c1
  clear hW8 h7 b7 hfar hE
  have q0 := (b8.cell (p := ⟨w.heap.size, 0, none⟩) (Nat.lt_succ_self _)).trans q0
  have q1 := (b8.cell (p := ⟨w.heap.size, 1, none⟩) (Nat.lt_succ_self _)).trans q1
  have q2 := (b8.cell (p := ⟨w.heap.size, 2, none⟩) (Nat.lt_succ_self _)).trans q2
  have z0 := (b8.frozen (p := ⟨w.heap.size, 0, none⟩) (Nat.lt_succ_self _)).trans z0
  have z1 := (b8.frozen (p := ⟨w.heap.size, 1, none⟩) (Nat.lt_succ_self _)).trans z1
  have z2 := (b8.frozen (p := ⟨w.heap.size, 2, none⟩) (Nat.lt_succ_self _)).trans z2
  have B8 := Lib.hid (hB0.trans (b8.mono (Nat.le_succ _)))
  have hwl : w.heap.size < W8.heap.size := by omega
  have hKl : w6.heap.size < W8.heap.size := by omega
  clear h8 b8 hB0
  simp only at hf
  cases hs : scE l with
  | true =>
    rw [hs] at hf
    have HN := Lib.hid (HBad.out (.inl hs))
    go_wp2
    refine bodyPost_ret (v := .tuple #[.agg #[.int .i64 0, .int .i64 0, .int .i64 0], .bool false]) ?_ rfl (got_not HN.out (below_set3' B8.out (Nat.le_refl _) _ _ _))
    simp [results, Tryz.results9, go_sem, q0, q1, q2]
  | false =>
    rw [hs] at hf
    go_wp2_with fail
    refine (valid_any A B C _).mono ?_
    rintro e w9 ⟨rfl, b9⟩
    have y0 := (b9.cell (p := ⟨w6.heap.size, 0, none⟩) hKl).trans c0
    have y1 := (b9.cell (p := ⟨w6.heap.size, 1, none⟩) hKl).trans c1
    have y2 := (b9.cell (p := ⟨w6.heap.size, 2, none⟩) hKl).trans c2
    have q0 := (b9.cell (p := ⟨w.heap.size, 0, none⟩) hwl).trans q0
    have q1 := (b9.cell (p := ⟨w.heap.size, 1, none⟩) hwl).trans q1
    have q2 := (b9.cell (p := ⟨w.heap.size, 2, none⟩) hwl).trans q2
    have z0 := (b9.frozen (p := ⟨w.heap.size, 0, none⟩) hwl).trans z0
    have z1 := (b9.frozen (p := ⟨w.heap.size, 1, none⟩) hwl).trans z1
    have z2 := (b9.frozen (p := ⟨w.heap.size, 2, none⟩) hwl).trans z2
    have B9 := Lib.hid (B8.out.trans (b9.mono B8.out.size))
    clear c0 c1 c2 b9
    cases hv : tvB A B C with
    | false =>
      have HN := Lib.hid (HBad.out (.inr hv))
      go_wp2
      refine bodyPost_ret (v := .tuple #[.agg #[.int .i64 0, .int .i64 0, .int .i64 0], .bool false]) ?_ rfl (got_not HN.out (below_set3' B9.out (Nat.le_refl _) _ _ _))
      simp [results, Tryz.results9, go_sem, q0, q1, q2]
    | true =>
      have HN := Lib.hid (HGood.out hs hv)
      go_wp2
      refine bodyPost_ret (v := .tuple #[.agg #[.int .i64 A, .int .i64 B, .int .i64 C], .bool true]) ?_ rfl ⟨⟨A, B, C, true, rfl, .inl ⟨rfl, HN.out⟩⟩, below_set3' B9.out (Nat.le_refl _) _ _ _⟩
      simp [results, Tryz.results9, go_sem, q0, q1, q2]

end Go.Proofs.YtdgihkmiolnglaaGreatDoor
