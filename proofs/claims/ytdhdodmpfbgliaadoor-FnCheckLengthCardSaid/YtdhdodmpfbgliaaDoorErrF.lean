/- errors.As of an error that is a violation, a tickError or a tickError around a violation, at a variable of either type. Conditions: the variable errors.errorType holds what it is laid with; the target is a variable. -/
import Derived.Test.YtdhdodmpfbgliaaDoorProg
import Derived.WalkKit
import Derived.LaidEql
import Derived.Stop.Asserts
import Derived.RowKitTokens
import Derived.Deep.MidRow
namespace Go.Proofs.YtdhdodmpfbgliaaDoor
open Go.RowKit Go.Extern.Stop Go.Stop Go.Extern

/-- What the variable errors.errorType holds. -/
def ErrG (w : World) : Prop := w.cell? ⟨0, 0, none⟩ = some (.iface 128 (.agg #[.pointer (some ⟨1, 65, none⟩)]))

theorem there_lt {w : World} {t n : Nat} (h : w.there t 0 (n + 1)) : t < w.heap.size := by
  obtain ⟨v, hv⟩ := Option.isSome_iff_exists.1 (h 0 (by omega)).1
  exact World.block_lt_of_cell? w _ hv

theorem there_alloc {w : World} {t n : Nat} {o : Obj} (h : w.there t 0 n) (hl : t < w.heap.size) : (w.alloc o).there t 0 n := fun j hj => by
  rw [World.cell?_alloc_lt _ _ _ hl, World.frozen?_alloc_old _ _ _ (Nat.ne_of_lt hl)]
  exact h j hj

theorem rangeAt_new {w : World} {b : Nat} {cs : Array Value} {t : TypeId} (hb : b = w.heap.size) : (w.alloc (.cells cs t)).rangeAt b 0 cs.toList := fun j v hv => by
  subst hb
  rw [World.cell?_alloc_at _ _ _ _ rfl]
  simpa using hv

theorem as_none (t : Value) (w : World) : Calls Tryd.prog 38 #[.nilIface, t] w fun e w' => e = .returned (.bool false) ∧ w' = w := by
  go_enter Tryd.func38, Tryd.ntmps38
  go_wp2
  go_ret
  exact ⟨rfl, rfl⟩

/-! ### Closed facts at this program's types -/
theorem ea_mKind (x : Value) (w : World) : (Go.method 282 128 (.agg #[x]) "Kind").run Tryd.prog w = .ok (103, x) w := by kernel_rfl

theorem ea_mElem (x : Value) (w : World) : (Go.method 282 128 (.agg #[x]) "Elem").run Tryd.prog w = .ok (122, .agg #[x]) w := by kernel_rfl

theorem ea_mImplements (x : Value) (w : World) : (Go.method 282 128 (.agg #[x]) "Implements").run Tryd.prog w = .ok (123, .agg #[x]) w := by kernel_rfl

theorem ea_mAssignableTo (x : Value) (w : World) : (Go.method 282 128 (.agg #[x]) "AssignableTo").run Tryd.prog w = .ok (120, .agg #[x]) w := by kernel_rfl

theorem ea_mUnwrap (x : Value) (w : World) : (Go.method 282 73 x "Unwrap").run Tryd.prog w = .ok (110, x) w := by kernel_rfl

theorem ea_valuePPV (t : Addr) (w : World) : (ReflectliteValue.unpack (.iface 71 (.pointer (some t)))).run Tryd.prog w = .ok (.agg #[.pointer (some ⟨1, 71, none⟩), .pointer (some ⟨w.heap.size, 0, none⟩), .int .u64 150]) (w.alloc (.cells #[.pointer (some t)] 71)) := by kernel_rfl

theorem ea_valueV (c : Int) (w : World) : (ReflectliteValue.unpack (.iface 69 (.agg #[.int .i64 c]))).run Tryd.prog w = .ok (.agg #[.pointer (some ⟨1, 69, none⟩), .pointer (some ⟨w.heap.size, 0, none⟩), .int .u64 153]) (w.alloc (.cells #[.int .i64 c] 69)) := by kernel_rfl

theorem ea_typePPV (a : Addr) (w : World) : (ReflectliteValue.methodAny (ReflectliteValue.valueError "reflectlite.Value.Type" 0) (fun t _ _ _ => ReflectliteType.toType t) #[.agg #[.pointer (some ⟨1, 71, none⟩), .pointer (some a), .int .u64 150]]).run Tryd.prog w = .ok (.iface 128 (.agg #[.pointer (some ⟨1, 71, none⟩)])) w := by kernel_rfl

theorem ea_kindPPV (w : World) : ((ReflectliteType.abiMethod fun t => (fun a : Nat => Value.int IntKind.u8 (a : Int)) <$> Rtype.kind t) #[.pointer (some ⟨1, 71, none⟩)]).run Tryd.prog w = .ok (.int .u8 22) w := by kernel_rfl

theorem ea_kindPV (w : World) : ((ReflectliteType.abiMethod fun t => (fun a : Nat => Value.int IntKind.u8 (a : Int)) <$> Rtype.kind t) #[.pointer (some ⟨1, 69, none⟩)]).run Tryd.prog w = .ok (.int .u8 25) w := by kernel_rfl

theorem ea_elemV (w : World) : (ReflectliteType.method ReflectliteType.elem #[.agg #[.pointer (some ⟨1, 71, none⟩)]]).run Tryd.prog w = .ok (.iface 128 (.agg #[.pointer (some ⟨1, 69, none⟩)])) w := by kernel_rfl

theorem ea_implV (w : World) : (ReflectliteType.relation "Implements" ReflectliteType.implements_ #[.agg #[.pointer (some ⟨1, 69, none⟩)], (.iface 128 (.agg #[.pointer (some ⟨1, 65, none⟩)]))]).run Tryd.prog w = .ok (.bool true) w := by kernel_rfl

theorem ea_assignVV (w : World) : (ReflectliteType.relation "AssignableTo" ReflectliteType.assignableTo #[.agg #[.pointer (some ⟨1, 69, none⟩)], (.iface 128 (.agg #[.pointer (some ⟨1, 69, none⟩)]))]).run Tryd.prog w = .ok (.bool true) w := by kernel_rfl

theorem ea_assignVK (w : World) : (ReflectliteType.relation "AssignableTo" ReflectliteType.assignableTo #[.agg #[.pointer (some ⟨1, 69, none⟩)], (.iface 128 (.agg #[.pointer (some ⟨1, 73, none⟩)]))]).run Tryd.prog w = .ok (.bool false) w := by kernel_rfl

theorem ea_typeOfV (v : Value) (w : World) : (ReflectliteType.typeOf #[.iface 69 v]).run Tryd.prog w = .ok (.iface 128 (.agg #[.pointer (some ⟨1, 69, none⟩)])) w := by kernel_rfl

theorem ea_partsPPV (a : Addr) (w : World) : (ReflectliteValue.parts (.agg #[.pointer (some ⟨1, 71, none⟩), .pointer (some a), .int .u64 150])).run Tryd.prog w = .ok (some (71, a, 150)) w := by kernel_rfl

theorem ea_elemOfV (w : World) : (Rtype.elem? 71).run Tryd.prog w = .ok (some 69) w := by kernel_rfl

theorem ea_mkV (p : Addr) (w : World) : (ReflectliteValue.mk 69 p ReflectliteValue.flagAddr).run Tryd.prog w = .ok (.agg #[.pointer (some ⟨1, 69, none⟩), .pointer (some p), .int .u64 409]) w := by kernel_rfl

theorem ea_valuePPK (t : Addr) (w : World) : (ReflectliteValue.unpack (.iface 74 (.pointer (some t)))).run Tryd.prog w = .ok (.agg #[.pointer (some ⟨1, 74, none⟩), .pointer (some ⟨w.heap.size, 0, none⟩), .int .u64 150]) (w.alloc (.cells #[.pointer (some t)] 74)) := by kernel_rfl

theorem ea_valueK (k c : Int) (w : World) : (ReflectliteValue.unpack (.iface 73 (.agg #[.int .i64 k, .iface 69 (.agg #[.int .i64 c])]))).run Tryd.prog w = .ok (.agg #[.pointer (some ⟨1, 73, none⟩), .pointer (some ⟨w.heap.size, 0, none⟩), .int .u64 153]) (w.alloc (.cells #[.int .i64 k, .iface 69 (.agg #[.int .i64 c])] 73)) := by kernel_rfl

theorem ea_typePPK (a : Addr) (w : World) : (ReflectliteValue.methodAny (ReflectliteValue.valueError "reflectlite.Value.Type" 0) (fun t _ _ _ => ReflectliteType.toType t) #[.agg #[.pointer (some ⟨1, 74, none⟩), .pointer (some a), .int .u64 150]]).run Tryd.prog w = .ok (.iface 128 (.agg #[.pointer (some ⟨1, 74, none⟩)])) w := by kernel_rfl

theorem ea_kindPPK (w : World) : ((ReflectliteType.abiMethod fun t => (fun a : Nat => Value.int IntKind.u8 (a : Int)) <$> Rtype.kind t) #[.pointer (some ⟨1, 74, none⟩)]).run Tryd.prog w = .ok (.int .u8 22) w := by kernel_rfl

theorem ea_kindPK (w : World) : ((ReflectliteType.abiMethod fun t => (fun a : Nat => Value.int IntKind.u8 (a : Int)) <$> Rtype.kind t) #[.pointer (some ⟨1, 73, none⟩)]).run Tryd.prog w = .ok (.int .u8 25) w := by kernel_rfl

theorem ea_elemK (w : World) : (ReflectliteType.method ReflectliteType.elem #[.agg #[.pointer (some ⟨1, 74, none⟩)]]).run Tryd.prog w = .ok (.iface 128 (.agg #[.pointer (some ⟨1, 73, none⟩)])) w := by kernel_rfl

theorem ea_implK (w : World) : (ReflectliteType.relation "Implements" ReflectliteType.implements_ #[.agg #[.pointer (some ⟨1, 73, none⟩)], (.iface 128 (.agg #[.pointer (some ⟨1, 65, none⟩)]))]).run Tryd.prog w = .ok (.bool true) w := by kernel_rfl

theorem ea_assignKV (w : World) : (ReflectliteType.relation "AssignableTo" ReflectliteType.assignableTo #[.agg #[.pointer (some ⟨1, 73, none⟩)], (.iface 128 (.agg #[.pointer (some ⟨1, 69, none⟩)]))]).run Tryd.prog w = .ok (.bool false) w := by kernel_rfl

theorem ea_assignKK (w : World) : (ReflectliteType.relation "AssignableTo" ReflectliteType.assignableTo #[.agg #[.pointer (some ⟨1, 73, none⟩)], (.iface 128 (.agg #[.pointer (some ⟨1, 73, none⟩)]))]).run Tryd.prog w = .ok (.bool true) w := by kernel_rfl

theorem ea_typeOfK (v : Value) (w : World) : (ReflectliteType.typeOf #[.iface 73 v]).run Tryd.prog w = .ok (.iface 128 (.agg #[.pointer (some ⟨1, 73, none⟩)])) w := by kernel_rfl

theorem ea_partsPPK (a : Addr) (w : World) : (ReflectliteValue.parts (.agg #[.pointer (some ⟨1, 74, none⟩), .pointer (some a), .int .u64 150])).run Tryd.prog w = .ok (some (74, a, 150)) w := by kernel_rfl

theorem ea_elemOfK (w : World) : (Rtype.elem? 74).run Tryd.prog w = .ok (some 73) w := by kernel_rfl

theorem ea_mkK (p : Addr) (w : World) : (ReflectliteValue.mk 73 p ReflectliteValue.flagAddr).run Tryd.prog w = .ok (.agg #[.pointer (some ⟨1, 73, none⟩), .pointer (some p), .int .u64 409]) w := by kernel_rfl

theorem ea_noAsV (v : Value) (xT : TypeId) (w : World) : (Instr.typeAssert (.iface 69 v) xT 133 true).run Tryd.prog w = .ok (.tuple #[.nilIface, .bool false]) w := run_typeAssert_lacksB Tryd.underlying133 (by kernel_rfl) (by kernel_rfl) v xT w

theorem ea_noAsK (v : Value) (xT : TypeId) (w : World) : (Instr.typeAssert (.iface 73 v) xT 133 true).run Tryd.prog w = .ok (.tuple #[.nilIface, .bool false]) w := run_typeAssert_lacksB Tryd.underlying133 (by kernel_rfl) (by kernel_rfl) v xT w

theorem ea_noUnV (v : Value) (xT : TypeId) (w : World) : (Instr.typeAssert (.iface 69 v) xT 136 true).run Tryd.prog w = .ok (.tuple #[.nilIface, .bool false]) w := run_typeAssert_lacksB Tryd.underlying136 (by kernel_rfl) (by kernel_rfl) v xT w

theorem ea_unK (v : Value) (xT : TypeId) (w : World) : (Instr.typeAssert (.iface 73 v) xT 136 true).run Tryd.prog w = .ok (.tuple #[.iface 73 v, .bool true]) w := run_typeAssert_hasB Tryd.underlying136 (by kernel_rfl) v xT w

theorem ea_noUsV (v : Value) (xT : TypeId) (w : World) : (Instr.typeAssert (.iface 69 v) xT 138 true).run Tryd.prog w = .ok (.tuple #[.nilIface, .bool false]) w := run_typeAssert_lacksB Tryd.underlying138 (by kernel_rfl) (by kernel_rfl) v xT w

/-! ### The entries that read or write memory -/
theorem ea_onValue (z : Sem Value) (f : TypeId → Addr → Nat → Nat → Sem Value) (v : Value) : ReflectliteValue.method z f #[v] = (ReflectliteValue.parts v >>= fun o => match o with | none => z | some (t, a, fl) => f t a fl (fl % 32)) := rfl

theorem ea_setOwnV (d b : Addr) (W : World) : (ReflectliteValue.set #[.agg #[.pointer (some ⟨1, 69, none⟩), .pointer (some d), .int .u64 409], .agg #[.pointer (some ⟨1, 69, none⟩), .pointer (some b), .int .u64 153]]).run Tryd.prog W = ((loadVar 69 b >>= fun x => storeVar 69 d x >>= fun _ => pure (.tuple #[])) : Sem Value).run Tryd.prog W := by kernel_rfl

theorem ea_isNilV (a p : Addr) (W : World) (ha : W.cell? a = some (.pointer (some p))) : (ReflectliteValue.method (ReflectliteValue.valueError "reflectlite.Value.IsNil" 0) ReflectliteValue.isNil #[.agg #[.pointer (some ⟨1, 71, none⟩), .pointer (some a), .int .u64 150]]).run Tryd.prog W = .ok (.bool false) W := by
  rw [ea_onValue, Sem.run_bind, ea_partsPPV]
  simp [Result.andThen, ReflectliteValue.isNil, loadVar, isAgg, underlying, Tryd.underlying71, ha]

theorem ea_elemVV (a p : Addr) (W : World) (ha : W.cell? a = some (.pointer (some p))) : (ReflectliteValue.method (ReflectliteValue.valueError "reflectlite.Value.Elem" 0) ReflectliteValue.elem #[.agg #[.pointer (some ⟨1, 71, none⟩), .pointer (some a), .int .u64 150]]).run Tryd.prog W = .ok (.agg #[.pointer (some ⟨1, 69, none⟩), .pointer (some p), .int .u64 409]) W := by
  rw [ea_onValue, Sem.run_bind, ea_partsPPV]
  simp [Sem.run_bind, Result.andThen, ReflectliteValue.elem, loadVar, isAgg, underlying, Tryd.underlying71, ha, ea_elemOfV, ea_mkV]

theorem ea_setV (c : Int) (d b : Nat) (W : World) (hb : W.rangeAt b 0 (#[.int .i64 c] : Array Value).toList) (hd : W.there d 0 1) : (ReflectliteValue.set #[.agg #[.pointer (some ⟨1, 69, none⟩), .pointer (some ⟨d, 0, none⟩), .int .u64 409], .agg #[.pointer (some ⟨1, 69, none⟩), .pointer (some ⟨b, 0, none⟩), .int .u64 153]]).run Tryd.prog W = .ok (.tuple #[]) (W.setCells d 0 (#[.int .i64 c] : Array Value).toList) := by
  have hl := run_loadVar_mid (P := Tryd.prog) W b 0 69 _ _ hb Tryd.underlying69 rfl (by kernel_rfl)
  have hs := run_storeVar_mid (P := Tryd.prog) W d 0 69 #[.int .i64 c] hd (by kernel_rfl) (by simp [Value.oneCell'])
  rw [ea_setOwnV, Sem.run_bind, hl]
  simp only [Result.andThen, Sem.run_bind]
  rw [Array.toArray_toList, hs]
  simp

theorem ea_setOwnK (d b : Addr) (W : World) : (ReflectliteValue.set #[.agg #[.pointer (some ⟨1, 73, none⟩), .pointer (some d), .int .u64 409], .agg #[.pointer (some ⟨1, 73, none⟩), .pointer (some b), .int .u64 153]]).run Tryd.prog W = ((loadVar 73 b >>= fun x => storeVar 73 d x >>= fun _ => pure (.tuple #[])) : Sem Value).run Tryd.prog W := by kernel_rfl

theorem ea_isNilK (a p : Addr) (W : World) (ha : W.cell? a = some (.pointer (some p))) : (ReflectliteValue.method (ReflectliteValue.valueError "reflectlite.Value.IsNil" 0) ReflectliteValue.isNil #[.agg #[.pointer (some ⟨1, 74, none⟩), .pointer (some a), .int .u64 150]]).run Tryd.prog W = .ok (.bool false) W := by
  rw [ea_onValue, Sem.run_bind, ea_partsPPK]
  simp [Result.andThen, ReflectliteValue.isNil, loadVar, isAgg, underlying, Tryd.underlying74, ha]

theorem ea_elemVK (a p : Addr) (W : World) (ha : W.cell? a = some (.pointer (some p))) : (ReflectliteValue.method (ReflectliteValue.valueError "reflectlite.Value.Elem" 0) ReflectliteValue.elem #[.agg #[.pointer (some ⟨1, 74, none⟩), .pointer (some a), .int .u64 150]]).run Tryd.prog W = .ok (.agg #[.pointer (some ⟨1, 73, none⟩), .pointer (some p), .int .u64 409]) W := by
  rw [ea_onValue, Sem.run_bind, ea_partsPPK]
  simp [Sem.run_bind, Result.andThen, ReflectliteValue.elem, loadVar, isAgg, underlying, Tryd.underlying74, ha, ea_elemOfK, ea_mkK]

theorem ea_setK (k c : Int) (d b : Nat) (W : World) (hb : W.rangeAt b 0 (#[.int .i64 k, .iface 69 (.agg #[.int .i64 c])] : Array Value).toList) (hd : W.there d 0 2) : (ReflectliteValue.set #[.agg #[.pointer (some ⟨1, 73, none⟩), .pointer (some ⟨d, 0, none⟩), .int .u64 409], .agg #[.pointer (some ⟨1, 73, none⟩), .pointer (some ⟨b, 0, none⟩), .int .u64 153]]).run Tryd.prog W = .ok (.tuple #[]) (W.setCells d 0 (#[.int .i64 k, .iface 69 (.agg #[.int .i64 c])] : Array Value).toList) := by
  have hl := run_loadVar_mid (P := Tryd.prog) W b 0 73 _ _ hb Tryd.underlying73 rfl (by kernel_rfl)
  have hs := run_storeVar_mid (P := Tryd.prog) W d 0 73 #[.int .i64 k, .iface 69 (.agg #[.int .i64 c])] hd (by kernel_rfl) (by simp [Value.oneCell'])
  rw [ea_setOwnK, Sem.run_bind, hl]
  simp only [Result.andThen, Sem.run_bind]
  rw [Array.toArray_toList, hs]
  simp

end Go.Proofs.YtdhdodmpfbgliaaDoor
