/- More closed facts on the model's entries for internal/reflectlite, and type assertions of the project's own errors. -/
import Derived.Test.YtkogbighpidfhaaDoorE1
namespace Go.Proofs.YtkogbighpidfhaaDoor
open Go.RowKit Go.Extern.Stop Go.Stop Go.Extern

theorem e_partsEa (a : Addr) (w : World) : (ReflectliteValue.parts (.agg #[.pointer (some ⟨7, 41, none⟩), .pointer (some a), .int .u64 386])).run Tryd.prog w = .ok (some (41, a, 386)) w := by kernel_rfl
theorem e_partsE (a : Addr) (w : World) : (ReflectliteValue.parts (.agg #[.pointer (some ⟨7, 41, none⟩), .pointer (some a), .int .u64 130])).run Tryd.prog w = .ok (some (41, a, 130)) w := by kernel_rfl
theorem e_directE (w : World) : (Rtype.directlyAssignable 41 41).run Tryd.prog w = .ok true w := by kernel_rfl
theorem e_setE (ta b : Addr) (c : Int) (old : Value) (W : World) (hb : W.cell? b = some (.int .i64 c)) (ht : W.cell? ta = some old) (hf : W.frozen? ta = false) :
    (ReflectliteValue.set #[.agg #[.pointer (some ⟨7, 41, none⟩), .pointer (some ta), .int .u64 386], .agg #[.pointer (some ⟨7, 41, none⟩), .pointer (some b), .int .u64 130]]).run Tryd.prog W
      = .ok (.tuple #[]) (W.setCell ta (.int .i64 c)) := by
  change Sem.run Tryd.prog (bind (ReflectliteValue.parts (.agg #[.pointer (some ⟨7, 41, none⟩), .pointer (some ta), .int .u64 386])) fun _ => bind (ReflectliteValue.parts (.agg #[.pointer (some ⟨7, 41, none⟩), .pointer (some b), .int .u64 130])) _) W = _
  simp only [Sem.run_bind, e_partsEa, e_partsE, Result.andThen]
  simp [ReflectliteValue.flagAddr, loadVar, isAgg, underlying, Tryd.underlying41, hb, Result.andThen, e_directE, storeVar, Value.cells, storeCells, Addr.add]
  rw [run_store Tryd.prog W ta _ _ (by rfl)]
  simp [ht, hf]

theorem e_noAsW (v : Value) (xT : TypeId) (w : World) : (Instr.typeAssert (.iface 58 v) xT 103 true).run Tryd.prog w = .ok (.tuple #[.nilIface, .bool false]) w :=
  run_typeAssert_lacksB Tryd.underlying103 (by kernel_rfl) (by kernel_rfl) v xT w
theorem e_noAsE (v : Value) (xT : TypeId) (w : World) : (Instr.typeAssert (.iface 41 v) xT 103 true).run Tryd.prog w = .ok (.tuple #[.nilIface, .bool false]) w :=
  run_typeAssert_lacksB Tryd.underlying103 (by kernel_rfl) (by kernel_rfl) v xT w
theorem e_unW (v : Value) (xT : TypeId) (w : World) : (Instr.typeAssert (.iface 58 v) xT 94 true).run Tryd.prog w = .ok (.tuple #[.iface 58 v, .bool true]) w :=
  run_typeAssert_hasB Tryd.underlying94 (by kernel_rfl) v xT w
theorem e_noUnE (v : Value) (xT : TypeId) (w : World) : (Instr.typeAssert (.iface 41 v) xT 94 true).run Tryd.prog w = .ok (.tuple #[.nilIface, .bool false]) w :=
  run_typeAssert_lacksB Tryd.underlying94 (by kernel_rfl) (by kernel_rfl) v xT w
theorem e_noUnsE (v : Value) (xT : TypeId) (w : World) : (Instr.typeAssert (.iface 41 v) xT 96 true).run Tryd.prog w = .ok (.tuple #[.nilIface, .bool false]) w :=
  run_typeAssert_lacksB Tryd.underlying96 (by kernel_rfl) (by kernel_rfl) v xT w

theorem chain_iface (r : List (ByteArray × Int)) (c : Int) : ∃ T v, chain r c = .iface T v := by
  rcases r with _ | ⟨⟨p, a⟩, r⟩
  · exact ⟨_, _, rfl⟩
  · exact ⟨_, _, rfl⟩

set_option maxHeartbeats 400000 in
/-- (wrapped).Unwrap: what is in the place. -/
theorem unwrap_any (x y z : Value) (w : World) :
    Calls Tryd.prog 97 #[.agg #[x, y, z]] w fun e w' => e = .returned z ∧ Below w.heap.size w w' := by
  go_enter Tryd.func97, Tryd.ntmps97
  go_wp2
  go_ret
  exact ⟨rfl, (Below.refl _ _).alloc (Nat.le_refl _) _⟩
theorem e_partsWa (a : Addr) (w : World) : (ReflectliteValue.parts (.agg #[.pointer (some ⟨7, 58, none⟩), .pointer (some a), .int .u64 409])).run Tryd.prog w = .ok (some (58, a, 409)) w := by kernel_rfl
theorem e_partsW (a : Addr) (w : World) : (ReflectliteValue.parts (.agg #[.pointer (some ⟨7, 58, none⟩), .pointer (some a), .int .u64 153])).run Tryd.prog w = .ok (some (58, a, 153)) w := by kernel_rfl
theorem e_directW (w : World) : (Rtype.directlyAssignable 58 58).run Tryd.prog w = .ok true w := by kernel_rfl
theorem e_isAggW (w : World) : (isAgg 58).run Tryd.prog w = .ok true w := by kernel_rfl
theorem e_sizeW (w : World) : (sizeOf 58).run Tryd.prog w = .ok 3 w := by kernel_rfl
end Go.Proofs.YtkogbighpidfhaaDoor
