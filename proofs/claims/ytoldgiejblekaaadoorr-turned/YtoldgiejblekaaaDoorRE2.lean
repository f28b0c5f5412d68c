/- More closed facts on the model's entries for internal/reflectlite, and type assertions of the project's own errors. -/
import Derived.Test.YtoldgiejblekaaaDoorRE1
namespace Go.Proofs.YtoldgiejblekaaaDoorR
open Go.RowKit Go.Extern.Stop Go.Stop Go.Extern

theorem e_partsEa (a : Addr) (w : World) : (ReflectliteValue.parts (.agg #[.pointer (some ⟨1, 37, none⟩), .pointer (some a), .int .u64 386])).run Tryd.prog w = .ok (some (37, a, 386)) w := by kernel_rfl
theorem e_partsE (a : Addr) (w : World) : (ReflectliteValue.parts (.agg #[.pointer (some ⟨1, 37, none⟩), .pointer (some a), .int .u64 130])).run Tryd.prog w = .ok (some (37, a, 130)) w := by kernel_rfl
theorem e_directE (w : World) : (Rtype.directlyAssignable 37 37).run Tryd.prog w = .ok true w := by kernel_rfl
theorem e_setE (ta b : Addr) (c : Int) (old : Value) (W : World) (hb : W.cell? b = some (.int .i64 c)) (ht : W.cell? ta = some old) (hf : W.frozen? ta = false) :
    (ReflectliteValue.set #[.agg #[.pointer (some ⟨1, 37, none⟩), .pointer (some ta), .int .u64 386], .agg #[.pointer (some ⟨1, 37, none⟩), .pointer (some b), .int .u64 130]]).run Tryd.prog W
      = .ok (.tuple #[]) (W.setCell ta (.int .i64 c)) := by
  change Sem.run Tryd.prog (bind (ReflectliteValue.parts (.agg #[.pointer (some ⟨1, 37, none⟩), .pointer (some ta), .int .u64 386])) fun _ => bind (ReflectliteValue.parts (.agg #[.pointer (some ⟨1, 37, none⟩), .pointer (some b), .int .u64 130])) _) W = _
  simp only [Sem.run_bind, e_partsEa, e_partsE, Result.andThen]
  simp [ReflectliteValue.flagAddr, loadVar, isAgg, underlying, Tryd.underlying37, hb, Result.andThen, e_directE, storeVar, Value.cells, storeCells, Addr.add]
  rw [run_store Tryd.prog W ta _ _ (by rfl)]
  simp [ht, hf]

theorem e_noAsW (v : Value) (xT : TypeId) (w : World) : (Instr.typeAssert (.iface 64 v) xT 86 true).run Tryd.prog w = .ok (.tuple #[.nilIface, .bool false]) w :=
  run_typeAssert_lacksB Tryd.underlying86 (by kernel_rfl) (by kernel_rfl) v xT w
theorem e_noAsE (v : Value) (xT : TypeId) (w : World) : (Instr.typeAssert (.iface 37 v) xT 86 true).run Tryd.prog w = .ok (.tuple #[.nilIface, .bool false]) w :=
  run_typeAssert_lacksB Tryd.underlying86 (by kernel_rfl) (by kernel_rfl) v xT w
theorem e_unW (v : Value) (xT : TypeId) (w : World) : (Instr.typeAssert (.iface 64 v) xT 89 true).run Tryd.prog w = .ok (.tuple #[.iface 64 v, .bool true]) w :=
  run_typeAssert_hasB Tryd.underlying89 (by kernel_rfl) v xT w
theorem e_noUnE (v : Value) (xT : TypeId) (w : World) : (Instr.typeAssert (.iface 37 v) xT 89 true).run Tryd.prog w = .ok (.tuple #[.nilIface, .bool false]) w :=
  run_typeAssert_lacksB Tryd.underlying89 (by kernel_rfl) (by kernel_rfl) v xT w
theorem e_noUnsE (v : Value) (xT : TypeId) (w : World) : (Instr.typeAssert (.iface 37 v) xT 91 true).run Tryd.prog w = .ok (.tuple #[.nilIface, .bool false]) w :=
  run_typeAssert_lacksB Tryd.underlying91 (by kernel_rfl) (by kernel_rfl) v xT w

theorem chain_iface (r : List (ByteArray × Int)) (c : Int) : ∃ T v, chain r c = .iface T v := by
  rcases r with _ | ⟨⟨p, a⟩, r⟩
  · exact ⟨_, _, rfl⟩
  · exact ⟨_, _, rfl⟩

set_option maxHeartbeats 400000 in
/-- (wrapped).Unwrap: what is in the place. -/
theorem unwrap_any (x y z : Value) (w : World) :
    Calls Tryd.prog 54 #[.agg #[x, y, z]] w fun e w' => e = .returned z ∧ Below w.heap.size w w' := by
  go_enter Tryd.func54, Tryd.ntmps54
  go_wp2
  go_ret
  exact ⟨rfl, (Below.refl _ _).alloc (Nat.le_refl _) _⟩
theorem e_partsWa (a : Addr) (w : World) : (ReflectliteValue.parts (.agg #[.pointer (some ⟨1, 64, none⟩), .pointer (some a), .int .u64 409])).run Tryd.prog w = .ok (some (64, a, 409)) w := by kernel_rfl
theorem e_partsW (a : Addr) (w : World) : (ReflectliteValue.parts (.agg #[.pointer (some ⟨1, 64, none⟩), .pointer (some a), .int .u64 153])).run Tryd.prog w = .ok (some (64, a, 153)) w := by kernel_rfl
theorem e_directW (w : World) : (Rtype.directlyAssignable 64 64).run Tryd.prog w = .ok true w := by kernel_rfl
theorem e_isAggW (w : World) : (isAgg 64).run Tryd.prog w = .ok true w := by kernel_rfl
theorem e_sizeW (w : World) : (sizeOf 64).run Tryd.prog w = .ok 3 w := by kernel_rfl
end Go.Proofs.YtoldgiejblekaaaDoorR
