/- Contracts of package fault and of errors.As, errors.Is. No condition beyond those that each theorem states. -/
import Derived.Test.YtamejhhjfnfalaaDoorRows
import Derived.WalkKit
import Derived.WalkSpells
import Derived.LaidEql
import Derived.Stop.Asserts
import Derived.RowKitTokens
import Derived.Below
import Derived.Lib.Hide
import Derived.Deep.LoopGhost
/- errors.As and errors.as at chains of the project's own errors (a number, wrapped in places), at the two targets that package fault has; the contracts of fault's Code, outermost. -/
namespace Go.Proofs.YtamejhhjfnfalaaDoor
open Go.RowKit Go.Extern.Stop Go.Stop Go.Extern

/-- A number, wrapped in places, the outermost first. -/
def chain : List (ByteArray × Int) → Int → Value
  | [], c => .iface 43 (.int .i64 c)
  | (p, a) :: r, c => .iface 136 (.agg #[.string p, .int .i64 a, chain r c])

/-! ### Closed facts on the model's entries for internal/reflectlite, at this program's numbers. -/
theorem e_valueOfP (t : Addr) (w : World) : (ReflectliteValue.unpack (.iface 98 (.pointer (some t)))).run Tryd.prog w
    = .ok (.agg #[.pointer (some ⟨1, 98, none⟩), .pointer (some ⟨w.heap.size, 0, none⟩), .int .u64 150]) (w.alloc (.cells #[.pointer (some t)] 98)) := by kernel_rfl
theorem e_valueOfW (t : Addr) (w : World) : (ReflectliteValue.unpack (.iface 203 (.pointer (some t)))).run Tryd.prog w
    = .ok (.agg #[.pointer (some ⟨1, 203, none⟩), .pointer (some ⟨w.heap.size, 0, none⟩), .int .u64 150]) (w.alloc (.cells #[.pointer (some t)] 203)) := by kernel_rfl
theorem e_typeP (a : Addr) (w : World) : (ReflectliteValue.methodAny (ReflectliteValue.valueError "reflectlite.Value.Type" 0) (fun t _ _ _ => ReflectliteType.toType t) #[.agg #[.pointer (some ⟨1, 98, none⟩), .pointer (some a), .int .u64 150]]).run Tryd.prog w
    = .ok (.iface 183 (.agg #[.pointer (some ⟨1, 98, none⟩)])) w := by kernel_rfl
theorem e_typeW (a : Addr) (w : World) : (ReflectliteValue.methodAny (ReflectliteValue.valueError "reflectlite.Value.Type" 0) (fun t _ _ _ => ReflectliteType.toType t) #[.agg #[.pointer (some ⟨1, 203, none⟩), .pointer (some a), .int .u64 150]]).run Tryd.prog w
    = .ok (.iface 183 (.agg #[.pointer (some ⟨1, 203, none⟩)])) w := by kernel_rfl
theorem e_methodKind (h : Value) (w : World) : (Go.method 337 183 (.agg #[h]) "Kind").run Tryd.prog w = .ok (122, h) w := by kernel_rfl
theorem e_kindP (w : World) : ((ReflectliteType.abiMethod fun t => (fun a : Nat => Value.int IntKind.u8 (a : Int)) <$> Rtype.kind t) #[.pointer (some ⟨1, 98, none⟩)]).run Tryd.prog w = .ok (.int .u8 22) w := by kernel_rfl
theorem e_kindPW (w : World) : ((ReflectliteType.abiMethod fun t => (fun a : Nat => Value.int IntKind.u8 (a : Int)) <$> Rtype.kind t) #[.pointer (some ⟨1, 203, none⟩)]).run Tryd.prog w = .ok (.int .u8 22) w := by kernel_rfl
theorem e_kindE (w : World) : ((ReflectliteType.abiMethod fun t => (fun a : Nat => Value.int IntKind.u8 (a : Int)) <$> Rtype.kind t) #[.pointer (some ⟨1, 43, none⟩)]).run Tryd.prog w = .ok (.int .u8 2) w := by kernel_rfl
theorem e_kindW (w : World) : ((ReflectliteType.abiMethod fun t => (fun a : Nat => Value.int IntKind.u8 (a : Int)) <$> Rtype.kind t) #[.pointer (some ⟨1, 136, none⟩)]).run Tryd.prog w = .ok (.int .u8 25) w := by kernel_rfl
theorem e_partsP (a : Addr) (w : World) : (ReflectliteValue.parts (.agg #[.pointer (some ⟨1, 98, none⟩), .pointer (some a), .int .u64 150])).run Tryd.prog w = .ok (some (98, a, 150)) w := by kernel_rfl
theorem e_partsPW (a : Addr) (w : World) : (ReflectliteValue.parts (.agg #[.pointer (some ⟨1, 203, none⟩), .pointer (some a), .int .u64 150])).run Tryd.prog w = .ok (some (203, a, 150)) w := by kernel_rfl
theorem e_isNilP (a p : Addr) (W : World) (ha : W.cell? a = some (.pointer (some p))) :
    (ReflectliteValue.method (ReflectliteValue.valueError "reflectlite.Value.IsNil" 0) ReflectliteValue.isNil #[.agg #[.pointer (some ⟨1, 98, none⟩), .pointer (some a), .int .u64 150]]).run Tryd.prog W = .ok (.bool false) W := by
  change Sem.run Tryd.prog (bind (ReflectliteValue.parts (.agg #[.pointer (some ⟨1, 98, none⟩), .pointer (some a), .int .u64 150])) _) W = _
  simp only [Sem.run_bind, e_partsP, Result.andThen]
  simp [ReflectliteValue.isNil, loadVar, isAgg, underlying, Tryd.underlying98, ha, Result.andThen]
theorem e_isNilW (a p : Addr) (W : World) (ha : W.cell? a = some (.pointer (some p))) :
    (ReflectliteValue.method (ReflectliteValue.valueError "reflectlite.Value.IsNil" 0) ReflectliteValue.isNil #[.agg #[.pointer (some ⟨1, 203, none⟩), .pointer (some a), .int .u64 150]]).run Tryd.prog W = .ok (.bool false) W := by
  change Sem.run Tryd.prog (bind (ReflectliteValue.parts (.agg #[.pointer (some ⟨1, 203, none⟩), .pointer (some a), .int .u64 150])) _) W = _
  simp only [Sem.run_bind, e_partsPW, Result.andThen]
  simp [ReflectliteValue.isNil, loadVar, isAgg, underlying, Tryd.underlying203, ha, Result.andThen]
theorem e_methodElem (h : Value) (w : World) : (Go.method 337 183 (.agg #[h]) "Elem").run Tryd.prog w = .ok (136, .agg #[h]) w := by kernel_rfl
theorem e_methodImplements (h : Value) (w : World) : (Go.method 337 183 (.agg #[h]) "Implements").run Tryd.prog w = .ok (137, .agg #[h]) w := by kernel_rfl
theorem e_methodAssignableTo (h : Value) (w : World) : (Go.method 337 183 (.agg #[h]) "AssignableTo").run Tryd.prog w = .ok (134, .agg #[h]) w := by kernel_rfl
theorem e_methodUnwrap (v : Value) (w : World) : (Go.method 337 136 v "Unwrap").run Tryd.prog w = .ok (128, v) w := by kernel_rfl
theorem e_elemP (w : World) : (ReflectliteType.method ReflectliteType.elem #[.agg #[.pointer (some ⟨1, 98, none⟩)]]).run Tryd.prog w = .ok (.iface 183 (.agg #[.pointer (some ⟨1, 43, none⟩)])) w := by kernel_rfl
theorem e_elemW (w : World) : (ReflectliteType.method ReflectliteType.elem #[.agg #[.pointer (some ⟨1, 203, none⟩)]]).run Tryd.prog w = .ok (.iface 183 (.agg #[.pointer (some ⟨1, 136, none⟩)])) w := by kernel_rfl
theorem e_implE (w : World) : (ReflectliteType.relation "Implements" ReflectliteType.implements_ #[.agg #[.pointer (some ⟨1, 43, none⟩)], .iface 183 (.agg #[.pointer (some ⟨1, 36, none⟩)])]).run Tryd.prog w = .ok (.bool true) w := by kernel_rfl
theorem e_implW (w : World) : (ReflectliteType.relation "Implements" ReflectliteType.implements_ #[.agg #[.pointer (some ⟨1, 136, none⟩)], .iface 183 (.agg #[.pointer (some ⟨1, 36, none⟩)])]).run Tryd.prog w = .ok (.bool true) w := by kernel_rfl
theorem e_typeOfE (v : Value) (w : World) : (ReflectliteType.typeOf #[.iface 43 v]).run Tryd.prog w = .ok (.iface 183 (.agg #[.pointer (some ⟨1, 43, none⟩)])) w := by kernel_rfl
theorem e_typeOfW (v : Value) (w : World) : (ReflectliteType.typeOf #[.iface 136 v]).run Tryd.prog w = .ok (.iface 183 (.agg #[.pointer (some ⟨1, 136, none⟩)])) w := by kernel_rfl
theorem e_assignEE (w : World) : (ReflectliteType.relation "AssignableTo" ReflectliteType.assignableTo #[.agg #[.pointer (some ⟨1, 43, none⟩)], .iface 183 (.agg #[.pointer (some ⟨1, 43, none⟩)])]).run Tryd.prog w = .ok (.bool true) w := by kernel_rfl
theorem e_assignWE (w : World) : (ReflectliteType.relation "AssignableTo" ReflectliteType.assignableTo #[.agg #[.pointer (some ⟨1, 136, none⟩)], .iface 183 (.agg #[.pointer (some ⟨1, 43, none⟩)])]).run Tryd.prog w = .ok (.bool false) w := by kernel_rfl
theorem e_assignEW (w : World) : (ReflectliteType.relation "AssignableTo" ReflectliteType.assignableTo #[.agg #[.pointer (some ⟨1, 43, none⟩)], .iface 183 (.agg #[.pointer (some ⟨1, 136, none⟩)])]).run Tryd.prog w = .ok (.bool false) w := by kernel_rfl
theorem e_assignWW (w : World) : (ReflectliteType.relation "AssignableTo" ReflectliteType.assignableTo #[.agg #[.pointer (some ⟨1, 136, none⟩)], .iface 183 (.agg #[.pointer (some ⟨1, 136, none⟩)])]).run Tryd.prog w = .ok (.bool true) w := by kernel_rfl
theorem e_valueOfE (c : Int) (w : World) : (ReflectliteValue.unpack (.iface 43 (.int .i64 c))).run Tryd.prog w
    = .ok (.agg #[.pointer (some ⟨1, 43, none⟩), .pointer (some ⟨w.heap.size, 0, none⟩), .int .u64 130]) (w.alloc (.cells #[.int .i64 c] 43)) := by kernel_rfl
theorem e_valueOfWr (x y z : Value) (w : World) : (ReflectliteValue.unpack (.iface 136 (.agg #[x, y, z]))).run Tryd.prog w
    = .ok (.agg #[.pointer (some ⟨1, 136, none⟩), .pointer (some ⟨w.heap.size, 0, none⟩), .int .u64 153]) (w.alloc (.cells #[x, y, z] 136)) := by kernel_rfl
theorem e_elemOfP (w : World) : (Rtype.elem? 98).run Tryd.prog w = .ok (some 43) w := by kernel_rfl
theorem e_elemOfW (w : World) : (Rtype.elem? 203).run Tryd.prog w = .ok (some 136) w := by kernel_rfl
theorem e_mkE (p : Addr) (w : World) : (ReflectliteValue.mk 43 p ReflectliteValue.flagAddr).run Tryd.prog w = .ok (.agg #[.pointer (some ⟨1, 43, none⟩), .pointer (some p), .int .u64 386]) w := by kernel_rfl
theorem e_mkW (p : Addr) (w : World) : (ReflectliteValue.mk 136 p ReflectliteValue.flagAddr).run Tryd.prog w = .ok (.agg #[.pointer (some ⟨1, 136, none⟩), .pointer (some p), .int .u64 409]) w := by kernel_rfl
theorem e_elemVP (a p : Addr) (W : World) (ha : W.cell? a = some (.pointer (some p))) :
    (ReflectliteValue.method (ReflectliteValue.valueError "reflectlite.Value.Elem" 0) ReflectliteValue.elem #[.agg #[.pointer (some ⟨1, 98, none⟩), .pointer (some a), .int .u64 150]]).run Tryd.prog W
      = .ok (.agg #[.pointer (some ⟨1, 43, none⟩), .pointer (some p), .int .u64 386]) W := by
  change Sem.run Tryd.prog (bind (ReflectliteValue.parts (.agg #[.pointer (some ⟨1, 98, none⟩), .pointer (some a), .int .u64 150])) _) W = _
  simp only [Sem.run_bind, e_partsP, Result.andThen]
  simp [ReflectliteValue.elem, loadVar, isAgg, underlying, Tryd.underlying98, ha, Result.andThen, e_elemOfP, e_mkE]
theorem e_elemVW (a p : Addr) (W : World) (ha : W.cell? a = some (.pointer (some p))) :
    (ReflectliteValue.method (ReflectliteValue.valueError "reflectlite.Value.Elem" 0) ReflectliteValue.elem #[.agg #[.pointer (some ⟨1, 203, none⟩), .pointer (some a), .int .u64 150]]).run Tryd.prog W
      = .ok (.agg #[.pointer (some ⟨1, 136, none⟩), .pointer (some p), .int .u64 409]) W := by
  change Sem.run Tryd.prog (bind (ReflectliteValue.parts (.agg #[.pointer (some ⟨1, 203, none⟩), .pointer (some a), .int .u64 150])) _) W = _
  simp only [Sem.run_bind, e_partsPW, Result.andThen]
  simp [ReflectliteValue.elem, loadVar, isAgg, underlying, Tryd.underlying203, ha, Result.andThen, e_elemOfW, e_mkW]
end Go.Proofs.YtamejhhjfnfalaaDoor

/- More closed facts on the model's entries for internal/reflectlite, and type assertions of the project's own errors. -/
namespace Go.Proofs.YtamejhhjfnfalaaDoor
open Go.RowKit Go.Extern.Stop Go.Stop Go.Extern

theorem e_partsEa (a : Addr) (w : World) : (ReflectliteValue.parts (.agg #[.pointer (some ⟨1, 43, none⟩), .pointer (some a), .int .u64 386])).run Tryd.prog w = .ok (some (43, a, 386)) w := by kernel_rfl
theorem e_partsE (a : Addr) (w : World) : (ReflectliteValue.parts (.agg #[.pointer (some ⟨1, 43, none⟩), .pointer (some a), .int .u64 130])).run Tryd.prog w = .ok (some (43, a, 130)) w := by kernel_rfl
theorem e_directE (w : World) : (Rtype.directlyAssignable 43 43).run Tryd.prog w = .ok true w := by kernel_rfl
theorem e_setE (ta b : Addr) (c : Int) (old : Value) (W : World) (hb : W.cell? b = some (.int .i64 c)) (ht : W.cell? ta = some old) (hf : W.frozen? ta = false) :
    (ReflectliteValue.set #[.agg #[.pointer (some ⟨1, 43, none⟩), .pointer (some ta), .int .u64 386], .agg #[.pointer (some ⟨1, 43, none⟩), .pointer (some b), .int .u64 130]]).run Tryd.prog W
      = .ok (.tuple #[]) (W.setCell ta (.int .i64 c)) := by
  change Sem.run Tryd.prog (bind (ReflectliteValue.parts (.agg #[.pointer (some ⟨1, 43, none⟩), .pointer (some ta), .int .u64 386])) fun _ => bind (ReflectliteValue.parts (.agg #[.pointer (some ⟨1, 43, none⟩), .pointer (some b), .int .u64 130])) _) W = _
  simp only [Sem.run_bind, e_partsEa, e_partsE, Result.andThen]
  simp [ReflectliteValue.flagAddr, loadVar, isAgg, underlying, Tryd.underlying43, hb, Result.andThen, e_directE, storeVar, Value.cells, storeCells, Addr.add]
  rw [run_store Tryd.prog W ta _ _ (by rfl)]
  simp [ht, hf]

theorem e_noAsW (v : Value) (xT : TypeId) (w : World) : (Instr.typeAssert (.iface 136 v) xT 187 true).run Tryd.prog w = .ok (.tuple #[.nilIface, .bool false]) w :=
  run_typeAssert_lacksB Tryd.underlying187 (by kernel_rfl) (by kernel_rfl) v xT w
theorem e_noAsE (v : Value) (xT : TypeId) (w : World) : (Instr.typeAssert (.iface 43 v) xT 187 true).run Tryd.prog w = .ok (.tuple #[.nilIface, .bool false]) w :=
  run_typeAssert_lacksB Tryd.underlying187 (by kernel_rfl) (by kernel_rfl) v xT w
theorem e_unW (v : Value) (xT : TypeId) (w : World) : (Instr.typeAssert (.iface 136 v) xT 190 true).run Tryd.prog w = .ok (.tuple #[.iface 136 v, .bool true]) w :=
  run_typeAssert_hasB Tryd.underlying190 (by kernel_rfl) v xT w
theorem e_noUnE (v : Value) (xT : TypeId) (w : World) : (Instr.typeAssert (.iface 43 v) xT 190 true).run Tryd.prog w = .ok (.tuple #[.nilIface, .bool false]) w :=
  run_typeAssert_lacksB Tryd.underlying190 (by kernel_rfl) (by kernel_rfl) v xT w
theorem e_noUnsE (v : Value) (xT : TypeId) (w : World) : (Instr.typeAssert (.iface 43 v) xT 192 true).run Tryd.prog w = .ok (.tuple #[.nilIface, .bool false]) w :=
  run_typeAssert_lacksB Tryd.underlying192 (by kernel_rfl) (by kernel_rfl) v xT w

theorem chain_iface (r : List (ByteArray × Int)) (c : Int) : ∃ T v, chain r c = .iface T v := by
  rcases r with _ | ⟨⟨p, a⟩, r⟩
  · exact ⟨_, _, rfl⟩
  · exact ⟨_, _, rfl⟩

set_option maxHeartbeats 400000 in
/-- (wrapped).Unwrap: what is in the place. -/
theorem unwrap_any (x y z : Value) (w : World) :
    Calls Tryd.prog 128 #[.agg #[x, y, z]] w fun e w' => e = .returned z ∧ Below w.heap.size w w' := by
  go_enter Tryd.func128, Tryd.ntmps128
  go_wp2
  go_ret
  exact ⟨rfl, (Below.refl _ _).alloc (Nat.le_refl _) _⟩
theorem e_partsWa (a : Addr) (w : World) : (ReflectliteValue.parts (.agg #[.pointer (some ⟨1, 136, none⟩), .pointer (some a), .int .u64 409])).run Tryd.prog w = .ok (some (136, a, 409)) w := by kernel_rfl
theorem e_partsW (a : Addr) (w : World) : (ReflectliteValue.parts (.agg #[.pointer (some ⟨1, 136, none⟩), .pointer (some a), .int .u64 153])).run Tryd.prog w = .ok (some (136, a, 153)) w := by kernel_rfl
theorem e_directW (w : World) : (Rtype.directlyAssignable 136 136).run Tryd.prog w = .ok true w := by kernel_rfl
theorem e_isAggW (w : World) : (isAgg 136).run Tryd.prog w = .ok true w := by kernel_rfl
theorem e_sizeW (w : World) : (sizeOf 136).run Tryd.prog w = .ok 3 w := by kernel_rfl
end Go.Proofs.YtamejhhjfnfalaaDoor

/- errors.as at a chain of the project's own errors, and errors.As round it, at the targets that package fault has; fault's Code and outermost. -/
namespace Go.Proofs.YtamejhhjfnfalaaDoor
open Go.RowKit Go.Extern.Stop Go.Stop Go.Extern

/-- What errors.as leaves where it finds. -/
def AsSet (t : Addr) (v : Value) (w : World) (e : Ending) (w' : World) : Prop :=
  e = .returned (.bool true) ∧ ∃ w2, Below w.heap.size w w2 ∧ w' = w2.setCell t v
set_option maxHeartbeats 4000000 in
set_option maxRecDepth 100000 in
theorem as_code (ws : List (ByteArray × Int)) (c : Int) (t va : Addr) (old : Value) (w : World) (hva : w.cell? va = some (.pointer (some t))) (ht : w.cell? t = some old) (hf : w.frozen? t = false) :
    Calls Tryd.prog 74 #[chain ws c, .iface 98 (.pointer (some t)), .agg #[.pointer (some ⟨1, 98, none⟩), .pointer (some va), .int .u64 150], .iface 183 (.agg #[.pointer (some ⟨1, 43, none⟩)])] w (AsSet t (.int .i64 c) w) := by
  have hTypeOf := @run_callFunc_extern Tryd.prog 84 _ ReflectliteType.typeOf Tryd.func84 (by kernel_rfl) (by kernel_rfl) (by kernel_rfl) (by kernel_rfl)
  have hAssign := @run_callFunc_extern Tryd.prog 134 _ (ReflectliteType.relation "AssignableTo" ReflectliteType.assignableTo) Tryd.func134 (by kernel_rfl) (by kernel_rfl) (by kernel_rfl) (by kernel_rfl)
  have hElem := @run_callFunc_extern Tryd.prog 94 _ (ReflectliteValue.method (ReflectliteValue.valueError "reflectlite.Value.Elem" 0) ReflectliteValue.elem) Tryd.func94 (by kernel_rfl) (by kernel_rfl) (by kernel_rfl) (by kernel_rfl)
  have hSet := @run_callFunc_extern Tryd.prog 95 _ ReflectliteValue.set Tryd.func95 (by kernel_rfl) (by kernel_rfl) (by kernel_rfl) (by kernel_rfl)
  have hValueOf := @run_callFunc_extern Tryd.prog 71 _ (fun args => ReflectliteValue.unpack (args.getD 0 (.tuple #[]))) Tryd.func71 (by kernel_rfl) (by kernel_rfl) (by kernel_rfl) (by kernel_rfl)
  have f1 := e_typeOfE
  have f2 := e_typeOfW
  have f3 := e_assignEE
  have f4 := e_assignWE
  have f5 := e_valueOfE
  have f6 := e_methodAssignableTo
  have f7 := e_methodUnwrap
  have f8 := e_noAsW
  have f9 := e_unW
  have HV := Lib.hid (And.intro hva (And.intro ht hf))
  clear hva ht hf
  go_enter Tryd.func74, Tryd.ntmps74
  go_wp2
  generalize hw0 : w.alloc (.cells #[.pointer (some ⟨1, 98, none⟩), .pointer (some va), .int .u64 150] 147) = w0
  have HW0 := Lib.hid hw0
  clear hw0
  go_loopg [0] ws.length (fun k s wr => ∃ ws', ws'.length = k ∧ s = chain ws' c ∧ Hid (Below w0.heap.size w0 wr))
  case atStart => exact ⟨ws, rfl, rfl, Below.refl _ _⟩
  case round =>
    obtain ⟨ws', hk, rfl, HB⟩ := hrel
    have HK := Lib.hid hk
    clear hk
    rcases ws' with _ | ⟨⟨p, a⟩, r⟩
    · have hb0 : Below w.heap.size w w0 := by rw [← HW0.out]; exact (Below.refl _ _).alloc (Nat.le_refl _) _
      have hz0 : w.heap.size + 1 = w0.heap.size := by rw [← HW0.out]; simp
      have hbw : Below w.heap.size w wr := hb0.trans (HB.out.mono (by omega))
      have hbox : wr.heap[w.heap.size]? = some (.cells #[.pointer (some ⟨1, 98, none⟩), .pointer (some va), .int .u64 150] 147 (0, 0)) := by
        rw [HB.out.block _ (by omega), ← HW0.out]; exact heap_alloc_new w _
      have b0 : wr.cell? ⟨w.heap.size, 0, none⟩ = some (.pointer (some ⟨1, 98, none⟩)) := by rw [cell_of_row wr _ 0 _ _ _ hbox]; rfl
      have b1 : wr.cell? ⟨w.heap.size, 1, none⟩ = some (.pointer (some va)) := by rw [cell_of_row wr _ 1 _ _ _ hbox]; rfl
      have b2 : wr.cell? ⟨w.heap.size, 2, none⟩ = some (.int .u64 150) := by rw [cell_of_row wr _ 2 _ _ _ hbox]; rfl
      have vl := World.block_lt_of_cell? _ _ HV.out.1
      have tl := World.block_lt_of_cell? _ _ HV.out.2.1
      have el := e_elemVP va t wr (by rw [hbw.cell vl]; exact HV.out.1)
      have zz := hbw.size
      have st := e_setE t ⟨wr.heap.size, 0, none⟩ c old (wr.alloc (.cells #[.int .i64 c] 43)) (by rw [World.cell?_alloc_at _ _ _ _ (by simp)]; rfl)
        (by rw [World.cell?_alloc_lt _ _ t (by omega), hbw.cell tl]; exact HV.out.2.1)
        (by rw [World.frozen?_alloc_old _ _ t (by omega), hbw.frozen tl]; exact HV.out.2.2)
      have HH := Lib.hid (hbw.alloc hbw.size (.cells #[.int .i64 c] 43))
      clear hb0 hz0 hbw hbox vl tl zz
      unfold chain
      go_wp2
      go_ret
      exact ⟨rfl, _, HH.out, rfl⟩
    · obtain ⟨T, v, hT⟩ := chain_iface r c
      unfold chain
      rw [hT]
      have HT := Lib.hid hT
      clear hT
      go_wp2_with (go_at_call 128; refine (unwrap_any _ _ _ _).mono ?_; rintro e w1 ⟨rfl, hb1⟩; have HB1 := Lib.hid hb1; clear hb1)
      go_roundg r.length
      case measure => have := HK.out; simp at this; omega
      case rel => exact ⟨r, rfl, HT.out.symm, HB.out.trans (HB1.out.mono HB.out.size)⟩
end Go.Proofs.YtamejhhjfnfalaaDoor

/- errors.As at a chain of the project's own errors, at the target *api.Errno; fault's Code. -/
namespace Go.Proofs.YtamejhhjfnfalaaDoor
open Go.RowKit Go.Extern.Stop Go.Stop Go.Extern

/-- The listed variable's cell. -/
def Handle (w : World) : Prop := w.cell? ⟨0, 0, none⟩ = some (.iface 183 (.agg #[.pointer (some ⟨1, 36, none⟩)]))
theorem Handle.below {w w' : World} {B : Nat} (h : Handle w) (hb : Below B w w') (hB : 0 < B) : Handle w' := (hb.cell (p := ⟨0, 0, none⟩) hB).trans h
theorem Handle.pos {w : World} (h : Handle w) : 0 < w.heap.size := World.block_lt_of_cell? w ⟨0, 0, none⟩ h

set_option maxHeartbeats 4000000 in
set_option maxRecDepth 100000 in
theorem As_code (ws : List (ByteArray × Int)) (c : Int) (t : Addr) (old : Value) (w : World) (hg : Handle w) (ht : w.cell? t = some old) (hf : w.frozen? t = false) :
    Calls Tryd.prog 45 #[chain ws c, .iface 98 (.pointer (some t))] w (AsSet t (.int .i64 c) w) := by
  have h33 := @run_callFunc_extern Tryd.prog 71 _ (fun args => ReflectliteValue.unpack (args.getD 0 (.tuple #[]))) Tryd.func71 (by kernel_rfl) (by kernel_rfl) (by kernel_rfl) (by kernel_rfl)
  have h34 := @run_callFunc_extern Tryd.prog 72 _ (ReflectliteValue.methodAny (ReflectliteValue.valueError "reflectlite.Value.Type" 0) (fun t _ _ _ => ReflectliteType.toType t)) Tryd.func72 (by kernel_rfl) (by kernel_rfl) (by kernel_rfl) (by kernel_rfl)
  have h35 := @run_callFunc_extern Tryd.prog 73 _ (ReflectliteValue.method (ReflectliteValue.valueError "reflectlite.Value.IsNil" 0) ReflectliteValue.isNil) Tryd.func73 (by kernel_rfl) (by kernel_rfl) (by kernel_rfl) (by kernel_rfl)
  have hKind := @run_callFunc_extern Tryd.prog 122 _ (ReflectliteType.abiMethod fun t => do pure (.int .u8 (← Rtype.kind t))) Tryd.func122 (by kernel_rfl) (by kernel_rfl) (by kernel_rfl) (by kernel_rfl)
  have hElem := @run_callFunc_extern Tryd.prog 136 _ (ReflectliteType.method ReflectliteType.elem) Tryd.func136 (by kernel_rfl) (by kernel_rfl) (by kernel_rfl) (by kernel_rfl)
  have hImpl := @run_callFunc_extern Tryd.prog 137 _ (ReflectliteType.relation "Implements" ReflectliteType.implements_) Tryd.func137 (by kernel_rfl) (by kernel_rfl) (by kernel_rfl) (by kernel_rfl)
  have f1 := e_valueOfP
  have f2 := e_typeP
  have f3 := e_methodKind
  have f4 := e_kindP
  have f5 := e_kindE
  have f6 := e_methodElem
  have f7 := e_methodImplements
  have f8 := e_elemP
  have f9 := e_implE
  have hlt := hg.pos
  have tl := World.block_lt_of_cell? _ _ ht
  have n8 := e_isNilP ⟨w.heap.size, 0, none⟩ t ((w.alloc (.cells #[.pointer (some t)] 98)).alloc (.cells #[.pointer (some ⟨1, 98, none⟩), .pointer (some ⟨w.heap.size, 0, none⟩), .int .u64 150] 147)) (by simp)
  have hg2 : ((w.alloc (.cells #[.pointer (some t)] 98)).alloc (.cells #[.pointer (some ⟨1, 98, none⟩), .pointer (some ⟨w.heap.size, 0, none⟩), .int .u64 150] 147)).cell? ⟨0, 0, none⟩ = some (.iface 183 (.agg #[.pointer (some ⟨1, 36, none⟩)])) := by
    rw [World.cell?_alloc_lt _ _ ⟨0, 0, none⟩ (by simp <;> omega), World.cell?_alloc_lt _ _ ⟨0, 0, none⟩ hlt]; exact hg
  have hc := as_code ws c t ⟨w.heap.size, 0, none⟩ old ((w.alloc (.cells #[.pointer (some t)] 98)).alloc (.cells #[.pointer (some ⟨1, 98, none⟩), .pointer (some ⟨w.heap.size, 0, none⟩), .int .u64 150] 147)) (by simp)
    (by rw [World.cell?_alloc_lt _ _ t (by simp; omega), World.cell?_alloc_lt _ _ t tl]; exact ht)
    (by rw [World.frozen?_alloc_old _ _ t (by simp; omega), World.frozen?_alloc_old _ _ t (Nat.ne_of_lt tl)]; exact hf)
  have HC := Lib.hid hc
  obtain ⟨T, v, hT⟩ := chain_iface ws c
  rw [hT] at HC ⊢
  clear hc hg ht hf hT
  go_enter Tryd.func45, Tryd.ntmps45
  go_wp2_with fail
  refine HC.out.mono ?_
  rintro e w1 ⟨rfl, w2, hb2, rfl⟩
  have hb := (((Below.refl w.heap.size w).alloc (Nat.le_refl _) (.cells #[.pointer (some t)] 98)).alloc (by simp) (.cells #[.pointer (some ⟨1, 98, none⟩), .pointer (some ⟨w.heap.size, 0, none⟩), .int .u64 150] 147)).trans (hb2.mono (by simp; omega))
  have HB := Lib.hid hb
  clear hb hb2 n8 hg2
  go_wp2
  go_ret
  exact ⟨rfl, w2, HB.out, rfl⟩

set_option maxHeartbeats 4000000 in
set_option maxRecDepth 100000 in
/-- fault.Code of a chain: its number. -/
theorem code_chain (ws : List (ByteArray × Int)) (c : Int) (w : World) (hg : Handle w) :
    Calls Tryd.prog 15 #[chain ws c] w fun e w' => e = .returned (.int .i64 c) ∧ Below w.heap.size w w' := by
  have hc := As_code ws c ⟨w.heap.size, 0, none⟩ (.int .i64 0) (w.alloc (.cells #[.int .i64 0] 43)) (hg.below ((Below.refl w.heap.size w).alloc (Nat.le_refl _) _) hg.pos) (by simp) (by simp)
  have HC := Lib.hid hc
  obtain ⟨T, v, hT⟩ := chain_iface ws c
  rw [hT] at HC ⊢
  clear hc hg hT
  go_enter Tryd.func15, Tryd.ntmps15
  go_wp2_with fail
  refine HC.out.mono ?_
  rintro e w1 ⟨rfl, w2, hb2, rfl⟩
  have hc2 : (w2.setCell ⟨w.heap.size, 0, none⟩ (.int .i64 c)).cell? ⟨w.heap.size, 0, none⟩ = some (.int .i64 c) := by
    have h0 : w2.heap[w.heap.size]? = some (.cells #[.int .i64 0] 43 (0, 0)) := by
      rw [hb2.block _ (by simp)]; exact heap_alloc_new w _
    simp [World.cell?, World.setCell, Array.getElem?_modify, h0]
  have hb := ((Below.refl w.heap.size w).alloc (Nat.le_refl _) (.cells #[.int .i64 0] 43)).trans (hb2.mono (by simp))
  have HB := Lib.hid (hb.setCell (p := ⟨w.heap.size, 0, none⟩) (Nat.le_refl _) (.int .i64 c))
  clear hb hb2
  generalize w2.setCell ⟨w.heap.size, 0, none⟩ (.int .i64 c) = w3 at *
  go_wp2
  go_ret
  exact ⟨rfl, HB.out⟩
set_option maxHeartbeats 400000 in
/-- fault.Code of nil: OK. -/
theorem code_nil (w : World) : Calls Tryd.prog 15 #[.nilIface] w fun e w' => e = .returned (.int .i64 0) ∧ w = w' := by
  go_enter Tryd.func15, Tryd.ntmps15
  go_wp2
  go_ret
  exact ⟨rfl, rfl⟩
end Go.Proofs.YtamejhhjfnfalaaDoor

/- errors.As at the target *fault.wrapped: it misses at a bare number; fault's outermost, Places and Wrap at a bare number. -/
namespace Go.Proofs.YtamejhhjfnfalaaDoor
open Go.RowKit Go.Extern.Stop Go.Stop Go.Extern

/-- What errors.As leaves where it finds nothing. -/
def AsMiss (w : World) (e : Ending) (w' : World) : Prop := e = .returned (.bool false) ∧ Below w.heap.size w w'
set_option maxHeartbeats 4000000 in
set_option maxRecDepth 100000 in
theorem as_miss (c : Int) (t va : Addr) (w : World) :
    Calls Tryd.prog 74 #[chain [] c, .iface 203 (.pointer (some t)), .agg #[.pointer (some ⟨1, 203, none⟩), .pointer (some va), .int .u64 150], .iface 183 (.agg #[.pointer (some ⟨1, 136, none⟩)])] w (AsMiss w) := by
  have hTypeOf := @run_callFunc_extern Tryd.prog 84 _ ReflectliteType.typeOf Tryd.func84 (by kernel_rfl) (by kernel_rfl) (by kernel_rfl) (by kernel_rfl)
  have hAssign := @run_callFunc_extern Tryd.prog 134 _ (ReflectliteType.relation "AssignableTo" ReflectliteType.assignableTo) Tryd.func134 (by kernel_rfl) (by kernel_rfl) (by kernel_rfl) (by kernel_rfl)
  have f1 := e_typeOfE
  have f4 := e_assignEW
  have f6 := e_methodAssignableTo
  have f8 := e_noAsE
  have f9 := e_noUnE
  have f10 := e_noUnsE
  unfold chain
  go_enter Tryd.func74, Tryd.ntmps74
  go_wp2
  refine wp_loop_rounds 1 ?_
  rw [rounds_succ]
  go_wp2
  go_ret
  exact ⟨rfl, (Below.refl _ _).alloc (Nat.le_refl _) _⟩

set_option maxHeartbeats 4000000 in
set_option maxRecDepth 100000 in
theorem As_miss (c : Int) (t : Addr) (w : World) (hg : Handle w) :
    Calls Tryd.prog 45 #[chain [] c, .iface 203 (.pointer (some t))] w (AsMiss w) := by
  have h33 := @run_callFunc_extern Tryd.prog 71 _ (fun args => ReflectliteValue.unpack (args.getD 0 (.tuple #[]))) Tryd.func71 (by kernel_rfl) (by kernel_rfl) (by kernel_rfl) (by kernel_rfl)
  have h34 := @run_callFunc_extern Tryd.prog 72 _ (ReflectliteValue.methodAny (ReflectliteValue.valueError "reflectlite.Value.Type" 0) (fun t _ _ _ => ReflectliteType.toType t)) Tryd.func72 (by kernel_rfl) (by kernel_rfl) (by kernel_rfl) (by kernel_rfl)
  have h35 := @run_callFunc_extern Tryd.prog 73 _ (ReflectliteValue.method (ReflectliteValue.valueError "reflectlite.Value.IsNil" 0) ReflectliteValue.isNil) Tryd.func73 (by kernel_rfl) (by kernel_rfl) (by kernel_rfl) (by kernel_rfl)
  have hKind := @run_callFunc_extern Tryd.prog 122 _ (ReflectliteType.abiMethod fun t => do pure (.int .u8 (← Rtype.kind t))) Tryd.func122 (by kernel_rfl) (by kernel_rfl) (by kernel_rfl) (by kernel_rfl)
  have hElem := @run_callFunc_extern Tryd.prog 136 _ (ReflectliteType.method ReflectliteType.elem) Tryd.func136 (by kernel_rfl) (by kernel_rfl) (by kernel_rfl) (by kernel_rfl)
  have hImpl := @run_callFunc_extern Tryd.prog 137 _ (ReflectliteType.relation "Implements" ReflectliteType.implements_) Tryd.func137 (by kernel_rfl) (by kernel_rfl) (by kernel_rfl) (by kernel_rfl)
  have f1 := e_valueOfW
  have f2 := e_typeW
  have f3 := e_methodKind
  have f4 := e_kindPW
  have f5 := e_kindW
  have f6 := e_methodElem
  have f7 := e_methodImplements
  have f8 := e_elemW
  have f9 := e_implW
  have hlt := hg.pos
  have n8 := e_isNilW ⟨w.heap.size, 0, none⟩ t ((w.alloc (.cells #[.pointer (some t)] 203)).alloc (.cells #[.pointer (some ⟨1, 203, none⟩), .pointer (some ⟨w.heap.size, 0, none⟩), .int .u64 150] 147)) (by simp)
  have hg2 : ((w.alloc (.cells #[.pointer (some t)] 203)).alloc (.cells #[.pointer (some ⟨1, 203, none⟩), .pointer (some ⟨w.heap.size, 0, none⟩), .int .u64 150] 147)).cell? ⟨0, 0, none⟩ = some (.iface 183 (.agg #[.pointer (some ⟨1, 36, none⟩)])) := by
    rw [World.cell?_alloc_lt _ _ ⟨0, 0, none⟩ (by simp <;> omega), World.cell?_alloc_lt _ _ ⟨0, 0, none⟩ hlt]; exact hg
  have HC := Lib.hid (as_miss c t ⟨w.heap.size, 0, none⟩ ((w.alloc (.cells #[.pointer (some t)] 203)).alloc (.cells #[.pointer (some ⟨1, 203, none⟩), .pointer (some ⟨w.heap.size, 0, none⟩), .int .u64 150] 147)))
  obtain ⟨T, v, hT⟩ := chain_iface [] c
  rw [hT] at HC ⊢
  clear hg hT
  go_enter Tryd.func45, Tryd.ntmps45
  go_wp2_with fail
  refine HC.out.mono ?_
  rintro e w1 ⟨rfl, hb2⟩
  have hb := (((Below.refl w.heap.size w).alloc (Nat.le_refl _) (.cells #[.pointer (some t)] 203)).alloc (by simp) (.cells #[.pointer (some ⟨1, 203, none⟩), .pointer (some ⟨w.heap.size, 0, none⟩), .int .u64 150] 147)).trans (hb2.mono (by simp; omega))
  have HB := Lib.hid hb
  clear hb hb2 n8 hg2
  go_wp2
  go_ret
  exact ⟨rfl, HB.out⟩

/-- Block g is a wrapped error's three cells. -/
def Wrp (w : World) (g : Nat) (x y z : Value) : Prop := w.heap[g]? = some (.cells #[x, y, z] 136 (0, 0))
section
variable {w w' : World} {g : Nat} {x y z : Value}
theorem Wrp.lt (h : Wrp w g x y z) : g < w.heap.size := (Array.getElem?_eq_some_iff.1 h).1
theorem Wrp.cell0 (h : Wrp w g x y z) : w.cell? ⟨g, 0, none⟩ = some x := by rw [cell_of_row w g 0 _ 136 (0, 0) h]; rfl
theorem Wrp.cell1 (h : Wrp w g x y z) : w.cell? ⟨g, 1, none⟩ = some y := by rw [cell_of_row w g 1 _ 136 (0, 0) h]; rfl
theorem Wrp.cell2 (h : Wrp w g x y z) : w.cell? ⟨g, 2, none⟩ = some z := by rw [cell_of_row w g 2 _ 136 (0, 0) h]; rfl
theorem Wrp.frozen (h : Wrp w g x y z) (i : Nat) : w.frozen? ⟨g, i, none⟩ = false := by unfold Wrp at h; simp [World.frozen?, h]
theorem Wrp.set (h : Wrp w g x y z) (x' y' z' : Value) : Wrp (((w.setCell ⟨g, 0, none⟩ x').setCell ⟨g, 1, none⟩ y').setCell ⟨g, 2, none⟩ z') g x' y' z' := by
  unfold Wrp at h ⊢
  simp [World.setCell, Array.getElem?_modify, h]
theorem Wrp.below {B : Nat} (h : Wrp w g x y z) (hb : Below B w w') (hg : g < B) : Wrp w' g x y z := (hb.block g hg).trans h
theorem Wrp.alloc (h : Wrp w g x y z) (o : Obj) : Wrp (w.alloc o) g x y z := (Below.heap_alloc w o g h.lt).trans h
theorem Wrp.new (w : World) (x y z : Value) : Wrp (w.alloc (.cells #[x, y, z] 136)) w.heap.size x y z := heap_alloc_new w _
theorem below_set3 {B : Nat} {a w : World} (h : Below B a w) (hg : B ≤ g) (x y z : Value) : Below B a (((w.setCell ⟨g, 0, none⟩ x).setCell ⟨g, 1, none⟩ y).setCell ⟨g, 2, none⟩ z) :=
  ((h.setCell (p := ⟨g, 0, none⟩) hg _).setCell (p := ⟨g, 1, none⟩) hg _).setCell (p := ⟨g, 2, none⟩) hg _
end
abbrev zeroW : Array Value := #[.string ⟨#[]⟩, .int .i64 0, .nilIface]
set_option maxHeartbeats 4000000 in
set_option maxRecDepth 100000 in
/-- fault.outermost of a bare number: none. -/
theorem outer_miss (c : Int) (w : World) (hg : Handle w) :
    Calls Tryd.prog 86 #[chain [] c] w fun e w' => e = .returned (.tuple #[.agg #[.string ⟨#[]⟩, .int .i64 0, .nilIface], .bool false]) ∧ Below w.heap.size w w' := by
  have hb0 := ((Below.refl w.heap.size w).alloc (Nat.le_refl _) (.cells zeroW 136)).alloc (by simp) (.cells zeroW 136)
  have HC := Lib.hid (As_miss c ⟨w.heap.size + 1, 0, none⟩ ((w.alloc (.cells zeroW 136)).alloc (.cells zeroW 136)) (hg.below hb0 hg.pos))
  have hr : Wrp ((w.alloc (.cells zeroW 136)).alloc (.cells zeroW 136)) w.heap.size (.string ⟨#[]⟩) (.int .i64 0) .nilIface := (Wrp.new w _ _ _).alloc _
  have hv : Wrp ((w.alloc (.cells zeroW 136)).alloc (.cells zeroW 136)) (w.heap.size + 1) (.string ⟨#[]⟩) (.int .i64 0) .nilIface := by
    have := Wrp.new (w.alloc (.cells zeroW 136)) (.string ⟨#[]⟩) (.int .i64 0) .nilIface
    simp only [World.size_alloc] at this
    exact this
  obtain ⟨T, v, hT⟩ := chain_iface [] c
  rw [hT] at HC ⊢
  clear hg hT
  have HB0 := Lib.hid (And.intro hb0 (And.intro hr hv))
  clear hb0 hr hv
  go_enter Tryd.func86, Tryd.ntmps86
  go_wp2_with fail
  refine HC.out.mono ?_
  rintro e w1 ⟨rfl, hb2⟩
  have hr := HB0.out.2.1.below hb2 (by simp; omega)
  have hv := HB0.out.2.2.below hb2 (by simp)
  have a0 := hv.cell0
  have a1 := hv.cell1
  have a2 := hv.cell2
  have r0 := hr.cell0
  have r1 := hr.cell1
  have r2 := hr.cell2
  have z0 := hr.frozen 0
  have z1 := hr.frozen 1
  have z2 := hr.frozen 2
  have HB := Lib.hid (HB0.out.1.trans (hb2.mono (by simp; omega)))
  have HR := Lib.hid hr
  clear hb2 hr hv HB0
  go_wp2
  have hs := HR.out.set (.string ⟨#[]⟩) (.int .i64 0) .nilIface
  have s0 := hs.cell0
  have s1 := hs.cell1
  have s2 := hs.cell2
  exact bodyPost_ret (v := .tuple #[.agg #[.string ⟨#[]⟩, .int .i64 0, .nilIface], .bool false]) (by simp [results, Tryd.results86, go_sem, s0, s1, s2]) rfl
    ⟨rfl, below_set3 HB.out (Nat.le_refl _) _ _ _⟩

set_option maxHeartbeats 4000000 in
set_option maxRecDepth 100000 in
/-- fault.Places of a bare number: none. -/
theorem places_bare (c : Int) (w : World) (hg : Handle w) :
    Calls Tryd.prog 64 #[chain [] c] w fun e w' => e = .returned (.tuple #[.slice none 0 0, .slice none 0 0]) ∧ Below w.heap.size w w' := by
  have HC := Lib.hid (outer_miss c w hg)
  obtain ⟨T, v, hT⟩ := chain_iface [] c
  rw [hT] at HC ⊢
  clear hg hT
  go_enter Tryd.func64, Tryd.ntmps64
  go_wp2_with fail
  refine HC.out.mono ?_
  rintro e w1 ⟨rfl, hb⟩
  have HB := Lib.hid hb
  clear hb
  go_wp2
  refine wp_loop_rounds 1 ?_
  rw [rounds_succ]
  go_wp2
  go_ret2
  exact ⟨rfl, HB.out.alloc HB.out.size _⟩

set_option maxHeartbeats 4000000 in
set_option maxRecDepth 100000 in
/-- fault.Wrap of a bare number: it, in one place. -/
theorem wrap_bare (c a : Int) (p : ByteArray) (w : World) (hg : Handle w) :
    Calls Tryd.prog 38 #[chain [] c, .string p, .int .i64 a] w fun e w' => e = .returned (chain [(p, a)] c) ∧ Below w.heap.size w w' := by
  have HC := Lib.hid (places_bare c w hg)
  have HE : chain [(p, a)] c = .iface 136 (.agg #[.string p, .int .i64 a, chain [] c]) := rfl
  rw [HE]
  obtain ⟨T, v, hT⟩ := chain_iface [] c
  rw [hT] at HC ⊢
  clear hg hT HE
  go_enter Tryd.func38, Tryd.ntmps38
  go_wp2_with fail
  refine HC.out.mono ?_
  rintro e w1 ⟨rfl, hb⟩
  have HB := Lib.hid hb
  clear hb
  go_wp2
  go_ret
  exact ⟨rfl, HB.out⟩
end Go.Proofs.YtamejhhjfnfalaaDoor

/- errors.is, errors.Is and fault.Is of a chain of the project's own errors, at a number. -/
namespace Go.Proofs.YtamejhhjfnfalaaDoor
open Go.RowKit Go.Extern.Stop Go.Stop Go.Extern

theorem e_noIsW (v : Value) (xT : TypeId) (w : World) : (Instr.typeAssert (.iface 136 v) xT 200 true).run Tryd.prog w = .ok (.tuple #[.nilIface, .bool false]) w :=
  run_typeAssert_lacksB Tryd.underlying200 (by kernel_rfl) (by kernel_rfl) v xT w
theorem e_noIsE (v : Value) (xT : TypeId) (w : World) : (Instr.typeAssert (.iface 43 v) xT 200 true).run Tryd.prog w = .ok (.tuple #[.nilIface, .bool false]) w :=
  run_typeAssert_lacksB Tryd.underlying200 (by kernel_rfl) (by kernel_rfl) v xT w
theorem e_methodComparable (h : Value) (w : World) : (Go.method 337 183 (.agg #[h]) "Comparable").run Tryd.prog w = .ok (135, .agg #[h]) w := by kernel_rfl
theorem e_comparableE (w : World) : (ReflectliteType.method (fun t => do Rtype.noPackHeld "Comparable" t; (fun a : TypeInfo => Value.bool a.comparable) <$> typeInfo t) #[.agg #[.pointer (some ⟨1, 43, none⟩)]]).run Tryd.prog w = .ok (.bool true) w := by kernel_rfl
set_option maxRecDepth 100000 in
/-- An error that is a place, compared with a number. -/
theorem run_eql_we (x : Value) (c : Int) (w : World) : (binOp .eql 36 (.iface 136 x) (.iface 43 (.int .i64 c))).run Tryd.prog w = .ok (.bool false) w := by
  have h : ∀ d : Nat, (Op.equalIn (d + 1) 36 (.iface 136 x) (.iface 43 (.int .i64 c))).run Tryd.prog w = .ok false w := fun d => by
    simp [Op.equalIn, run_underlying Tryd.underlying36]
  simp only [binOp]
  simp [Op.equal, Op.maxDepth, h 9999]
theorem infoErrno : (Tryd.prog.info? 43).map (·.comparable) = some true := by kernel_rfl
set_option maxRecDepth 100000 in
/-- Two numbers compared as errors. -/
theorem run_eql_ee (c d : Int) (w : World) : (binOp .eql 36 (.iface 43 (.int .i64 c)) (.iface 43 (.int .i64 d))).run Tryd.prog w = .ok (.bool (c == d)) w := by
  obtain ⟨i, hi, hc⟩ : ∃ i, Tryd.prog.info? 43 = some i ∧ i.comparable = true := by
    have := infoErrno
    cases h : Tryd.prog.info? 43 with
    | none => rw [h] at this; cases this
    | some i => rw [h] at this; exact ⟨i, rfl, Option.some.inj this⟩
  have h : ∀ k : Nat, (Op.equalIn (k + 2) 36 (.iface 43 (.int .i64 c)) (.iface 43 (.int .i64 d))).run Tryd.prog w = .ok (c == d) w := fun k => by
    have h1 : (Op.equalIn (k + 1) 43 (.int .i64 c) (.int .i64 d)).run Tryd.prog w = .ok (c == d) w := run_equalIn_int w k 43 .i64 .i64 c d Tryd.underlying43
    unfold Op.equalIn
    simp [run_underlying Tryd.underlying36, typeInfo, hi, hc, h1]
  simp only [binOp]
  simp [Op.equal, Op.maxDepth, h 9998]

set_option maxHeartbeats 4000000 in
set_option maxRecDepth 100000 in
theorem is_chain (ws : List (ByteArray × Int)) (c d : Int) (w : World) :
    Calls Tryd.prog 85 #[chain ws c, .iface 43 (.int .i64 d), .bool true] w fun e w' => e = .returned (.bool (c == d)) ∧ Below w.heap.size w w' := by
  have f1 := e_noIsW
  have f2 := e_noIsE
  have f3 := e_unW
  have f4 := e_noUnE
  have f5 := e_noUnsE
  have f6 := e_methodUnwrap
  have f7 := run_eql_we
  have f8 := run_eql_ee
  go_enter Tryd.func85, Tryd.ntmps85
  go_wp2
  go_loopg [0] ws.length (fun k s wr => ∃ ws', ws'.length = k ∧ s = chain ws' c ∧ Hid (Below w.heap.size w wr))
  case atStart => exact ⟨ws, rfl, rfl, Below.refl _ _⟩
  case round =>
    obtain ⟨ws', hk, rfl, HB⟩ := hrel
    have HK := Lib.hid hk
    clear hk
    rcases ws' with _ | ⟨⟨p, a⟩, r⟩
    · unfold chain
      by_cases hcd : c = d
      · subst hcd
        have t1 : (c == c) = true := by simp
        go_wp2
        go_ret
        exact ⟨by rw [t1]; rfl, HB.out⟩
      · have t1 : (c == d) = false := by simpa using hcd
        go_wp2
        go_ret
        exact ⟨by rw [t1]; rfl, HB.out⟩
    · obtain ⟨T, v, hT⟩ := chain_iface r c
      unfold chain
      rw [hT]
      have HT := Lib.hid hT
      clear hT
      go_wp2_with (go_at_call 128; refine (unwrap_any _ _ _ _).mono ?_; rintro e w1 ⟨rfl, hb1⟩; have HB1 := Lib.hid hb1; clear hb1)
      go_roundg r.length
      case measure => have := HK.out; simp at this; omega
      case rel => exact ⟨r, rfl, HT.out.symm, HB.out.trans (HB1.out.mono HB.out.size)⟩

set_option maxHeartbeats 4000000 in
set_option maxRecDepth 100000 in
/-- errors.Is of a chain, at a number: is it the chain's own? -/
theorem Is_chain (ws : List (ByteArray × Int)) (c d : Int) (w : World) :
    Calls Tryd.prog 63 #[chain ws c, .iface 43 (.int .i64 d)] w fun e w' => e = .returned (.bool (c == d)) ∧ Below w.heap.size w w' := by
  have hTypeOf := @run_callFunc_extern Tryd.prog 84 _ ReflectliteType.typeOf Tryd.func84 (by kernel_rfl) (by kernel_rfl) (by kernel_rfl) (by kernel_rfl)
  have hCmp := @run_callFunc_extern Tryd.prog 135 _ (ReflectliteType.method fun t => do Rtype.noPackHeld "Comparable" t; pure (.bool (← typeInfo t).comparable)) Tryd.func135 (by kernel_rfl) (by kernel_rfl) (by kernel_rfl) (by kernel_rfl)
  have f1 := e_typeOfE
  have f2 := e_methodComparable
  have f3 := e_comparableE
  have HC := Lib.hid (is_chain ws c d w)
  obtain ⟨T, v, hT⟩ := chain_iface ws c
  rw [hT] at HC ⊢
  clear hT
  go_enter Tryd.func63, Tryd.ntmps63
  go_wp2_with fail
  refine HC.out.mono ?_
  rintro e w1 ⟨rfl, hb⟩
  have HB := Lib.hid hb
  clear hb
  go_wp2
  go_ret
  exact ⟨rfl, HB.out⟩

set_option maxHeartbeats 400000 in
/-- fault.Is of a chain. -/
theorem fis_chain (ws : List (ByteArray × Int)) (c d : Int) (w : World) :
    Calls Tryd.prog 35 #[chain ws c, .int .i64 d] w fun e w' => e = .returned (.bool (c == d)) ∧ Below w.heap.size w w' := by
  have HC := Lib.hid (Is_chain ws c d w)
  obtain ⟨T, v, hT⟩ := chain_iface ws c
  rw [hT] at HC ⊢
  clear hT
  go_enter Tryd.func35, Tryd.ntmps35
  go_wp2_with fail
  refine HC.out.mono ?_
  rintro e w1 ⟨rfl, hb⟩
  have HB := Lib.hid hb
  clear hb
  go_wp2
  go_ret
  exact ⟨rfl, HB.out⟩
end Go.Proofs.YtamejhhjfnfalaaDoor
