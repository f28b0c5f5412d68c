/- errors.is, errors.Is and fault.Is of a chain of the project's own errors, at a number. -/
import Derived.Test.YtkogbighpidfhaaDoorE5
namespace Go.Proofs.YtkogbighpidfhaaDoor
open Go.RowKit Go.Extern.Stop Go.Stop Go.Extern

theorem e_noIsW (v : Value) (xT : TypeId) (w : World) : (Instr.typeAssert (.iface 58 v) xT 91 true).run Tryd.prog w = .ok (.tuple #[.nilIface, .bool false]) w :=
  run_typeAssert_lacksB Tryd.underlying91 (by kernel_rfl) (by kernel_rfl) v xT w
theorem e_noIsE (v : Value) (xT : TypeId) (w : World) : (Instr.typeAssert (.iface 41 v) xT 91 true).run Tryd.prog w = .ok (.tuple #[.nilIface, .bool false]) w :=
  run_typeAssert_lacksB Tryd.underlying91 (by kernel_rfl) (by kernel_rfl) v xT w
theorem e_methodComparable (h : Value) (w : World) : (Go.method 262 89 (.agg #[h]) "Comparable").run Tryd.prog w = .ok (103, .agg #[h]) w := by kernel_rfl
theorem e_comparableE (w : World) : (ReflectliteType.method (fun t => do Rtype.noPackHeld "Comparable" t; (fun a : TypeInfo => Value.bool a.comparable) <$> typeInfo t) #[.agg #[.pointer (some ⟨7, 41, none⟩)]]).run Tryd.prog w = .ok (.bool true) w := by kernel_rfl
set_option maxRecDepth 100000 in
/-- An error that is a place, compared with a number. -/
theorem run_eql_we (x : Value) (c : Int) (w : World) : (binOp .eql 25 (.iface 58 x) (.iface 41 (.int .i64 c))).run Tryd.prog w = .ok (.bool false) w := by
  have h : ∀ d : Nat, (Op.equalIn (d + 1) 25 (.iface 58 x) (.iface 41 (.int .i64 c))).run Tryd.prog w = .ok false w := fun d => by
    simp [Op.equalIn, run_underlying Tryd.underlying25]
  simp only [binOp]
  simp [Op.equal, Op.maxDepth, h 9999]
theorem infoErrno : (Tryd.prog.info? 41).map (·.comparable) = some true := by kernel_rfl
set_option maxRecDepth 100000 in
/-- Two numbers compared as errors. -/
theorem run_eql_ee (c d : Int) (w : World) : (binOp .eql 25 (.iface 41 (.int .i64 c)) (.iface 41 (.int .i64 d))).run Tryd.prog w = .ok (.bool (c == d)) w := by
  obtain ⟨i, hi, hc⟩ : ∃ i, Tryd.prog.info? 41 = some i ∧ i.comparable = true := by
    have := infoErrno
    cases h : Tryd.prog.info? 41 with
    | none => rw [h] at this; cases this
    | some i => rw [h] at this; exact ⟨i, rfl, Option.some.inj this⟩
  have h : ∀ k : Nat, (Op.equalIn (k + 2) 25 (.iface 41 (.int .i64 c)) (.iface 41 (.int .i64 d))).run Tryd.prog w = .ok (c == d) w := fun k => by
    have h1 : (Op.equalIn (k + 1) 41 (.int .i64 c) (.int .i64 d)).run Tryd.prog w = .ok (c == d) w := run_equalIn_int w k 41 .i64 .i64 c d Tryd.underlying41
    unfold Op.equalIn
    simp [run_underlying Tryd.underlying25, typeInfo, hi, hc, h1]
  simp only [binOp]
  simp [Op.equal, Op.maxDepth, h 9998]

set_option maxHeartbeats 4000000 in
set_option maxRecDepth 100000 in
theorem is_chain (ws : List (ByteArray × Int)) (c d : Int) (w : World) :
    Calls Tryd.prog 36 #[chain ws c, .iface 41 (.int .i64 d), .bool true] w fun e w' => e = .returned (.bool (c == d)) ∧ Below w.heap.size w w' := by
  have f1 := e_noIsW
  have f2 := e_noIsE
  have f3 := e_unW
  have f4 := e_noUnE
  have f5 := e_noUnsE
  have f6 := e_methodUnwrap
  have f7 := run_eql_we
  have f8 := run_eql_ee
  go_enter Tryd.func36, Tryd.ntmps36
  go_wp2
  go_loopg [0] ws.length (fun k s wr => ∃ ws', ws'.length = k ∧ s = chain ws' c ∧ Hid (Below w.heap.size w wr))
  case atStart => exact ⟨ws, rfl, rfl, Below.refl _ _⟩
  case round =>
    obtain ⟨ws', hk, rfl, HB⟩ := hrel
    have HK := Lib.hid hk
    clear hk
    rcases ws' with _ | ⟨⟨p, a⟩, r⟩
    · unfold chain
      by_cases hcd : c = d
      · subst hcd
        have t1 : (c == c) = true := by simp
        go_wp2
        go_ret
        exact ⟨by rw [t1]; rfl, HB.out⟩
      · have t1 : (c == d) = false := by simpa using hcd
        go_wp2
        go_ret
        exact ⟨by rw [t1]; rfl, HB.out⟩
    · obtain ⟨T, v, hT⟩ := chain_iface r c
      unfold chain
      rw [hT]
      have HT := Lib.hid hT
      clear hT
      go_wp2_with (go_at_call 97; refine (unwrap_any _ _ _ _).mono ?_; rintro e w1 ⟨rfl, hb1⟩; have HB1 := Lib.hid hb1; clear hb1)
      go_roundg r.length
      case measure => have := HK.out; simp at this; omega
      case rel => exact ⟨r, rfl, HT.out.symm, HB.out.trans (HB1.out.mono HB.out.size)⟩

set_option maxHeartbeats 4000000 in
set_option maxRecDepth 100000 in
/-- errors.Is of a chain, at a number: is it the chain's own? -/
theorem Is_chain (ws : List (ByteArray × Int)) (c d : Int) (w : World) :
    Calls Tryd.prog 21 #[chain ws c, .iface 41 (.int .i64 d)] w fun e w' => e = .returned (.bool (c == d)) ∧ Below w.heap.size w w' := by
  have hTypeOf := @run_callFunc_extern Tryd.prog 35 _ ReflectliteType.typeOf Tryd.func35 (by kernel_rfl) (by kernel_rfl) (by kernel_rfl) (by kernel_rfl)
  have hCmp := @run_callFunc_extern Tryd.prog 103 _ (ReflectliteType.method fun t => do Rtype.noPackHeld "Comparable" t; pure (.bool (← typeInfo t).comparable)) Tryd.func103 (by kernel_rfl) (by kernel_rfl) (by kernel_rfl) (by kernel_rfl)
  have f1 := e_typeOfE
  have f2 := e_methodComparable
  have f3 := e_comparableE
  have HC := Lib.hid (is_chain ws c d w)
  obtain ⟨T, v, hT⟩ := chain_iface ws c
  rw [hT] at HC ⊢
  clear hT
  go_enter Tryd.func21, Tryd.ntmps21
  go_wp2_with fail
  refine HC.out.mono ?_
  rintro e w1 ⟨rfl, hb⟩
  have HB := Lib.hid hb
  clear hb
  go_wp2
  go_ret
  exact ⟨rfl, HB.out⟩

set_option maxHeartbeats 400000 in
/-- fault.Is of a chain. -/
theorem fis_chain (ws : List (ByteArray × Int)) (c d : Int) (w : World) :
    Calls Tryd.prog 13 #[chain ws c, .int .i64 d] w fun e w' => e = .returned (.bool (c == d)) ∧ Below w.heap.size w w' := by
  have HC := Lib.hid (Is_chain ws c d w)
  obtain ⟨T, v, hT⟩ := chain_iface ws c
  rw [hT] at HC ⊢
  clear hT
  go_enter Tryd.func13, Tryd.ntmps13
  go_wp2_with fail
  refine HC.out.mono ?_
  rintro e w1 ⟨rfl, hb⟩
  have HB := Lib.hid hb
  clear hb
  go_wp2
  go_ret
  exact ⟨rfl, HB.out⟩
end Go.Proofs.YtkogbighpidfhaaDoor
