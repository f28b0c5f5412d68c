/- Statements whose order is open and whose operations each yield one value in every world of a class: laws for the walk in the order of the text. -/
import Derived.Test.YtecdfjcncgcegaaDoorAB8
import Derived.Deep.Quiet
namespace Go.Proofs.YtecdfjcncgcegaaDoor
open Go.RowKit

section
variable {C : World → Prop} {a : Act} {o : Oper} {K : Act → Prop}
/-- An operation that yields v in every world of the class. -/
theorem quiet_val (v : Value) (h : ∀ w, C w → (execOp a.eval o).run Tryd.prog w = .ok (.value v) w) (hk : K (a.put o.dst v)) : o.quiet Tryd.prog a C K :=
  ⟨v, fun w hw => by unfold Oper.quietAt; rw [h w hw]; exact ⟨rfl, rfl⟩, hk⟩
/-- A whole array is read. -/
theorem quiet_ld (t N e : Nat) (hu : Tryd.prog.underlying t = some (.array N e)) (hi : (Tryd.prog.info? t).map (·.size) = some N) (x : Operand) (ho : o.op = .load t x) (g : Nat) (hx : a.eval x = .pointer (some ⟨g, 0, none⟩)) {f : Nat → Nat} (h : ∀ w, C w → OwnB w g N t f)
    (hk : K (a.put o.dst (.agg (bys N f)))) : o.quiet Tryd.prog a C K :=
  quiet_val _ (fun w hw => by
    unfold execOp
    simp only [ho, hx, Instr.loadAt, Instr.sureAddr, Sem.run_bind, Sem.run_pure, Result.andThen_ok, run_loadVar_row w g t t _ (0, 0) _ (h w hw) hu rfl (by rw [hi, bys_size])]) hk
/-- A call that answers v and leaves a world of the class. -/
theorem quiet_call (f : FuncId) (args : Array Value) (v : Value) (hr : ∀ w, (execOp a.eval o).run Tryd.prog w = .ok (.enter f args) w) (h : ∀ w, C w → Calls Tryd.prog f args w fun e w' => e = .returned v ∧ C w')
    (hk : K (a.put o.dst v)) : o.quiet Tryd.prog a C K :=
  ⟨v, fun w hw => by unfold Oper.quietAt; rw [hr w]; exact ⟨rfl, h w hw⟩, hk⟩
/-- Two arrays of sixteen bytes compared. -/
theorem quiet_eq16 (x y : Operand) (ty : TypeId) (ho : o.op = .binOp .eql 30 x y ty) {f g : Nat → Nat} (hx : a.eval x = .agg (bys 16 f)) (hy : a.eval y = .agg (bys 16 g)) (hk : K (a.put o.dst (.bool (eqB 16 f g)))) : o.quiet Tryd.prog a C K :=
  quiet_val _ (fun w _ => by
    unfold execOp
    have := run_eqlB w f g
    simp only [ho, hx, hy]
    simp [go_sem, this]) hk
end
/-- A statement whose order is open, at a class of worlds. -/
theorem region_quiet {C : World → Prop} {id : Nat} {Q : Exit → Act → World → Prop} {a : Act} {w : World} {l : List Oper} (hm : Tryd.prog.follows .mixedOrders = true) (hB : Region.lexB .any l.toArray = true) (hC : C { w with drawn := w.drawn + 1 })
    (h : wpQuiet Tryd.prog l.toArray C (fun a' => ∀ w', C w' → Q .normal a' w') l a) : (Code.region id l.toArray true).wp Tryd.prog Q a w :=
  wp_region_quiet (C := C) hm hB hC (by simpa using h)
/-- A load of a whole array, taken ahead. -/
theorem yl_row {ops : Array Oper} {S : World → Prop} {o : Oper} {a : Act} (t N e : Nat) (hu : Tryd.prog.underlying t = some (.array N e)) (hi : (Tryd.prog.info? t).map (·.size) = some N) (hw : Region.wanted o (yielded ops a.tmps) = true) (x : Operand) (ho : o.op = .load t x) (g : Nat) (hx : a.eval x = .pointer (some ⟨g, 0, none⟩)) {f : Nat → Nat}
    (h : ∀ w, S w → OwnB w g N t f) : YieldsIf Tryd.prog ops S o (.agg (bys N f)) a :=
  .inl ⟨hw, fun w hw' => by
    unfold execOp
    simp only [ho, hx, Instr.loadAt, Instr.sureAddr, Sem.run_bind, Sem.run_pure, Result.andThen_ok, run_loadVar_row w g t t _ (0, 0) _ (h w hw') hu rfl (by rw [hi, bys_size])]⟩
end Go.Proofs.YtecdfjcncgcegaaDoor
