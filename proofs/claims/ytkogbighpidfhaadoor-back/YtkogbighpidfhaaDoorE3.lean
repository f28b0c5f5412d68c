/- errors.as at a chain of the project's own errors, and errors.As round it, at the targets that package fault has; fault's Code and outermost. -/
import Derived.Test.YtkogbighpidfhaaDoorE2
namespace Go.Proofs.YtkogbighpidfhaaDoor
open Go.RowKit Go.Extern.Stop Go.Stop Go.Extern

/-- What errors.as leaves where it finds. -/
def AsSet (t : Addr) (v : Value) (w : World) (e : Ending) (w' : World) : Prop :=
  e = .returned (.bool true) ∧ ∃ w2, Below w.heap.size w w2 ∧ w' = w2.setCell t v
set_option maxHeartbeats 4000000 in
set_option maxRecDepth 100000 in
theorem as_code (ws : List (ByteArray × Int)) (c : Int) (t va : Addr) (old : Value) (w : World) (hva : w.cell? va = some (.pointer (some t))) (ht : w.cell? t = some old) (hf : w.frozen? t = false) :
    Calls Tryd.prog 46 #[chain ws c, .iface 66 (.pointer (some t)), .agg #[.pointer (some ⟨7, 66, none⟩), .pointer (some va), .int .u64 150], .iface 89 (.agg #[.pointer (some ⟨7, 41, none⟩)])] w (AsSet t (.int .i64 c) w) := by
  have hTypeOf := @run_callFunc_extern Tryd.prog 35 _ ReflectliteType.typeOf Tryd.func35 (by kernel_rfl) (by kernel_rfl) (by kernel_rfl) (by kernel_rfl)
  have hAssign := @run_callFunc_extern Tryd.prog 102 _ (ReflectliteType.relation "AssignableTo" ReflectliteType.assignableTo) Tryd.func102 (by kernel_rfl) (by kernel_rfl) (by kernel_rfl) (by kernel_rfl)
  have hElem := @run_callFunc_extern Tryd.prog 53 _ (ReflectliteValue.method (ReflectliteValue.valueError "reflectlite.Value.Elem" 0) ReflectliteValue.elem) Tryd.func53 (by kernel_rfl) (by kernel_rfl) (by kernel_rfl) (by kernel_rfl)
  have hSet := @run_callFunc_extern Tryd.prog 54 _ ReflectliteValue.set Tryd.func54 (by kernel_rfl) (by kernel_rfl) (by kernel_rfl) (by kernel_rfl)
  have hValueOf := @run_callFunc_extern Tryd.prog 43 _ (fun args => ReflectliteValue.unpack (args.getD 0 (.tuple #[]))) Tryd.func43 (by kernel_rfl) (by kernel_rfl) (by kernel_rfl) (by kernel_rfl)
  have f1 := e_typeOfE
  have f2 := e_typeOfW
  have f3 := e_assignEE
  have f4 := e_assignWE
  have f5 := e_valueOfE
  have f6 := e_methodAssignableTo
  have f7 := e_methodUnwrap
  have f8 := e_noAsW
  have f9 := e_unW
  have HV := Lib.hid (And.intro hva (And.intro ht hf))
  clear hva ht hf
  go_enter Tryd.func46, Tryd.ntmps46
  go_wp2
  generalize hw0 : w.alloc (.cells #[.pointer (some ⟨7, 66, none⟩), .pointer (some va), .int .u64 150] 81) = w0
  have HW0 := Lib.hid hw0
  clear hw0
  go_loopg [0] ws.length (fun k s wr => ∃ ws', ws'.length = k ∧ s = chain ws' c ∧ Hid (Below w0.heap.size w0 wr))
  case atStart => exact ⟨ws, rfl, rfl, Below.refl _ _⟩
  case round =>
    obtain ⟨ws', hk, rfl, HB⟩ := hrel
    have HK := Lib.hid hk
    clear hk
    rcases ws' with _ | ⟨⟨p, a⟩, r⟩
    · have hb0 : Below w.heap.size w w0 := by rw [← HW0.out]; exact (Below.refl _ _).alloc (Nat.le_refl _) _
      have hz0 : w.heap.size + 1 = w0.heap.size := by rw [← HW0.out]; simp
      have hbw : Below w.heap.size w wr := hb0.trans (HB.out.mono (by omega))
      have hbox : wr.heap[w.heap.size]? = some (.cells #[.pointer (some ⟨7, 66, none⟩), .pointer (some va), .int .u64 150] 81 (0, 0)) := by
        rw [HB.out.block _ (by omega), ← HW0.out]; exact heap_alloc_new w _
      have b0 : wr.cell? ⟨w.heap.size, 0, none⟩ = some (.pointer (some ⟨7, 66, none⟩)) := by rw [cell_of_row wr _ 0 _ _ _ hbox]; rfl
      have b1 : wr.cell? ⟨w.heap.size, 1, none⟩ = some (.pointer (some va)) := by rw [cell_of_row wr _ 1 _ _ _ hbox]; rfl
      have b2 : wr.cell? ⟨w.heap.size, 2, none⟩ = some (.int .u64 150) := by rw [cell_of_row wr _ 2 _ _ _ hbox]; rfl
      have vl := World.block_lt_of_cell? _ _ HV.out.1
      have tl := World.block_lt_of_cell? _ _ HV.out.2.1
      have el := e_elemVP va t wr (by rw [hbw.cell vl]; exact HV.out.1)
      have zz := hbw.size
      have st := e_setE t ⟨wr.heap.size, 0, none⟩ c old (wr.alloc (.cells #[.int .i64 c] 41)) (by rw [World.cell?_alloc_at _ _ _ _ (by simp)]; rfl)
        (by rw [World.cell?_alloc_lt _ _ t (by omega), hbw.cell tl]; exact HV.out.2.1)
        (by rw [World.frozen?_alloc_old _ _ t (by omega), hbw.frozen tl]; exact HV.out.2.2)
      have HH := Lib.hid (hbw.alloc hbw.size (.cells #[.int .i64 c] 41))
      clear hb0 hz0 hbw hbox vl tl zz
      unfold chain
      go_wp2
      go_ret
      exact ⟨rfl, _, HH.out, rfl⟩
    · obtain ⟨T, v, hT⟩ := chain_iface r c
      unfold chain
      rw [hT]
      have HT := Lib.hid hT
      clear hT
      go_wp2_with (go_at_call 97; refine (unwrap_any _ _ _ _).mono ?_; rintro e w1 ⟨rfl, hb1⟩; have HB1 := Lib.hid hb1; clear hb1)
      go_roundg r.length
      case measure => have := HK.out; simp at this; omega
      case rel => exact ⟨r, rfl, HT.out.symm, HB.out.trans (HB1.out.mono HB.out.size)⟩
end Go.Proofs.YtkogbighpidfhaaDoor
