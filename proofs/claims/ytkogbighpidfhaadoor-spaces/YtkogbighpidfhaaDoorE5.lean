/- errors.As at the target *fault.wrapped: it misses at a bare number; fault's outermost, Places and Wrap at a bare number. -/
import Derived.Test.YtkogbighpidfhaaDoorE4
namespace Go.Proofs.YtkogbighpidfhaaDoor
open Go.RowKit Go.Extern.Stop Go.Stop Go.Extern

/-- What errors.As leaves where it finds nothing. -/
def AsMiss (w : World) (e : Ending) (w' : World) : Prop := e = .returned (.bool false) ∧ Below w.heap.size w w'
set_option maxHeartbeats 4000000 in
set_option maxRecDepth 100000 in
theorem as_miss (c : Int) (t va : Addr) (w : World) :
    Calls Tryd.prog 46 #[chain [] c, .iface 77 (.pointer (some t)), .agg #[.pointer (some ⟨7, 77, none⟩), .pointer (some va), .int .u64 150], .iface 89 (.agg #[.pointer (some ⟨7, 58, none⟩)])] w (AsMiss w) := by
  have hTypeOf := @run_callFunc_extern Tryd.prog 35 _ ReflectliteType.typeOf Tryd.func35 (by kernel_rfl) (by kernel_rfl) (by kernel_rfl) (by kernel_rfl)
  have hAssign := @run_callFunc_extern Tryd.prog 102 _ (ReflectliteType.relation "AssignableTo" ReflectliteType.assignableTo) Tryd.func102 (by kernel_rfl) (by kernel_rfl) (by kernel_rfl) (by kernel_rfl)
  have f1 := e_typeOfE
  have f4 := e_assignEW
  have f6 := e_methodAssignableTo
  have f8 := e_noAsE
  have f9 := e_noUnE
  have f10 := e_noUnsE
  unfold chain
  go_enter Tryd.func46, Tryd.ntmps46
  go_wp2
  refine wp_loop_rounds 1 ?_
  rw [rounds_succ]
  go_wp2
  go_ret
  exact ⟨rfl, (Below.refl _ _).alloc (Nat.le_refl _) _⟩

set_option maxHeartbeats 4000000 in
set_option maxRecDepth 100000 in
theorem As_miss (c : Int) (t : Addr) (w : World) (hg : Handle w) :
    Calls Tryd.prog 34 #[chain [] c, .iface 77 (.pointer (some t))] w (AsMiss w) := by
  have h33 := @run_callFunc_extern Tryd.prog 43 _ (fun args => ReflectliteValue.unpack (args.getD 0 (.tuple #[]))) Tryd.func43 (by kernel_rfl) (by kernel_rfl) (by kernel_rfl) (by kernel_rfl)
  have h34 := @run_callFunc_extern Tryd.prog 44 _ (ReflectliteValue.methodAny (ReflectliteValue.valueError "reflectlite.Value.Type" 0) (fun t _ _ _ => ReflectliteType.toType t)) Tryd.func44 (by kernel_rfl) (by kernel_rfl) (by kernel_rfl) (by kernel_rfl)
  have h35 := @run_callFunc_extern Tryd.prog 45 _ (ReflectliteValue.method (ReflectliteValue.valueError "reflectlite.Value.IsNil" 0) ReflectliteValue.isNil) Tryd.func45 (by kernel_rfl) (by kernel_rfl) (by kernel_rfl) (by kernel_rfl)
  have hKind := @run_callFunc_extern Tryd.prog 92 _ (ReflectliteType.abiMethod fun t => do pure (.int .u8 (← Rtype.kind t))) Tryd.func92 (by kernel_rfl) (by kernel_rfl) (by kernel_rfl) (by kernel_rfl)
  have hElem := @run_callFunc_extern Tryd.prog 104 _ (ReflectliteType.method ReflectliteType.elem) Tryd.func104 (by kernel_rfl) (by kernel_rfl) (by kernel_rfl) (by kernel_rfl)
  have hImpl := @run_callFunc_extern Tryd.prog 105 _ (ReflectliteType.relation "Implements" ReflectliteType.implements_) Tryd.func105 (by kernel_rfl) (by kernel_rfl) (by kernel_rfl) (by kernel_rfl)
  have f1 := e_valueOfW
  have f2 := e_typeW
  have f3 := e_methodKind
  have f4 := e_kindPW
  have f5 := e_kindW
  have f6 := e_methodElem
  have f7 := e_methodImplements
  have f8 := e_elemW
  have f9 := e_implW
  have hlt := hg.pos
  have n8 := e_isNilW ⟨w.heap.size, 0, none⟩ t ((w.alloc (.cells #[.pointer (some t)] 77)).alloc (.cells #[.pointer (some ⟨7, 77, none⟩), .pointer (some ⟨w.heap.size, 0, none⟩), .int .u64 150] 81)) (by simp)
  have hg2 : ((w.alloc (.cells #[.pointer (some t)] 77)).alloc (.cells #[.pointer (some ⟨7, 77, none⟩), .pointer (some ⟨w.heap.size, 0, none⟩), .int .u64 150] 81)).cell? ⟨0, 0, none⟩ = some (.iface 89 (.agg #[.pointer (some ⟨7, 25, none⟩)])) := by
    rw [World.cell?_alloc_lt _ _ ⟨0, 0, none⟩ (by simp <;> omega), World.cell?_alloc_lt _ _ ⟨0, 0, none⟩ hlt]; exact hg
  have HC := Lib.hid (as_miss c t ⟨w.heap.size, 0, none⟩ ((w.alloc (.cells #[.pointer (some t)] 77)).alloc (.cells #[.pointer (some ⟨7, 77, none⟩), .pointer (some ⟨w.heap.size, 0, none⟩), .int .u64 150] 81)))
  obtain ⟨T, v, hT⟩ := chain_iface [] c
  rw [hT] at HC ⊢
  clear hg hT
  go_enter Tryd.func34, Tryd.ntmps34
  go_wp2_with fail
  refine HC.out.mono ?_
  rintro e w1 ⟨rfl, hb2⟩
  have hb := (((Below.refl w.heap.size w).alloc (Nat.le_refl _) (.cells #[.pointer (some t)] 77)).alloc (by simp) (.cells #[.pointer (some ⟨7, 77, none⟩), .pointer (some ⟨w.heap.size, 0, none⟩), .int .u64 150] 81)).trans (hb2.mono (by simp; omega))
  have HB := Lib.hid hb
  clear hb hb2 n8 hg2
  go_wp2
  go_ret
  exact ⟨rfl, HB.out⟩

/-- Block g is a wrapped error's three cells. -/
def Wrp (w : World) (g : Nat) (x y z : Value) : Prop := w.heap[g]? = some (.cells #[x, y, z] 58 (0, 0))
section
variable {w w' : World} {g : Nat} {x y z : Value}
theorem Wrp.lt (h : Wrp w g x y z) : g < w.heap.size := (Array.getElem?_eq_some_iff.1 h).1
theorem Wrp.cell0 (h : Wrp w g x y z) : w.cell? ⟨g, 0, none⟩ = some x := by rw [cell_of_row w g 0 _ 58 (0, 0) h]; rfl
theorem Wrp.cell1 (h : Wrp w g x y z) : w.cell? ⟨g, 1, none⟩ = some y := by rw [cell_of_row w g 1 _ 58 (0, 0) h]; rfl
theorem Wrp.cell2 (h : Wrp w g x y z) : w.cell? ⟨g, 2, none⟩ = some z := by rw [cell_of_row w g 2 _ 58 (0, 0) h]; rfl
theorem Wrp.frozen (h : Wrp w g x y z) (i : Nat) : w.frozen? ⟨g, i, none⟩ = false := by unfold Wrp at h; simp [World.frozen?, h]
theorem Wrp.set (h : Wrp w g x y z) (x' y' z' : Value) : Wrp (((w.setCell ⟨g, 0, none⟩ x').setCell ⟨g, 1, none⟩ y').setCell ⟨g, 2, none⟩ z') g x' y' z' := by
  unfold Wrp at h ⊢
  simp [World.setCell, Array.getElem?_modify, h]
theorem Wrp.below {B : Nat} (h : Wrp w g x y z) (hb : Below B w w') (hg : g < B) : Wrp w' g x y z := (hb.block g hg).trans h
theorem Wrp.alloc (h : Wrp w g x y z) (o : Obj) : Wrp (w.alloc o) g x y z := (Below.heap_alloc w o g h.lt).trans h
theorem Wrp.new (w : World) (x y z : Value) : Wrp (w.alloc (.cells #[x, y, z] 58)) w.heap.size x y z := heap_alloc_new w _
theorem below_set3 {B : Nat} {a w : World} (h : Below B a w) (hg : B ≤ g) (x y z : Value) : Below B a (((w.setCell ⟨g, 0, none⟩ x).setCell ⟨g, 1, none⟩ y).setCell ⟨g, 2, none⟩ z) :=
  ((h.setCell (p := ⟨g, 0, none⟩) hg _).setCell (p := ⟨g, 1, none⟩) hg _).setCell (p := ⟨g, 2, none⟩) hg _
end
abbrev zeroW : Array Value := #[.string ⟨#[]⟩, .int .i64 0, .nilIface]
set_option maxHeartbeats 4000000 in
set_option maxRecDepth 100000 in
/-- fault.outermost of a bare number: none. -/
theorem outer_miss (c : Int) (w : World) (hg : Handle w) :
    Calls Tryd.prog 33 #[chain [] c] w fun e w' => e = .returned (.tuple #[.agg #[.string ⟨#[]⟩, .int .i64 0, .nilIface], .bool false]) ∧ Below w.heap.size w w' := by
  have hb0 := ((Below.refl w.heap.size w).alloc (Nat.le_refl _) (.cells zeroW 58)).alloc (by simp) (.cells zeroW 58)
  have HC := Lib.hid (As_miss c ⟨w.heap.size + 1, 0, none⟩ ((w.alloc (.cells zeroW 58)).alloc (.cells zeroW 58)) (hg.below hb0 hg.pos))
  have hr : Wrp ((w.alloc (.cells zeroW 58)).alloc (.cells zeroW 58)) w.heap.size (.string ⟨#[]⟩) (.int .i64 0) .nilIface := (Wrp.new w _ _ _).alloc _
  have hv : Wrp ((w.alloc (.cells zeroW 58)).alloc (.cells zeroW 58)) (w.heap.size + 1) (.string ⟨#[]⟩) (.int .i64 0) .nilIface := by
    have := Wrp.new (w.alloc (.cells zeroW 58)) (.string ⟨#[]⟩) (.int .i64 0) .nilIface
    simp only [World.size_alloc] at this
    exact this
  obtain ⟨T, v, hT⟩ := chain_iface [] c
  rw [hT] at HC ⊢
  clear hg hT
  have HB0 := Lib.hid (And.intro hb0 (And.intro hr hv))
  clear hb0 hr hv
  go_enter Tryd.func33, Tryd.ntmps33
  go_wp2_with fail
  refine HC.out.mono ?_
  rintro e w1 ⟨rfl, hb2⟩
  have hr := HB0.out.2.1.below hb2 (by simp; omega)
  have hv := HB0.out.2.2.below hb2 (by simp)
  have a0 := hv.cell0
  have a1 := hv.cell1
  have a2 := hv.cell2
  have r0 := hr.cell0
  have r1 := hr.cell1
  have r2 := hr.cell2
  have z0 := hr.frozen 0
  have z1 := hr.frozen 1
  have z2 := hr.frozen 2
  have HB := Lib.hid (HB0.out.1.trans (hb2.mono (by simp; omega)))
  have HR := Lib.hid hr
  clear hb2 hr hv HB0
  go_wp2
  have hs := HR.out.set (.string ⟨#[]⟩) (.int .i64 0) .nilIface
  have s0 := hs.cell0
  have s1 := hs.cell1
  have s2 := hs.cell2
  exact bodyPost_ret (v := .tuple #[.agg #[.string ⟨#[]⟩, .int .i64 0, .nilIface], .bool false]) (by simp [results, Tryd.results33, go_sem, s0, s1, s2]) rfl
    ⟨rfl, below_set3 HB.out (Nat.le_refl _) _ _ _⟩

set_option maxHeartbeats 4000000 in
set_option maxRecDepth 100000 in
/-- fault.Places of a bare number: none. -/
theorem places_bare (c : Int) (w : World) (hg : Handle w) :
    Calls Tryd.prog 19 #[chain [] c] w fun e w' => e = .returned (.tuple #[.slice none 0 0, .slice none 0 0]) ∧ Below w.heap.size w w' := by
  have HC := Lib.hid (outer_miss c w hg)
  obtain ⟨T, v, hT⟩ := chain_iface [] c
  rw [hT] at HC ⊢
  clear hg hT
  go_enter Tryd.func19, Tryd.ntmps19
  go_wp2_with fail
  refine HC.out.mono ?_
  rintro e w1 ⟨rfl, hb⟩
  have HB := Lib.hid hb
  clear hb
  go_wp2
  refine wp_loop_rounds 1 ?_
  rw [rounds_succ]
  go_wp2
  go_ret2
  exact ⟨rfl, HB.out.alloc HB.out.size _⟩

set_option maxHeartbeats 4000000 in
set_option maxRecDepth 100000 in
/-- fault.Wrap of a bare number: it, in one place. -/
theorem wrap_bare (c a : Int) (p : ByteArray) (w : World) (hg : Handle w) :
    Calls Tryd.prog 14 #[chain [] c, .string p, .int .i64 a] w fun e w' => e = .returned (chain [(p, a)] c) ∧ Below w.heap.size w w' := by
  have HC := Lib.hid (places_bare c w hg)
  have HE : chain [(p, a)] c = .iface 58 (.agg #[.string p, .int .i64 a, chain [] c]) := rfl
  rw [HE]
  obtain ⟨T, v, hT⟩ := chain_iface [] c
  rw [hT] at HC ⊢
  clear hg hT HE
  go_enter Tryd.func14, Tryd.ntmps14
  go_wp2_with fail
  refine HC.out.mono ?_
  rintro e w1 ⟨rfl, hb⟩
  have HB := Lib.hid hb
  clear hb
  go_wp2
  go_ret
  exact ⟨rfl, HB.out⟩
end Go.Proofs.YtkogbighpidfhaaDoor
