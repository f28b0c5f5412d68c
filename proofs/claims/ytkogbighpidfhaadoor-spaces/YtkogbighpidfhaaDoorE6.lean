/- errors.As at the target *fault.wrapped, where it finds; fault's outermost of a wrapped error. -/
import Derived.Test.YtkogbighpidfhaaDoorE5
import Derived.Laws.CopyRow
namespace Go.Proofs.YtkogbighpidfhaaDoor
open Go.RowKit Go.Extern.Stop Go.Stop Go.Extern

theorem chain_one (r : List (ByteArray × Int)) (c : Int) : (chain r c).oneCell' = true := by
  rcases r with _ | ⟨⟨p, a⟩, r⟩ <;> rfl
theorem e_setW (g h : Nat) (x y z o0 o1 o2 : Value) (W : World) (hb : Wrp W h x y z) (ht : Wrp W g o0 o1 o2) (h1 : x.oneCell' = true) (h2 : y.oneCell' = true) (h3 : z.oneCell' = true) :
    (ReflectliteValue.set #[.agg #[.pointer (some ⟨7, 58, none⟩), .pointer (some ⟨g, 0, none⟩), .int .u64 409], .agg #[.pointer (some ⟨7, 58, none⟩), .pointer (some ⟨h, 0, none⟩), .int .u64 153]]).run Tryd.prog W
      = .ok (.tuple #[]) (W.setRow g #[x, y, z]) := by
  have hst := run_storeCells_at Tryd.prog g 0 58 [x, y, z] 0 #[o0, o1, o2] W ht (by simp) (by
    intro v hv
    simp only [List.mem_cons, List.not_mem_nil, or_false] at hv
    rcases hv with rfl | rfl | rfl <;> assumption)
  have hl := run_loadCells_list (P := Tryd.prog) W ⟨h, 0, none⟩ [x, y, z] (by
    intro j v hv
    match j, hv with
    | 0, hv => simp at hv; subst hv; exact hb.cell0
    | 1, hv => simp at hv; subst hv; exact hb.cell1
    | 2, hv => simp at hv; subst hv; exact hb.cell2)
  change Sem.run Tryd.prog (bind (ReflectliteValue.parts (.agg #[.pointer (some ⟨7, 58, none⟩), .pointer (some ⟨g, 0, none⟩), .int .u64 409])) fun _ => bind (ReflectliteValue.parts (.agg #[.pointer (some ⟨7, 58, none⟩), .pointer (some ⟨h, 0, none⟩), .int .u64 153])) _) W = _
  simp only [Sem.run_bind, e_partsWa, e_partsW, Result.andThen]
  have hl' : (loadCells ⟨h, 0, none⟩ 3).run Tryd.prog W = .ok #[x, y, z] W := hl
  have hst' : (storeCells ⟨g, 0, none⟩ [x, y, z]).run Tryd.prog W = .ok () (W.setRow g #[x, y, z]) := by rw [hst]; rfl
  simp [ReflectliteValue.flagAddr, loadVar, hl', Result.andThen, e_directW, storeVar, Value.cells, hst']

/-- What errors.as leaves where it finds a wrapped error. -/
def AsWrp (g : Nat) (x y z : Value) (w : World) (e : Ending) (w' : World) : Prop :=
  e = .returned (.bool true) ∧ ∃ w2, Below w.heap.size w w2 ∧ w' = w2.setRow g #[x, y, z]
set_option maxHeartbeats 4000000 in
set_option maxRecDepth 100000 in
theorem as_wrp (p : ByteArray) (a : Int) (r : List (ByteArray × Int)) (c : Int) (g : Nat) (o0 o1 o2 : Value) (va : Addr) (w : World) (hva : w.cell? va = some (.pointer (some ⟨g, 0, none⟩))) (ht : Wrp w g o0 o1 o2) :
    Calls Tryd.prog 46 #[chain ((p, a) :: r) c, .iface 77 (.pointer (some ⟨g, 0, none⟩)), .agg #[.pointer (some ⟨7, 77, none⟩), .pointer (some va), .int .u64 150], .iface 89 (.agg #[.pointer (some ⟨7, 58, none⟩)])] w (AsWrp g (.string p) (.int .i64 a) (chain r c) w) := by
  have hTypeOf := @run_callFunc_extern Tryd.prog 35 _ ReflectliteType.typeOf Tryd.func35 (by kernel_rfl) (by kernel_rfl) (by kernel_rfl) (by kernel_rfl)
  have hAssign := @run_callFunc_extern Tryd.prog 102 _ (ReflectliteType.relation "AssignableTo" ReflectliteType.assignableTo) Tryd.func102 (by kernel_rfl) (by kernel_rfl) (by kernel_rfl) (by kernel_rfl)
  have hElem := @run_callFunc_extern Tryd.prog 53 _ (ReflectliteValue.method (ReflectliteValue.valueError "reflectlite.Value.Elem" 0) ReflectliteValue.elem) Tryd.func53 (by kernel_rfl) (by kernel_rfl) (by kernel_rfl) (by kernel_rfl)
  have hSet := @run_callFunc_extern Tryd.prog 54 _ ReflectliteValue.set Tryd.func54 (by kernel_rfl) (by kernel_rfl) (by kernel_rfl) (by kernel_rfl)
  have hValueOf := @run_callFunc_extern Tryd.prog 43 _ (fun args => ReflectliteValue.unpack (args.getD 0 (.tuple #[]))) Tryd.func43 (by kernel_rfl) (by kernel_rfl) (by kernel_rfl) (by kernel_rfl)
  have f1 := e_typeOfW
  have f3 := e_assignWW
  have f5 := e_valueOfWr
  have f6 := e_methodAssignableTo
  have hone := chain_one r c
  have hb0 := (Below.refl w.heap.size w).alloc (Nat.le_refl _) (.cells #[.pointer (some ⟨7, 77, none⟩), .pointer (some va), .int .u64 150] 81)
  have el := e_elemVW va ⟨g, 0, none⟩ (w.alloc (.cells #[.pointer (some ⟨7, 77, none⟩), .pointer (some va), .int .u64 150] 81)) (by rw [hb0.cell (World.block_lt_of_cell? _ _ hva)]; exact hva)
  have HE : chain ((p, a) :: r) c = .iface 58 (.agg #[.string p, .int .i64 a, chain r c]) := rfl
  rw [HE]
  clear HE
  generalize chain r c = inner at *
  have hnew : Wrp ((w.alloc (.cells #[.pointer (some ⟨7, 77, none⟩), .pointer (some va), .int .u64 150] 81)).alloc (.cells #[.string p, .int .i64 a, inner] 58)) (w.heap.size + 1) (.string p) (.int .i64 a) inner := by
    have := Wrp.new (w.alloc (.cells #[.pointer (some ⟨7, 77, none⟩), .pointer (some va), .int .u64 150] 81)) (.string p) (.int .i64 a) inner
    simp only [World.size_alloc] at this
    exact this
  have st := e_setW g (w.heap.size + 1) (.string p) (.int .i64 a) inner o0 o1 o2 _ hnew ((ht.alloc _).alloc _) rfl rfl hone
  have HH := Lib.hid (hb0.alloc (by simp) (.cells #[.string p, .int .i64 a, inner] 58))
  clear hnew hb0 hva ht hone
  go_enter Tryd.func46, Tryd.ntmps46
  go_wp2
  refine wp_loop_rounds 1 ?_
  rw [rounds_succ]
  go_wp2
  go_ret
  exact ⟨rfl, _, HH.out, rfl⟩

set_option maxHeartbeats 4000000 in
set_option maxRecDepth 100000 in
theorem As_wrp (p : ByteArray) (a : Int) (r : List (ByteArray × Int)) (c : Int) (g : Nat) (o0 o1 o2 : Value) (w : World) (hg : Handle w) (ht : Wrp w g o0 o1 o2) :
    Calls Tryd.prog 34 #[chain ((p, a) :: r) c, .iface 77 (.pointer (some ⟨g, 0, none⟩))] w (AsWrp g (.string p) (.int .i64 a) (chain r c) w) := by
  have h33 := @run_callFunc_extern Tryd.prog 43 _ (fun args => ReflectliteValue.unpack (args.getD 0 (.tuple #[]))) Tryd.func43 (by kernel_rfl) (by kernel_rfl) (by kernel_rfl) (by kernel_rfl)
  have h34 := @run_callFunc_extern Tryd.prog 44 _ (ReflectliteValue.methodAny (ReflectliteValue.valueError "reflectlite.Value.Type" 0) (fun t _ _ _ => ReflectliteType.toType t)) Tryd.func44 (by kernel_rfl) (by kernel_rfl) (by kernel_rfl) (by kernel_rfl)
  have h35 := @run_callFunc_extern Tryd.prog 45 _ (ReflectliteValue.method (ReflectliteValue.valueError "reflectlite.Value.IsNil" 0) ReflectliteValue.isNil) Tryd.func45 (by kernel_rfl) (by kernel_rfl) (by kernel_rfl) (by kernel_rfl)
  have hKind := @run_callFunc_extern Tryd.prog 92 _ (ReflectliteType.abiMethod fun t => do pure (.int .u8 (← Rtype.kind t))) Tryd.func92 (by kernel_rfl) (by kernel_rfl) (by kernel_rfl) (by kernel_rfl)
  have hElem := @run_callFunc_extern Tryd.prog 104 _ (ReflectliteType.method ReflectliteType.elem) Tryd.func104 (by kernel_rfl) (by kernel_rfl) (by kernel_rfl) (by kernel_rfl)
  have hImpl := @run_callFunc_extern Tryd.prog 105 _ (ReflectliteType.relation "Implements" ReflectliteType.implements_) Tryd.func105 (by kernel_rfl) (by kernel_rfl) (by kernel_rfl) (by kernel_rfl)
  have f1 := e_valueOfW
  have f2 := e_typeW
  have f3 := e_methodKind
  have f4 := e_kindPW
  have f5 := e_kindW
  have f6 := e_methodElem
  have f7 := e_methodImplements
  have f8 := e_elemW
  have f9 := e_implW
  have hlt := hg.pos
  have n8 := e_isNilW ⟨w.heap.size, 0, none⟩ ⟨g, 0, none⟩ ((w.alloc (.cells #[.pointer (some ⟨g, 0, none⟩)] 77)).alloc (.cells #[.pointer (some ⟨7, 77, none⟩), .pointer (some ⟨w.heap.size, 0, none⟩), .int .u64 150] 81)) (by simp)
  have hg2 : ((w.alloc (.cells #[.pointer (some ⟨g, 0, none⟩)] 77)).alloc (.cells #[.pointer (some ⟨7, 77, none⟩), .pointer (some ⟨w.heap.size, 0, none⟩), .int .u64 150] 81)).cell? ⟨0, 0, none⟩ = some (.iface 89 (.agg #[.pointer (some ⟨7, 25, none⟩)])) := by
    rw [World.cell?_alloc_lt _ _ ⟨0, 0, none⟩ (by simp), World.cell?_alloc_lt _ _ ⟨0, 0, none⟩ hlt]; exact hg
  have HC := Lib.hid (as_wrp p a r c g o0 o1 o2 ⟨w.heap.size, 0, none⟩ ((w.alloc (.cells #[.pointer (some ⟨g, 0, none⟩)] 77)).alloc (.cells #[.pointer (some ⟨7, 77, none⟩), .pointer (some ⟨w.heap.size, 0, none⟩), .int .u64 150] 81)) (by simp) ((ht.alloc _).alloc _))
  obtain ⟨T, v, hT⟩ := chain_iface ((p, a) :: r) c
  rw [hT] at HC ⊢
  clear hg hT ht
  go_enter Tryd.func34, Tryd.ntmps34
  go_wp2_with fail
  refine HC.out.mono ?_
  rintro e w1 ⟨rfl, w2, hb2, rfl⟩
  have hb := (((Below.refl w.heap.size w).alloc (Nat.le_refl _) (.cells #[.pointer (some ⟨g, 0, none⟩)] 77)).alloc (by simp) (.cells #[.pointer (some ⟨7, 77, none⟩), .pointer (some ⟨w.heap.size, 0, none⟩), .int .u64 150] 81)).trans (hb2.mono (by simp; omega))
  have HB := Lib.hid hb
  clear hb hb2 n8 hg2
  go_wp2
  go_ret
  exact ⟨rfl, w2, HB.out, rfl⟩

theorem Wrp.row {w : World} {g : Nat} {x y z : Value} (h : Wrp w g x y z) (a b c : Value) : Wrp (w.setRow g #[a, b, c]) g a b c := setRow_heap w g _ _ _ _ h
theorem Wrp.rowFar {w : World} {g k : Nat} {x y z : Value} (h : Wrp w g x y z) (hk : g ≠ k) (cs : Array Value) : Wrp (w.setRow k cs) g x y z := (setRow_other w k g cs hk).trans h
theorem below_row {B : Nat} {a w : World} (h : Below B a w) {g : Nat} (hg : B ≤ g) (cs : Array Value) : Below B a (w.setRow g cs) :=
  h.trans ⟨rfl, rfl, rfl, by simp [World.setRow], fun k hk => setRow_other w g k cs (by omega)⟩
set_option maxHeartbeats 4000000 in
set_option maxRecDepth 100000 in
/-- fault.outermost of a wrapped error: it. -/
theorem outer_hit (p : ByteArray) (a : Int) (r : List (ByteArray × Int)) (c : Int) (w : World) (hg : Handle w) :
    Calls Tryd.prog 33 #[chain ((p, a) :: r) c] w fun e w' => e = .returned (.tuple #[.agg #[.string p, .int .i64 a, chain r c], .bool true]) ∧ Below w.heap.size w w' := by
  have hb0 := ((Below.refl w.heap.size w).alloc (Nat.le_refl _) (.cells zeroW 58)).alloc (by simp) (.cells zeroW 58)
  have hr : Wrp ((w.alloc (.cells zeroW 58)).alloc (.cells zeroW 58)) w.heap.size (.string ⟨#[]⟩) (.int .i64 0) .nilIface := (Wrp.new w _ _ _).alloc _
  have hv : Wrp ((w.alloc (.cells zeroW 58)).alloc (.cells zeroW 58)) (w.heap.size + 1) (.string ⟨#[]⟩) (.int .i64 0) .nilIface := by
    have := Wrp.new (w.alloc (.cells zeroW 58)) (.string ⟨#[]⟩) (.int .i64 0) .nilIface
    simp only [World.size_alloc] at this
    exact this
  have HC := Lib.hid (As_wrp p a r c (w.heap.size + 1) _ _ _ ((w.alloc (.cells zeroW 58)).alloc (.cells zeroW 58)) (hg.below hb0 hg.pos) hv)
  obtain ⟨T, v, hT⟩ := chain_iface ((p, a) :: r) c
  rw [hT] at HC ⊢
  obtain ⟨T2, v2, hT2⟩ := chain_iface r c
  rw [hT2] at HC ⊢
  clear hg hT hT2
  have HB0 := Lib.hid (And.intro hb0 (And.intro hr hv))
  clear hb0 hr hv
  go_enter Tryd.func33, Tryd.ntmps33
  go_wp2_with fail
  refine HC.out.mono ?_
  rintro e w1 ⟨rfl, w2, hb2, rfl⟩
  have hv := (HB0.out.2.2.below hb2 (by simp)).row (.string p) (.int .i64 a) (.iface T2 v2)
  have hr := (HB0.out.2.1.below hb2 (by simp; omega)).rowFar (k := w.heap.size + 1) (by omega) #[.string p, .int .i64 a, .iface T2 v2]
  have a0 := hv.cell0
  have a1 := hv.cell1
  have a2 := hv.cell2
  have r0 := hr.cell0
  have r1 := hr.cell1
  have r2 := hr.cell2
  have z0 := hr.frozen 0
  have z1 := hr.frozen 1
  have z2 := hr.frozen 2
  have HB := Lib.hid (below_row (HB0.out.1.trans (hb2.mono (by simp; omega))) (show w.heap.size ≤ w.heap.size + 1 by omega) #[.string p, .int .i64 a, .iface T2 v2])
  have HR := Lib.hid hr
  clear hb2 hr hv HB0
  generalize w2.setRow (w.heap.size + 1) #[.string p, .int .i64 a, .iface T2 v2] = w3 at *
  go_wp2
  have hs := HR.out.set (.string p) (.int .i64 a) (.iface T2 v2)
  have s0 := hs.cell0
  have s1 := hs.cell1
  have s2 := hs.cell2
  exact bodyPost_ret (v := .tuple #[.agg #[.string p, .int .i64 a, .iface T2 v2], .bool true]) (by simp [results, Tryd.results33, go_sem, s0, s1, s2]) rfl
    ⟨rfl, below_set3 HB.out (Nat.le_refl _) _ _ _⟩
end Go.Proofs.YtkogbighpidfhaaDoor
