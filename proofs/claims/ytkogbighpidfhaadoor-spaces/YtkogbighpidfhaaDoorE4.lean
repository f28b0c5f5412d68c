/- errors.As at a chain of the project's own errors, at the target *api.Errno; fault's Code. -/
import Derived.Test.YtkogbighpidfhaaDoorE3
namespace Go.Proofs.YtkogbighpidfhaaDoor
open Go.RowKit Go.Extern.Stop Go.Stop Go.Extern

/-- The listed variable's cell. -/
def Handle (w : World) : Prop := w.cell? ⟨0, 0, none⟩ = some (.iface 89 (.agg #[.pointer (some ⟨7, 25, none⟩)]))
theorem Handle.below {w w' : World} {B : Nat} (h : Handle w) (hb : Below B w w') (hB : 0 < B) : Handle w' := (hb.cell (p := ⟨0, 0, none⟩) hB).trans h
theorem Handle.pos {w : World} (h : Handle w) : 0 < w.heap.size := World.block_lt_of_cell? w ⟨0, 0, none⟩ h

set_option maxHeartbeats 4000000 in
set_option maxRecDepth 100000 in
theorem As_code (ws : List (ByteArray × Int)) (c : Int) (t : Addr) (old : Value) (w : World) (hg : Handle w) (ht : w.cell? t = some old) (hf : w.frozen? t = false) :
    Calls Tryd.prog 34 #[chain ws c, .iface 66 (.pointer (some t))] w (AsSet t (.int .i64 c) w) := by
  have h33 := @run_callFunc_extern Tryd.prog 43 _ (fun args => ReflectliteValue.unpack (args.getD 0 (.tuple #[]))) Tryd.func43 (by kernel_rfl) (by kernel_rfl) (by kernel_rfl) (by kernel_rfl)
  have h34 := @run_callFunc_extern Tryd.prog 44 _ (ReflectliteValue.methodAny (ReflectliteValue.valueError "reflectlite.Value.Type" 0) (fun t _ _ _ => ReflectliteType.toType t)) Tryd.func44 (by kernel_rfl) (by kernel_rfl) (by kernel_rfl) (by kernel_rfl)
  have h35 := @run_callFunc_extern Tryd.prog 45 _ (ReflectliteValue.method (ReflectliteValue.valueError "reflectlite.Value.IsNil" 0) ReflectliteValue.isNil) Tryd.func45 (by kernel_rfl) (by kernel_rfl) (by kernel_rfl) (by kernel_rfl)
  have hKind := @run_callFunc_extern Tryd.prog 92 _ (ReflectliteType.abiMethod fun t => do pure (.int .u8 (← Rtype.kind t))) Tryd.func92 (by kernel_rfl) (by kernel_rfl) (by kernel_rfl) (by kernel_rfl)
  have hElem := @run_callFunc_extern Tryd.prog 104 _ (ReflectliteType.method ReflectliteType.elem) Tryd.func104 (by kernel_rfl) (by kernel_rfl) (by kernel_rfl) (by kernel_rfl)
  have hImpl := @run_callFunc_extern Tryd.prog 105 _ (ReflectliteType.relation "Implements" ReflectliteType.implements_) Tryd.func105 (by kernel_rfl) (by kernel_rfl) (by kernel_rfl) (by kernel_rfl)
  have f1 := e_valueOfP
  have f2 := e_typeP
  have f3 := e_methodKind
  have f4 := e_kindP
  have f5 := e_kindE
  have f6 := e_methodElem
  have f7 := e_methodImplements
  have f8 := e_elemP
  have f9 := e_implE
  have hlt := hg.pos
  have tl := World.block_lt_of_cell? _ _ ht
  have n8 := e_isNilP ⟨w.heap.size, 0, none⟩ t ((w.alloc (.cells #[.pointer (some t)] 66)).alloc (.cells #[.pointer (some ⟨7, 66, none⟩), .pointer (some ⟨w.heap.size, 0, none⟩), .int .u64 150] 81)) (by simp)
  have hg2 : ((w.alloc (.cells #[.pointer (some t)] 66)).alloc (.cells #[.pointer (some ⟨7, 66, none⟩), .pointer (some ⟨w.heap.size, 0, none⟩), .int .u64 150] 81)).cell? ⟨0, 0, none⟩ = some (.iface 89 (.agg #[.pointer (some ⟨7, 25, none⟩)])) := by
    rw [World.cell?_alloc_lt _ _ ⟨0, 0, none⟩ (by simp <;> omega), World.cell?_alloc_lt _ _ ⟨0, 0, none⟩ hlt]; exact hg
  have hc := as_code ws c t ⟨w.heap.size, 0, none⟩ old ((w.alloc (.cells #[.pointer (some t)] 66)).alloc (.cells #[.pointer (some ⟨7, 66, none⟩), .pointer (some ⟨w.heap.size, 0, none⟩), .int .u64 150] 81)) (by simp)
    (by rw [World.cell?_alloc_lt _ _ t (by simp; omega), World.cell?_alloc_lt _ _ t tl]; exact ht)
    (by rw [World.frozen?_alloc_old _ _ t (by simp; omega), World.frozen?_alloc_old _ _ t (Nat.ne_of_lt tl)]; exact hf)
  have HC := Lib.hid hc
  obtain ⟨T, v, hT⟩ := chain_iface ws c
  rw [hT] at HC ⊢
  clear hc hg ht hf hT
  go_enter Tryd.func34, Tryd.ntmps34
  go_wp2_with fail
  refine HC.out.mono ?_
  rintro e w1 ⟨rfl, w2, hb2, rfl⟩
  have hb := (((Below.refl w.heap.size w).alloc (Nat.le_refl _) (.cells #[.pointer (some t)] 66)).alloc (by simp) (.cells #[.pointer (some ⟨7, 66, none⟩), .pointer (some ⟨w.heap.size, 0, none⟩), .int .u64 150] 81)).trans (hb2.mono (by simp; omega))
  have HB := Lib.hid hb
  clear hb hb2 n8 hg2
  go_wp2
  go_ret
  exact ⟨rfl, w2, HB.out, rfl⟩

set_option maxHeartbeats 4000000 in
set_option maxRecDepth 100000 in
/-- fault.Code of a chain: its number. -/
theorem code_chain (ws : List (ByteArray × Int)) (c : Int) (w : World) (hg : Handle w) :
    Calls Tryd.prog 20 #[chain ws c] w fun e w' => e = .returned (.int .i64 c) ∧ Below w.heap.size w w' := by
  have hc := As_code ws c ⟨w.heap.size, 0, none⟩ (.int .i64 0) (w.alloc (.cells #[.int .i64 0] 41)) (hg.below ((Below.refl w.heap.size w).alloc (Nat.le_refl _) _) hg.pos) (by simp) (by simp)
  have HC := Lib.hid hc
  obtain ⟨T, v, hT⟩ := chain_iface ws c
  rw [hT] at HC ⊢
  clear hc hg hT
  go_enter Tryd.func20, Tryd.ntmps20
  go_wp2_with fail
  refine HC.out.mono ?_
  rintro e w1 ⟨rfl, w2, hb2, rfl⟩
  have hc2 : (w2.setCell ⟨w.heap.size, 0, none⟩ (.int .i64 c)).cell? ⟨w.heap.size, 0, none⟩ = some (.int .i64 c) := by
    have h0 : w2.heap[w.heap.size]? = some (.cells #[.int .i64 0] 41 (0, 0)) := by
      rw [hb2.block _ (by simp)]; exact heap_alloc_new w _
    simp [World.cell?, World.setCell, Array.getElem?_modify, h0]
  have hb := ((Below.refl w.heap.size w).alloc (Nat.le_refl _) (.cells #[.int .i64 0] 41)).trans (hb2.mono (by simp))
  have HB := Lib.hid (hb.setCell (p := ⟨w.heap.size, 0, none⟩) (Nat.le_refl _) (.int .i64 c))
  clear hb hb2
  generalize w2.setCell ⟨w.heap.size, 0, none⟩ (.int .i64 c) = w3 at *
  go_wp2
  go_ret
  exact ⟨rfl, HB.out⟩
set_option maxHeartbeats 400000 in
/-- fault.Code of nil: OK. -/
theorem code_nil (w : World) : Calls Tryd.prog 20 #[.nilIface] w fun e w' => e = .returned (.int .i64 0) ∧ w = w' := by
  go_enter Tryd.func20, Tryd.ntmps20
  go_wp2
  go_ret
  exact ⟨rfl, rfl⟩
end Go.Proofs.YtkogbighpidfhaaDoor
