/- The document's Number; slices of byte lists. -/
import Derived.Test.YtoeohodajoibjaaDoorWT1
import Derived.Test.YtoeohodajoibjaaDoorWA1
namespace Go.Proofs.YtoeohodajoibjaaDoor
open Go.RowKit

set_option maxHeartbeats 1000000 in
set_option maxRecDepth 100000 in
theorem rnumber_any (n : Nat) (w : World) (hn : n ≤ 4294967295) :
    Calls Tryd.prog 13 #[.int .i64 (n : Int)] w (RList w (Wire.nlen n) (Wire.nat7 n)) := by
  have h5 := Wire.nlen_most n hn
  go_enter Tryd.func13, Tryd.ntmps13
  go_wp2
  go_loopw [0, 3] (fun p v wr => ∃ i y : Nat, p = .int .i64 y ∧ Hid (i < Wire.nlen n) ∧ Hid (y = n / 128 ^ i) ∧ Hid (OR wr w.heap.size v i (Wire.nat7 n) ∧ Below w.heap.size w wr)) (fun p _ _ => (intOf p).toNat)
  case atStart => exact ⟨0, n, rfl, Wire.nlen_pos n, by simp [Hid], OR.nil _ _ _, Below.refl _ _⟩
  case round =>
    obtain ⟨i, y, rfl, HL, HY, HO⟩ := hrel
    have hy : y ≤ n := by rw [HY.out]; exact Nat.div_le_self _ _
    have hL := HL.out
    have hb0 : w.heap.size ≤ wr.heap.size := HO.out.2.size
    by_cases hlt : y < 128
    · have h1 : ¬ (128 : Int) ≤ (y : Int) := by omega
      have e1 : IntKind.u8.wrap (y : Int) = (y : Int) := by rw [u8w]; omega
      obtain ⟨ha, hlast⟩ := Wire.nat7_last n i hL (by rw [← HY.out]; exact hlt)
      obtain ⟨b, c, w', hr, ho, hb⟩ := push y HO.out.1 (by omega) hb0 (Wire.nat7 n) (fun _ _ => rfl) (by rw [ha, HY.out])
      have HQ := Lib.hid hr
      have HN := Lib.hid (And.intro ho (HO.out.2.trans hb))
      have HE := Lib.hid hlast
      clear hr ho hb HO HY HL hL ha hlast hy
      go_wp2_with (at_builtin; refine wpList_append_run rfl _ _ 22 rfl _ _ _ w' rfl rfl HQ.out ?_)
      go_ret
      refine ⟨b, c, ?_, ?_, HN.out.2⟩
      · rw [← HE.out]; rfl
      · rw [← HE.out]; exact HN.out.1
    · have h1 : (128 : Int) ≤ (y : Int) := by omega
      obtain ⟨z, hz⟩ : ∃ z, z = y % 128 + 128 := ⟨_, rfl⟩
      obtain ⟨y2, hy2⟩ : ∃ z, z = y / 128 := ⟨_, rfl⟩
      have e1 : (y : Int).tmod 128 = ((z - 128 : Nat) : Int) := by rw [Int.tmod_eq_emod_of_nonneg (by omega)]; omega
      have e2 : (y : Int).tdiv 128 = (y2 : Int) := by rw [Int.tdiv_eq_ediv_of_nonneg (by omega)]; omega
      have e3 : IntKind.u8.wrap (z : Int) = (z : Int) := by rw [u8w]; omega
      have e4 : IntKind.i64.wrap (((z - 128 : Nat) : Int) + 128) = (z : Int) := by rw [i64_nat _ (by omega) (by omega)]; omega
      have e5 : IntKind.i64.wrap (y2 : Int) = (y2 : Int) := i64_nat _ (by omega) (by omega)
      obtain ⟨ha, hmore⟩ := Wire.nat7_more n i hL (by rw [← HY.out]; omega)
      obtain ⟨b, c, w', hr, ho, hb⟩ := push z HO.out.1 (by omega) hb0 (Wire.nat7 n) (fun _ _ => rfl) (by rw [ha, hz, HY.out])
      have HQ := Lib.hid hr
      have HN := Lib.hid (And.intro ho (HO.out.2.trans hb))
      have HY2 := Lib.hid (show y2 = n / 128 ^ (i + 1) by rw [hy2, HY.out, Nat.div_div_eq_div_mul, Nat.pow_succ])
      have HE := Lib.hid hmore
      have HM := Lib.hid (show y2 < y by omega)
      clear hr ho hb HO HY HL hL ha hmore hy hz hy2
      go_wp2_with (at_builtin; refine wpList_append_run rfl _ _ 22 rfl _ _ _ w' rfl rfl HQ.out ?_)
      go_roundw
      case rel => exact ⟨i + 1, y2, rfl, HE, HY2, HN⟩
      case measure => have := HM.out; simp [intOf]; omega

/-- Where a list goes on behind l places. -/
def tl (A : Option Addr) (c l : Nat) : Option Addr := if c = l then A else A.map (·.add l)
theorem add_add (a : Addr) (l i : Nat) : (a.add l).add i = a.add (l + i) := by
  unfold Addr.add
  by_cases h1 : l = 0
  · subst h1; simp
  · by_cases h2 : i = 0
    · subst h2; simp
    · simp [h1, h2]; omega
theorem AtBO.tl {w : World} {A : Option Addr} {n c l k : Nat} {f : Nat → Nat} (h : AtBO w A n f) (hk : l + k ≤ n) (hn : n ≤ c) : AtBO w (tl A c l) k (fun i => f (l + i)) := fun i hi => by
  obtain ⟨ad, rfl, hc⟩ := h (l + i) (by omega)
  refine ⟨ad.add l, ?_, by rw [add_add]; exact hc⟩
  unfold Go.Proofs.YtoeohodajoibjaaDoor.tl
  rw [if_neg (by omega)]
  rfl
theorem elemB : Tryd.prog.elem 22 = 5 := by kernel_rfl
theorem sizeB (w : World) : (sizeOf (Tryd.prog.elem 22)).run Tryd.prog w = .ok 1 w := by
  obtain ⟨i0, hi, _, hz1, _⟩ := infoB
  rw [elemB]
  simp [sizeOf, typeInfo, hi, hz1]
theorem undB : Tryd.prog.underlying 22 = some (.slice (Tryd.prog.elem 22)) := by rw [elemB]; exact Tryd.underlying22
theorem run_tailB (w : World) (A : Option Addr) (n c l : Nat) (hl : l ≤ n) :
    (Instr.slice 22 (.slice A n c) (some (.int .i64 (l : Int))) none none).run Tryd.prog w = .ok (.slice (tl A c l) (n - l) (c - l)) w := by
  have hr := run_slice_l w 22 A n c undB .i64 (l : Int) (by omega) (by omega)
  rw [sizeB] at hr
  rw [hr]
  simp only [Result.andThen, sliced, Int.toNat_natCast, Nat.mul_one]
  rfl
theorem run_midB (w : World) (A : Option Addr) (n c l h : Nat) (hl : l ≤ h) (hc : h ≤ c) :
    (Instr.slice 22 (.slice A n c) (some (.int .i64 (l : Int))) (some (.int .i64 (h : Int))) none).run Tryd.prog w = .ok (.slice (tl A c l) (h - l) (c - l)) w := by
  have hr := run_slice_lh w 22 A n c undB .i64 .i64 (l : Int) (h : Int) (by omega) (by omega) (by omega)
  rw [sizeB] at hr
  rw [hr]
  simp only [Result.andThen, sliced, Int.toNat_natCast, Nat.mul_one]
  rfl
theorem run_headB (w : World) (A : Option Addr) (n c h : Nat) (hc : h ≤ c) :
    (Instr.slice 22 (.slice A n c) none (some (.int .i64 (h : Int))) none).run Tryd.prog w = .ok (.slice A h c) w := by
  have hr := run_slice_h w 22 A n c undB .i64 (h : Int) (by omega) (by omega)
  rw [sizeB] at hr
  rw [hr]
  simp only [Result.andThen, sliced, Int.toNat_natCast, Nat.sub_zero, Nat.zero_mul]
  rcases A with _ | ad
  · simp
  · simp [Addr.add]
end Go.Proofs.YtoeohodajoibjaaDoor
