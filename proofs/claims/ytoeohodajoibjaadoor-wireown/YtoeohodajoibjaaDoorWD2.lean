/- Contract of the document's Digest. -/
import Derived.Test.YtoeohodajoibjaaDoorWD1
namespace Go.Proofs.YtoeohodajoibjaaDoor
open Go.RowKit

set_option maxHeartbeats 2000000 in
set_option maxRecDepth 100000 in
theorem rdigest_any (A : Option Addr) (n c : Nat) (f : Nat → Nat) (w : World) (hA : AtBO w A n f) (hn : n ≤ maxLen) (hf : ∀ i, f i < 256) :
    Calls Tryd.prog 22 #[.slice A n c] w fun e w' => e = .returned (lab (dg f n 0) (dg f n 1)) ∧ Below w.heap.size w w' := by
  have HA := Lib.hid (And.intro hA hf)
  have hm : (n : Int) < 9223372036854775808 := by unfold maxLen at hn; omega
  clear hA hf hn
  have HI := Lib.hid (DgI.start w)
  go_enter Tryd.func22, Tryd.ntmps22
  go_wp2
  generalize ((w.alloc (.cells #[.int .u64 0, .int .u64 0] 47)).alloc (.cells #[.int .u64 0, .int .u64 0] 47)) = w0 at HI ⊢
  go_loopw [4] (fun p wr => ∃ k : Nat, k ≤ 2 ∧ p = .int .i64 k ∧ Hid (DgI w (fun q => if q < k then dg f n q else 0) wr)) (fun p _ => 2 - (intOf p).toNat)
  case atStart => exact ⟨0, by omega, rfl, HI.out⟩
  case round =>
    clear HI
    obtain ⟨k, hk, rfl, HK⟩ := hrel
    by_cases hlt : k < 2
    · have ew := st_wrap k hlt
      have e0 : IntKind.u64.wrap (k : Int) = (k : Int) := by rw [u64w]; omega
      have hk2 : (k : Int) < 2 := by omega
      go_wp2
      obtain ⟨wo, hwo⟩ : ∃ z, z = wr := ⟨_, rfl⟩
      subst hwo
      go_loopw [5, 6] (fun d p wr => ∃ i : Nat, i ≤ n ∧ d = .int .u64 (dg f i k : Int) ∧ p = .int .i64 i ∧ Hid (wr = wo)) (fun _ p _ => n - (intOf p).toNat)
      case atStart => exact ⟨0, by omega, rfl, rfl, rfl⟩
      case round =>
        obtain ⟨i, hi, rfl, rfl, HW⟩ := hrel
        obtain rfl := HW.out
        by_cases hin : i < n
        · obtain ⟨ad, rfl, hc⟩ := (HA.out.1.below HK.out.1) i hin
          have hfi := HA.out.2 i
          have hd : dg f i k < 18446744073709551616 := Wire.fnv_lt _ _ (st_lt k hlt) i
          have e1 : IntKind.u64.wrap (f i : Int) = (f i : Int) := by rw [u64w]; omega
          have e2 := fstep_word (dg f i k) (f i) hd hfi
          have e3 : IntKind.i64.wrap ((i : Int) + 1) = (i : Int) + 1 := i64_nat _ (by omega) (by omega)
          have hin2 : (i : Int) < (n : Int) := by omega
          have HD := Lib.hid (show Wire.fstep (dg f i k) (f i) = dg f (i + 1) k from rfl)
          clear hfi hd
          go_wp2
          go_roundw
          case rel => exact ⟨i + 1, by omega, by rw [HD.out], by go_num, Lib.hid trivial⟩
          case measure => simp [intOf]; omega
        · obtain rfl : i = n := by omega
          have e3 : IntKind.i64.wrap ((k : Int) + 1) = (k : Int) + 1 := i64_nat _ (by omega) (by omega)
          have c1 := HK.out.2.2.cell k hlt
          have z1 := HK.out.2.2.frozen k
          have HS := Lib.hid ((HK.out.set k (dg f i k) hlt).congr (b := fun q => if q < k + 1 then dg f i q else 0) (fun q _ => by
            by_cases e : q = k
            · subst e; rw [if_pos rfl, if_pos (by omega)]
            · rw [if_neg e]
              by_cases e2 : q < k
              · rw [if_pos e2, if_pos (by omega)]
              · rw [if_neg e2, if_neg (by omega)]))
          go_wp2
          go_roundw
          case rel => exact ⟨k + 1, by omega, by go_num, HS.out⟩
          case measure => simp [intOf]; omega
    · obtain rfl : k = 2 := by omega
      have hN := HK.out.congr (b := dg f n) (fun q hq => by rw [if_pos hq])
      have a0 := hN.2.2.cell 0 (by omega)
      have a1 := hN.2.2.cell 1 (by omega)
      have r0 := hN.2.1.cell 0 (by omega)
      have r1 := hN.2.1.cell 1 (by omega)
      have z0 := hN.2.1.frozen 0
      have z1 := hN.2.1.frozen 1
      have HN := Lib.hid hN
      clear hN HK
      go_wp2
      have hs := (HN.out.2.1.set 0 (dg f n 0) (by omega)).set 1 (dg f n 1) (by omega)
      have s0 := hs.cell 0 (by omega)
      have s1 := hs.cell 1 (by omega)
      simp only [Nat.zero_ne_one, if_false, if_true] at s0 s1
      exact bodyPost_ret (v := lab (dg f n 0) (dg f n 1)) (by simp [results, Tryd.results22, go_sem, s0, s1]) rfl
        ⟨rfl, (HN.out.1.setCell (p := ⟨w.heap.size, 0, none⟩) (Nat.le_refl _) _).setCell (p := ⟨w.heap.size, 1, none⟩) (Nat.le_refl _) _⟩
end Go.Proofs.YtoeohodajoibjaaDoor
