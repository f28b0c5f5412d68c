/- The contract of aes' Word. -/
import Derived.Test.YtecdfjcncgcegaaDoorAL3
import Derived.Test.YtecdfjcncgcegaaDoorAB7
import Derived.Test.YtecdfjcncgcegaaDoorAB4
namespace Go.Proofs.YtecdfjcncgcegaaDoor
open Go.RowKit

/-- The word n of a stream. -/
def wordN (k : Nat → Nat) (n : Nat) : Nat := Aes.psum (Aes.enc k (Aes.labB (n / 2) 0)) (8 * (n % 2)) 8
theorem psum8_lt (f : Nat → Nat) (o : Nat) (hf : ∀ i, f i < 256) : Aes.psum f o 8 < 18446744073709551616 := Aes.psum_lt f o hf 8
theorem enc_lt {k f : Nat → Nat} (hk : ∀ i, k i < 256) (hf : ∀ i, f i < 256) (i : Nat) : Aes.enc k f i < 256 := encGo_lt hk hf 10 i
abbrev labN (a b : Nat) : Value := .agg #[.int .u64 (a : Int), .int .u64 (b : Int)]
theorem blockOf_zero (a : Nat) (w : World) (ha : a < 18446744073709551616) :
    Calls Tryd.prog 44 #[.agg #[.int .u64 (a : Int), .int .u64 0]] w fun e w' => e = .returned (.agg (bys 16 (Aes.labB a 0))) ∧ Below w.heap.size w w' := blockOf_any a 0 w ha (by omega)
theorem idx0 (w : World) (x y : Int) : (Instr.index 39 (.agg #[.int .u64 x, .int .u64 y]) (.int .u64 0)).run Tryd.prog w = .ok (.int .u64 x) w := by
  obtain ⟨i0, hi, _, hz1, _⟩ := info_parts Tryd.info27
  have hs : (sizeOf 27).run Tryd.prog w = .ok 1 w := by simp [sizeOf, typeInfo, hi, hz1]
  simp [Instr.index, go_sem, run_underlying Tryd.underlying39, hs]
theorem idx1 (w : World) (x y : Int) : (Instr.index 39 (.agg #[.int .u64 x, .int .u64 y]) (.int .u64 1)).run Tryd.prog w = .ok (.int .u64 y) w := by
  obtain ⟨i0, hi, _, hz1, _⟩ := info_parts Tryd.info27
  have hs : (sizeOf 27).run Tryd.prog w = .ok 1 w := by simp [sizeOf, typeInfo, hi, hz1]
  simp [Instr.index, go_sem, run_underlying Tryd.underlying39, hs]
set_option maxHeartbeats 1000000 in
set_option maxRecDepth 100000 in
theorem word_any (g : Nat) (k : Nat → Nat) (n : Nat) (w : World) (hc : Ciph w g k) (hk : ∀ i, k i < 256) (hn : n < 18446744073709551616) :
    Calls Tryd.prog 32 #[.pointer (some ⟨g, 0, none⟩), .int .u64 (n : Int)] w fun e w' => e = .returned (.int .u64 (wordN k n : Int)) ∧ Below w.heap.size w w' := by
  obtain ⟨m, hm⟩ : ∃ m, m = n / 2 := ⟨_, rfl⟩
  have e1 : (n : Int) / 2 = (m : Int) := by omega
  have HM := Lib.hid hm
  have HG := Lib.hid hc
  have HK := Lib.hid hk
  have hm2 : m < 18446744073709551616 := by omega
  clear hm hc hk
  by_cases h0 : n % 2 = 0
  · have e2 : (n : Int) % 2 = 0 := by omega
    have i0 := idx0
    have H0 := Lib.hid h0
    clear h0
    go_enter Tryd.func32, Tryd.ntmps32
    go_wp2_with fail
    refine (blockOf_zero m _ hm2).mono ?_
    rintro e w1 ⟨rfl, hb1⟩
    have HC1 : Ciph w1 g k := OwnB.below HG.out hb1 (OwnB.lt HG.out)
    go_wp2_with fail
    refine (encrypt_any g k _ _ HC1 (Aes.labB_lt m 0) HK.out).mono ?_
    rintro e w2 ⟨rfl, hb2⟩
    go_wp2_with fail
    refine (labelOf_any _ _ (enc_lt HK.out (Aes.labB_lt m 0))).mono ?_
    rintro e w3 ⟨rfl, hb3⟩
    have HB := Lib.hid ((hb1.trans (hb2.mono hb1.size)).trans (hb3.mono (hb1.trans (hb2.mono hb1.size)).size))
    clear hb1 hb2 hb3 HC1
    go_wp2
    go_ret
    exact ⟨ret_int (by unfold wordN; rw [H0.out, ← HM.out]), HB.out⟩
  · have e2 : (n : Int) % 2 = 1 := by omega
    have i1 := idx1
    have H0 := Lib.hid (show n % 2 = 1 by omega)
    clear h0
    go_enter Tryd.func32, Tryd.ntmps32
    go_wp2_with fail
    refine (blockOf_zero m _ hm2).mono ?_
    rintro e w1 ⟨rfl, hb1⟩
    have HC1 : Ciph w1 g k := OwnB.below HG.out hb1 (OwnB.lt HG.out)
    go_wp2_with fail
    refine (encrypt_any g k _ _ HC1 (Aes.labB_lt m 0) HK.out).mono ?_
    rintro e w2 ⟨rfl, hb2⟩
    go_wp2_with fail
    refine (labelOf_any _ _ (enc_lt HK.out (Aes.labB_lt m 0))).mono ?_
    rintro e w3 ⟨rfl, hb3⟩
    have HB := Lib.hid ((hb1.trans (hb2.mono hb1.size)).trans (hb3.mono (hb1.trans (hb2.mono hb1.size)).size))
    clear hb1 hb2 hb3 HC1
    go_wp2
    go_ret
    exact ⟨ret_int (by unfold wordN; rw [H0.out, ← HM.out]), HB.out⟩
theorem infoLab : (Tryd.prog.info? 39).map (·.size) = some 2 := by kernel_rfl
/-- What a call answers that has a label for its result. -/
theorem res_lab {fn : Func} {p : Tmp} (hr : fn.results = #[.cell p 39]) (tmps : Array Value) (w : World) (g : Nat) {x y : Int} (hp : tmps.getD p undef = .pointer (some ⟨g, 0, none⟩)) (h : Lbl w g x y) : (results fn tmps).run Tryd.prog w = .ok (lab x y) w :=
  results_cell_row hr tmps w g _ _ _ _ hp h Tryd.underlying39 rfl infoLab
end Go.Proofs.YtecdfjcncgcegaaDoor
