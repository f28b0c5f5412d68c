/- Contracts of the laws' small functions: the document's Colours, Outs, Same where it says yes; zeros, small. -/
import Derived.Test.YtamejhhjfnfalaaDoorMH
namespace Go.Proofs.YtamejhhjfnfalaaDoor
open Go.RowKit
open Rely (upd)

set_option maxHeartbeats 2000000 in
set_option maxRecDepth 100000 in
theorem rcolours_any (w : World) (A : Option Addr) (n c : Nat) (L : Nat → Lab) (hA : AtV w A (n * 2) (lv L)) (hn : n ≤ maxLen) :
    Calls Tryd.prog 25 #[.slice A n c] w fun e w' => e = .returned (.int .u64 (wordN (fun i => Garb.ncol (L i)) (min n 64) : Int)) ∧ Below w.heap.size w w' := by
  obtain ⟨M, hM⟩ : ∃ M, min n 64 = M := ⟨_, rfl⟩
  obtain ⟨f, hf⟩ : ∃ f : Nat → Bool, (fun i => Garb.ncol (L i)) = f := ⟨_, rfl⟩
  have HM := Lib.hid (show M ≤ n ∧ M ≤ 64 ∧ (M = n ∨ M = 64) by omega)
  rw [hM, hf]
  have HA := Lib.hid hA
  have Hf := Lib.hid hf
  have HN := Lib.hid hn
  clear hM hA hf hn
  go_enter Tryd.func25, Tryd.ntmps25
  go_wp2
  go_loopw [3, 4] (fun x i wr => ∃ k : Nat, k ≤ M ∧ x = .int .u64 (wordN f k : Int) ∧ i = .int .i64 k ∧ Hid (Below w.heap.size w wr)) (fun _ i _ => M - (intOf i).toNat)
  case atStart => exact ⟨0, Nat.zero_le _, rfl, rfl, Below.refl _ _⟩
  case round =>
    obtain ⟨k, hk, rfl, rfl, HI⟩ := hrel
    by_cases hlt : k < M
    · obtain ⟨ad, rfl, ae, hae, ca, cb, hblk⟩ := (HA.out.below HI.out).lab k (by have := HM.out; omega)
      have lt2 : (k : Int) < (n : Int) := by have := HM.out; omega
      have lt3 : (k : Int) < 64 := by have := HM.out; omega
      have lt0 : (0 : Int) ≤ (k : Int) := by omega
      have e1 : IntKind.i64.wrap ((k : Int) + 1) = (k : Int) + 1 := i64_nat _ (by omega) (by have := HM.out; omega)
      have hp : 2 ^ k < 2 ^ 64 := shl_bit k (by have := HM.out; omega)
      have ep : ((2 ^ k : Nat) : Int) = (2 : Int) ^ k := by push_cast; rfl
      have hmin : min k 64 = k := by have := HM.out; omega
      obtain ⟨p, hpp⟩ : ∃ p, 2 ^ k = p := ⟨_, rfl⟩
      have hfk : f k = Garb.ncol (L k) := by rw [← Hf.out]
      have HD := Lib.hid (show wordN f (k + 1) = if f k then wordN f k + p else wordN f k by rw [← hpp]; rfl)
      have hwl := wordN_lt f k
      have hwl2 := wordN_lt f (k + 1)
      have hp2 : 2 ^ (k + 1) ≤ 2 ^ 64 := Nat.pow_le_pow_right (by omega) (by have := HM.out; omega)
      rw [hpp] at hp ep hwl
      have HLt := Lib.hid hlt
      have HC := Lib.hid (rcolour_any (L k) wr)
      have hcol : colN (L k) = if f k then 1 else 0 := by unfold colN; rw [← hfk]
      rw [hcol] at HC
      clear hlt hblk hfk hcol
      cases hf : f k with
      | false =>
        rw [hf] at HC
        have e2 : IntKind.u64.wrap (0 * (2 : Int) ^ k) = 0 := by rw [Int.zero_mul]; rfl
        have e3 : IntKind.u64.wrap ((wordN f k : Int) + 0) = (wordN f k : Int) := by rw [u64w]; omega
        have e4 : IntKind.u64.wrap (wordN f k : Int) = (wordN f k : Int) := by rw [u64w]; omega
        have HE := Lib.hid (show wordN f (k + 1) = wordN f k by rw [HD.out, hf]; rfl)
        clear hf hp ep hwl hwl2 hp2 hpp
        go_wp2_with fail
        refine HC.out.mono ?_
        rintro e w2 ⟨rfl, hb2⟩
        have HB := Lib.hid (HI.out.trans (hb2.mono HI.out.size))
        clear hb2
        go_wp2
        go_roundw
        case rel => exact ⟨k + 1, by have := HLt.out; omega, by rw [HE.out], by go_num, HB.out⟩
        case measure => simp [intOf]; have := HLt.out; omega
      | true =>
        rw [hf] at HC
        have e2 : IntKind.u64.wrap (1 * (2 : Int) ^ k) = (p : Int) := by rw [Int.one_mul, ← ep, u64w]; omega
        have e5 : IntKind.u64.wrap ((2 : Int) ^ k) = (p : Int) := by rw [← ep, u64w]; omega
        have e6 : IntKind.u64.wrap ((2 : Int) ^ (min k 64)) = (p : Int) := by rw [hmin]; exact e5
        have HE := Lib.hid (show wordN f (k + 1) = wordN f k + p by rw [HD.out, hf]; rfl)
        have e7 : IntKind.u64.wrap ((wordN f k : Int) + (p : Int)) = ((wordN f k + p : Nat) : Int) := by rw [u64w]; have := HE.out; omega
        clear hf hp ep hwl hwl2 hp2 hpp hmin
        go_wp2_with fail
        refine HC.out.mono ?_
        rintro e w2 ⟨rfl, hb2⟩
        have HB := Lib.hid (HI.out.trans (hb2.mono HI.out.size))
        clear hb2
        go_wp2
        go_roundw
        case rel => exact ⟨k + 1, by have := HLt.out; omega, by rw [HE.out, Int.natCast_add], by go_num, HB.out⟩
        case measure => simp [intOf]; have := HLt.out; omega
    · obtain rfl : k = M := by omega
      clear hlt hk
      by_cases hkn : k = n
      · have lt2 : ¬ (k : Int) < (n : Int) := by omega
        have lt2d : decide ((k : Int) < (n : Int)) = false := decide_eq_false lt2
        have lt2n : ¬ k < n := by omega
        clear hkn
        go_wp2
        go_ret
        exact ⟨rfl, HI.out⟩
      · have lt2 : (k : Int) < (n : Int) := by have := HM.out; omega
        have lt3 : ¬ (k : Int) < 64 := by have := HM.out; omega
        have lt3d : decide ((k : Int) < 64) = false := decide_eq_false lt3
        have lt3n : ¬ k < 64 := by omega
        clear hkn
        go_wp2
        go_ret
        exact ⟨rfl, HI.out⟩
set_option maxHeartbeats 2000000 in
set_option maxRecDepth 100000 in
theorem same_yes (w : World) (A : Option Addr) (n c : Nat) (Lb : Nat → Lab) (A2 : Option Addr) (c2 : Nat) (hA : AtV w A (n * 2) (lv Lb)) (hA2 : AtV w A2 (n * 2) (lv Lb)) (hn : n ≤ maxLen) :
    Calls Tryd.prog 12 #[.slice A n c, .slice A2 n c2] w fun e w' => e = .returned (.bool true) ∧ Below w.heap.size w w' := by
  have HA := Lib.hid (And.intro hA hA2)
  have HN := Lib.hid (show (n : Int) ≤ 9223372036854775807 by unfold maxLen at hn; omega)
  have k1 : ((n : Int) != (n : Int)) = false := by simp
  clear hA hA2 hn
  go_enter Tryd.func12, Tryd.ntmps12
  go_wp2
  clear k1
  go_loopw [13] (fun i wr => ∃ k : Nat, k ≤ n ∧ i = .int .i64 k ∧ Hid (Below w.heap.size w wr)) (fun i _ => n - (intOf i).toNat)
  case atStart => exact ⟨0, Nat.zero_le _, rfl, Below.refl _ _⟩
  case round =>
    obtain ⟨k, hk, rfl, HI⟩ := hrel
    by_cases hlt : k < n
    · obtain ⟨ad, rfl, ae, hae, ca, cb, hblk⟩ := (HA.out.1.below HI.out).lab k hlt
      obtain ⟨ad2, rfl, ae2, hae2, ca2, cb2, hblk2⟩ := (HA.out.2.below HI.out).lab k hlt
      have HX := Lib.hid (And.intro (And.intro ca cb) (And.intro ca2 cb2))
      have lt2 : (k : Int) < (n : Int) := by omega
      have lt0 : (0 : Int) ≤ (k : Int) := by omega
      have e1 : IntKind.i64.wrap ((k : Int) + 1) = (k : Int) + 1 := i64_nat _ (by omega) (by have := HN.out; omega)
      have HLt := Lib.hid hlt
      clear hlt hblk hblk2 ca cb ca2 cb2
      go_wp2
      refine Rely.region (G := Nat) (vs := [fun _ => .slice (some ad) n c, fun _ => .int .i64 (k : Int), fun _ => .pointer (some ae), fun _ => labL (Lb k), fun _ => .slice (some ad2) n c2, fun _ => .int .i64 (k : Int), fun _ => .pointer (some ae2), fun _ => labL (Lb k), fun _ => .bool false]) (F := fun _ _ w' => Below wr.heap.size wr w') (by kernel_rfl) (by kernel_rfl) rfl (fun _ => 0) (drew_below wr) ?hsteps ?hend
      case hsteps =>
        refine Rely.Steps.cons (fun L γ ev wv hL hE hF hC hCf hO hV => ?_) ?_
        · clear hL
          have v0 : ev (.tmp 0) = .slice (some ad) n c := (hO 0 (by kernel_rfl)).trans rfl
          clear hE hO hV
          exact Rely.Good.value 0 (u := .slice (some ad) n c) (by go_simp) (fun _ _ => rfl) hF
        refine Rely.Steps.cons (fun L γ ev wv hL hE hF hC hCf hO hV => ?_) ?_
        · clear hL
          have v5 : ev (.tmp 5) = .int .i64 (k : Int) := (hO 5 (by kernel_rfl)).trans rfl
          clear hE hO hV
          exact Rely.Good.value 0 (u := .int .i64 (k : Int)) (by go_simp) (fun _ _ => rfl) hF
        refine Rely.Steps.cons (fun L γ ev wv hL hE hF hC hCf hO hV => ?_) ?_
        · clear hL
          have hL0 : L 0 = true := hE _ (Array.mem_of_getElem? (i := 0) rfl) rfl
          have v16 : ev (.tmp 16) = .slice (some ad) n c := hV 0 16 hL0 rfl
          have hL1 : L 1 = true := hE _ (Array.mem_of_getElem? (i := 1) rfl) rfl
          have v17 : ev (.tmp 17) = .int .i64 (k : Int) := hV 1 17 hL1 rfl
          clear hE hO hV
          exact Rely.Good.value 0 (u := .pointer (some ae)) (by go_simp) (fun _ _ => rfl) hF
        refine Rely.Steps.cons (fun L γ ev wv hL hE hF hC hCf hO hV => ?_) ?_
        · clear hL
          have hL2 : L 2 = true := hE _ (Array.mem_of_getElem? (i := 0) rfl) rfl
          have v18 : ev (.tmp 18) = .pointer (some ae) := hV 2 18 hL2 rfl
          clear hE hO hV
          have q0 := (hF.cell (World.block_lt_of_cell? _ _ HX.out.1.1)).trans HX.out.1.1
          have q1 := (hF.cell (World.block_lt_of_cell? _ _ HX.out.1.2)).trans HX.out.1.2
          have HF := Lib.hid hF
          clear hF
          exact Rely.Good.value 0 (u := labL (Lb k)) (by go_simp) (fun _ _ => rfl) HF.out
        refine Rely.Steps.cons (fun L γ ev wv hL hE hF hC hCf hO hV => ?_) ?_
        · clear hL
          have v1 : ev (.tmp 1) = .slice (some ad2) n c2 := (hO 1 (by kernel_rfl)).trans rfl
          clear hE hO hV
          exact Rely.Good.value 0 (u := .slice (some ad2) n c2) (by go_simp) (fun _ _ => rfl) hF
        refine Rely.Steps.cons (fun L γ ev wv hL hE hF hC hCf hO hV => ?_) ?_
        · clear hL
          have v5 : ev (.tmp 5) = .int .i64 (k : Int) := (hO 5 (by kernel_rfl)).trans rfl
          clear hE hO hV
          exact Rely.Good.value 0 (u := .int .i64 (k : Int)) (by go_simp) (fun _ _ => rfl) hF
        refine Rely.Steps.cons (fun L γ ev wv hL hE hF hC hCf hO hV => ?_) ?_
        · clear hL
          have hL4 : L 4 = true := hE _ (Array.mem_of_getElem? (i := 0) rfl) rfl
          have v20 : ev (.tmp 20) = .slice (some ad2) n c2 := hV 4 20 hL4 rfl
          have hL5 : L 5 = true := hE _ (Array.mem_of_getElem? (i := 1) rfl) rfl
          have v21 : ev (.tmp 21) = .int .i64 (k : Int) := hV 5 21 hL5 rfl
          clear hE hO hV
          exact Rely.Good.value 0 (u := .pointer (some ae2)) (by go_simp) (fun _ _ => rfl) hF
        refine Rely.Steps.cons (fun L γ ev wv hL hE hF hC hCf hO hV => ?_) ?_
        · clear hL
          have hL6 : L 6 = true := hE _ (Array.mem_of_getElem? (i := 0) rfl) rfl
          have v22 : ev (.tmp 22) = .pointer (some ae2) := hV 6 22 hL6 rfl
          clear hE hO hV
          have q0 := (hF.cell (World.block_lt_of_cell? _ _ HX.out.2.1)).trans HX.out.2.1
          have q1 := (hF.cell (World.block_lt_of_cell? _ _ HX.out.2.2)).trans HX.out.2.2
          have HF := Lib.hid hF
          clear hF
          exact Rely.Good.value 0 (u := labL (Lb k)) (by go_simp) (fun _ _ => rfl) HF.out
        refine Rely.Steps.cons (fun L γ ev wv hL hE hF hC hCf hO hV => ?_) ?_
        · clear hL
          have hL3 : L 3 = true := hE _ (Array.mem_of_getElem? (i := 0) rfl) rfl
          have v19 : ev (.tmp 19) = labL (Lb k) := hV 3 19 hL3 rfl
          have hL7 : L 7 = true := hE _ (Array.mem_of_getElem? (i := 1) rfl) rfl
          have v23 : ev (.tmp 23) = labL (Lb k) := hV 7 23 hL7 rfl
          clear hE hO hV
          have hq := Ae.run_eql_lab
          exact Rely.Good.value 0 (u := .bool false) (by go_simp) (fun _ _ => rfl) hF
        exact Rely.Steps.nil
      case hend =>
        intro γ w2 hF
        have HB := Lib.hid (HI.out.trans (hF.mono HI.out.size))
        clear hF
        simp only [Rely.fin, Act.put, List.setIfInBounds_toArray, List.set_cons_zero, List.set_cons_succ]
        go_wp2
        go_roundw
        case rel => exact ⟨k + 1, by have := HLt.out; omega, by go_num, HB.out⟩
        case measure => simp [intOf]; have := HLt.out; omega
    · obtain rfl : k = n := by omega
      have lt1 : ¬ (k : Int) < (k : Int) := by omega
      clear hlt hk
      go_wp2
      go_ret
      exact ⟨rfl, HI.out⟩
set_option maxHeartbeats 2000000 in
set_option maxRecDepth 100000 in
theorem outs_any (w : World) (Ao : Option Addr) (m co : Nat) (o : Nat → Int) (A : Option Addr) (n c : Nat) (L : Nat → Lab) (ho : AtV w Ao m (iv o)) (hA : AtV w A (n * 2) (lv L)) (hm : m ≤ 1000000) (hio : ∀ i, i < m → 0 ≤ o i ∧ o i < n) :
    Calls Tryd.prog 17 #[.slice Ao m co, .slice A n c] w fun e w' => ∃ v, e = .returned v ∧ Row w' w.heap.size 28 2 v m (lv fun i => L (o i).toNat) ∧ Below w.heap.size w w' := by
  have HA := Lib.hid (And.intro ho (And.intro hA (And.intro hm hio)))
  clear ho hA hm hio
  go_enter Tryd.func17, Tryd.ntmps17
  go_wp2
  go_loopw [5, 6] (fun v' i wr => ∃ k : Nat, ∃ v, k ≤ m ∧ v = v' ∧ i = .int .i64 k ∧ Hid (Row wr w.heap.size 28 2 v k (lv fun i => L (o i).toNat) ∧ Below w.heap.size w wr)) (fun _ i _ => m - (intOf i).toNat)
  case atStart => exact ⟨0, _, Nat.zero_le _, rfl, rfl, Row.nil _ _ _ _ _, Below.refl _ _⟩
  case round =>
    obtain ⟨k, v, hk, rfl, rfl, HI⟩ := hrel
    by_cases hlt : k < m
    · obtain ⟨ad, rfl, co1⟩ := (HA.out.1.below HI.out.2) k hlt
      unfold iv at co1
      obtain ⟨a, ha, hal⟩ : ∃ a : Nat, o k = (a : Int) ∧ a < n := by
        have := HA.out.2.2.2 k hlt
        exact ⟨(o k).toNat, by omega, by omega⟩
      obtain ⟨ad2, rfl, ae, hae, ca, cb, hblk⟩ := (HA.out.2.1.below HI.out.2).lab a hal
      rw [ha] at co1
      have lt2 : (k : Int) < (m : Int) := by omega
      have lt0 : (0 : Int) ≤ (k : Int) := by omega
      have la1 : (a : Int) < (n : Int) := by omega
      have la0 : (0 : Int) ≤ (a : Int) := by omega
      have e1 : IntKind.i64.wrap ((k : Int) + 1) = (k : Int) + 1 := i64_nat _ (by omega) (by have := HA.out.2.2.1; omega)
      have hsr := HI.out.2.size
      have hown := HI.out.1.own
      obtain ⟨g, kk, w5, hr, hgB, hR5, hgr, _⟩ := append_one eltL wr w.heap.size v k (lv fun i => L (o i).toNat) (lv fun _ => L a) #[.int .u64 ((L a).1 : Int), .int .u64 ((L a).2 : Int)] HI.out.1 (fun j hj => by
        rcases (show j = 0 ∨ j = 1 by omega) with rfl | rfl <;> rfl) (lv_one _) (by have := HA.out.2.2.1; omega) (by have := HA.out.2.2.1; unfold maxLen; omega) hsr
      have hb5 : Below w.heap.size w w5 := (HI.out.2.alloc hsr (.cells #[.int .u64 ((L a).1 : Int), .int .u64 ((L a).2 : Int)] 28)).grown hgr (by simp; omega) (fun q hq => (hown q hq).1)
      have HR := Lib.hid hr
      have HF := Lib.hid (And.intro (hR5.congr (G := lv fun i => L (o i).toNat) (lv_next (fun i _ => rfl) (by show L (o k).toNat = L a; rw [ha, Int.toNat_natCast]))) hb5)
      have HLt := Lib.hid hlt
      clear hlt hal ha hsr hown hr hgB hR5 hgr hb5 HI hblk
      go_wp2_with (at_builtin; refine wpList_append_run rfl _ _ 29 rfl v (.slice (some ⟨wr.heap.size, 0, none⟩) 1 1) (.slice (some ⟨g, 0, none⟩) (k + 1) kk) w5 rfl rfl (HR.out _) ?_)
      go_roundw
      case rel => exact ⟨k + 1, _, by have := HLt.out; omega, rfl, by go_num, HF.out.1, HF.out.2⟩
      case measure => simp [intOf]; have := HLt.out; omega
    · obtain rfl : k = m := by omega
      have lt1 : ¬ (k : Int) < (k : Int) := by omega
      clear hlt hk
      go_wp2
      go_ret
      exact ⟨v, rfl, HI.out.1, HI.out.2⟩
set_option maxHeartbeats 400000 in
theorem small_any (w : World) (N : Int) (Ag : Option Addr) (n cg : Nat) (Ao : Option Addr) (m co : Nat) :
    Calls Tryd.prog 9 #[circV N Ag n cg Ao m co] w fun e w' => e = .returned (.bool (decide (n ≤ 60) && decide (N ≤ 200))) ∧ Below w.heap.size w w' := by
  have HB := Lib.hid ((Below.refl w.heap.size w).alloc (Nat.le_refl _) (.cells #[.int .i64 N, .slice Ag n cg, .slice Ao m co] 25))
  have HX := Blk.new w 25 #[.int .i64 N, .slice Ag n cg, .slice Ao m co]
  have c0 := HX.cell 0 (v := .int .i64 N) rfl
  have c1 := HX.cell 1 (v := .slice Ag n cg) rfl
  clear HX
  by_cases h : n ≤ 60
  · have h1 : (n : Int) ≤ 60 := by omega
    have h2 : decide (n ≤ 60) = true := decide_eq_true h
    rw [h2, Bool.true_and]
    clear h h2
    generalize hB : decide (N ≤ 200) = B
    go_enter Tryd.func9, Tryd.ntmps9
    go_wp2
    go_ret
    exact ⟨by first | rfl | (rw [← hB]) | (simp [hB]), HB.out⟩
  · have h1 : ¬ (n : Int) ≤ 60 := by omega
    have h1d : decide ((n : Int) ≤ 60) = false := decide_eq_false h1
    have h2 : decide (n ≤ 60) = false := decide_eq_false h
    rw [h2, Bool.false_and]
    clear h2
    go_enter Tryd.func9, Tryd.ntmps9
    go_wp2
    go_ret
    exact ⟨rfl, HB.out⟩
/-- A law's keys: a value, and its block. -/
abbrev keysV (d : Lab) (Az : Option Addr) (nz cz first : Nat) : Value := .agg #[.int .u64 (d.1 : Int), .int .u64 (d.2 : Int), .slice Az nz cz, .int .u64 (first : Int)]
abbrev KyB (w : World) (b : Nat) (d : Lab) (Az : Option Addr) (nz cz first : Nat) : Prop := Blk w b 31 #[.int .u64 (d.1 : Int), .int .u64 (d.2 : Int), .slice Az nz cz, .int .u64 (first : Int)]
/-- The labels that zeros answers. -/
def zk (nz : Nat) (zin : Nat → Lab) (i : Nat) : Lab := if i < nz then zin i else (i * 77, i * 1000003)
set_option maxHeartbeats 4000000 in
set_option maxRecDepth 100000 in
theorem zeros_any (w : World) (d : Lab) (Az : Option Addr) (nz cz first : Nat) (zin : Nat → Lab) (N : Int) (hz : AtV w Az (nz * 2) (lv zin)) (hc : nz ≤ cz) (hz0 : Az = none → nz = 0 ∧ cz = 0) (hN : N ≤ 4096) :
    Calls Tryd.prog 18 #[keysV d Az nz cz first, .int .i64 N] w fun e w' => ∃ g k, e = .returned (.slice (some ⟨g, 0, none⟩) N.toNat k) ∧ w.heap.size ≤ g ∧ Row w' w.heap.size 28 2 (.slice (some ⟨g, 0, none⟩) N.toNat k) N.toNat (lv (zk nz zin)) ∧ Below w.heap.size w w' := by
  obtain ⟨C, hC⟩ : ∃ C, N.toNat = C := ⟨_, rfl⟩
  obtain ⟨M, hM⟩ : ∃ M, min nz C = M := ⟨_, rfl⟩
  have x1 : (if N < 0 then (0 : Int) else N) = (C : Int) := by split <;> omega
  have x1' : (if (0 : Int) < N then N else (0 : Int)) = (C : Int) := by split <;> omega
  have x2 : (if (nz : Int) < (C : Int) then (nz : Int) else (C : Int)) = (M : Int) := by split <;> omega
  have x2' : (if (C : Int) < (nz : Int) then (C : Int) else (nz : Int)) = (M : Int) := by split <;> omega
  have x3' : (if C < nz then (C : Int) else (nz : Int)) = (M : Int) := by split <;> omega
  have HM := Lib.hid (show M ≤ nz ∧ M ≤ C ∧ C ≤ 4096 ∧ (M = C ∨ M = nz) by omega)
  rw [hC]
  have s1 := fun wx => run_head_row eltL wx Az nz cz M (by have := HM.out; omega)
  have b0 := (Below.refl w.heap.size w).alloc (Nat.le_refl _) (.cells #[.int .u64 (d.1 : Int), .int .u64 (d.2 : Int), .slice Az nz cz, .int .u64 (first : Int)] 31)
  have HX := Blk.new w 31 #[.int .u64 (d.1 : Int), .int .u64 (d.2 : Int), .slice Az nz cz, .int .u64 (first : Int)]
  have hs0 : (w.alloc (.cells #[.int .u64 (d.1 : Int), .int .u64 (d.2 : Int), .slice Az nz cz, .int .u64 (first : Int)] 31)).heap.size = w.heap.size + 1 := by simp
  obtain ⟨g, k, w1, hr, hg, hgl, hk, hR, hb1⟩ := append_empty eltL (w.alloc (.cells #[.int .u64 (d.1 : Int), .int .u64 (d.2 : Int), .slice Az nz cz, .int .u64 (first : Int)] 31)) Az M cz (lv zin) ((hz.below b0).less (Nat.mul_le_mul_right 2 HM.out.1)) (fun h => by have := hz0 h; exact ⟨by have := HM.out; omega, this.2⟩) (lv_one zin) (by have := HM.out; unfold maxLen; omega) (by have := HM.out; omega)
  rw [hs0] at hr hg hR hb1
  have c2 := (HX.alloc (.cells #[] 28)).cell 2 (v := .slice Az nz cz) rfl
  have HR := Lib.hid hr
  have H1 := Lib.hid (show Row w1 w.heap.size 28 2 (.slice (some ⟨g, 0, none⟩) M k) M (lv (zk nz zin)) ∧ Below w.heap.size w w1 from ⟨(hR.mono fun q hq => by
    obtain rfl : g = q := Option.some.inj hq
    omega).congr (lv_congr fun i hi => by unfold zk; rw [if_pos (by have := HM.out; omega)]), b0.trans (hb1.mono (by omega))⟩)
  have HC := Lib.hid (show (C : Int) = N ∨ N < 0 ∧ C = 0 by omega)
  clear hz hc hz0 hN hC hM b0 HX hs0 hr hg hgl hk hR hb1
  go_enter Tryd.func18, Tryd.ntmps18
  go_wp2_with (at_builtin; refine wpList_append_run rfl _ _ 29 rfl (.slice (some ⟨w.heap.size + 1, 0, none⟩) 0 0) (.slice Az M cz) (.slice (some ⟨g, 0, none⟩) M k) w1 rfl rfl (HR.out _) ?_)
  clear HR c2 s1 x1 x1' x2 x2' x3'
  go_loopw [5, 6] (fun v' i wr => ∃ t g k : Nat, M ≤ t ∧ t ≤ C ∧ .slice (some ⟨g, 0, none⟩) t k = v' ∧ i = .int .i64 t ∧ Hid (Row wr w.heap.size 28 2 (.slice (some ⟨g, 0, none⟩) t k) t (lv (zk nz zin)) ∧ Below w.heap.size w wr)) (fun _ i _ => C - (intOf i).toNat)
  case atStart => exact ⟨M, g, k, Nat.le_refl _, HM.out.2.1, rfl, rfl, H1.out.1, H1.out.2⟩
  case round =>
    clear H1
    obtain ⟨t, gt, kt, htM, htC, rfl, rfl, HI⟩ := hrel
    by_cases hlt : t < C
    · have lt1 : (t : Int) < N := by have := HC.out; omega
      have hC4 := HM.out.2.2.1
      have e1 : IntKind.i64.wrap ((t : Int) + 1) = (t : Int) + 1 := i64_nat _ (by omega) (by omega)
      have e2 : IntKind.u64.wrap (t : Int) = (t : Int) := by rw [u64w]; omega
      have e3 : IntKind.u64.wrap ((t : Int) * 77) = ((t * 77 : Nat) : Int) := by rw [u64w]; omega
      have e4 : IntKind.u64.wrap ((t : Int) * 1000003) = ((t * 1000003 : Nat) : Int) := by rw [u64w]; omega
      obtain ⟨p, hp⟩ : ∃ p, t * 77 = p := ⟨_, rfl⟩
      obtain ⟨q, hq⟩ : ∃ q, t * 1000003 = q := ⟨_, rfl⟩
      rw [hp] at e3
      rw [hq] at e4
      have hsr := HI.out.2.size
      have hown := HI.out.1.own
      obtain ⟨gn, kk, w5, hr, hgB, hR5, hgr, _⟩ := append_one eltL wr w.heap.size (.slice (some ⟨gt, 0, none⟩) t kt) t (lv (zk nz zin)) (lv fun _ => (p, q)) #[.int .u64 (p : Int), .int .u64 (q : Int)] HI.out.1 (fun j hj => by
        rcases (show j = 0 ∨ j = 1 by omega) with rfl | rfl <;> rfl) (lv_one _) (by omega) (by unfold maxLen; omega) hsr
      have hb5 : Below w.heap.size w w5 := (HI.out.2.alloc hsr (.cells #[.int .u64 (p : Int), .int .u64 (q : Int)] 28)).grown hgr (by simp; omega) (fun q hq => (hown q hq).1)
      have HR := Lib.hid hr
      have HF := Lib.hid (And.intro (hR5.congr (G := lv (zk nz zin)) (lv_next (fun i _ => rfl) (by unfold zk; rw [if_neg (by have := HM.out; omega), hp, hq]))) hb5)
      have HLt := Lib.hid hlt
      have HMt := Lib.hid (show M ≤ t + 1 by omega)
      clear hlt hsr hown hr hgB hR5 hgr hb5 HI hC4 hp hq htM htC
      go_wp2_with (at_builtin; refine wpList_append_run rfl _ _ 29 rfl (.slice (some ⟨gt, 0, none⟩) t kt) (.slice (some ⟨wr.heap.size, 0, none⟩) 1 1) (.slice (some ⟨gn, 0, none⟩) (t + 1) kk) w5 rfl rfl (HR.out _) ?_)
      go_roundw
      case rel => exact ⟨t + 1, gn, kk, HMt.out, by have := HLt.out; omega, rfl, by go_num, HF.out.1, HF.out.2⟩
      case measure => simp [intOf]; have := HLt.out; omega
    · obtain rfl : t = C := by omega
      have lt1 : ¬ (t : Int) < N := by have := HC.out; omega
      clear hlt htM htC
      go_wp2
      go_ret
      exact ⟨gt, kt, rfl, (HI.out.1.own gt rfl).1, HI.out.1, HI.out.2⟩
end Go.Proofs.YtamejhhjfnfalaaDoor
