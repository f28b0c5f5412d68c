/- LexFull's walk. -/
import Derived.Test.YtkogbighpidfhaaDoorSX3a
namespace Go.Proofs.YtkogbighpidfhaaDoor
open Go.RowKit
open Lx

theorem below_put {B : Nat} {a0 w : World} (h : Below B a0 w) {g : Nat} (hg : B ≤ g) (i : Nat) (v : Value) : Below B a0 (w.setCell ⟨g, i, none⟩ v) := h.setCell (p := ⟨g, i, none⟩) hg v
theorem ff_put (last x : Nat) (n : Option Nat) (w : World) (g : Nat) (h : BlB w g 4096 (ff last n)) : BlB (w.setCell ⟨g, 4095, none⟩ (.int .u8 (x : Int))) g 4096 (ff x n) := by
  have := h.put 4095 x
  unfold BlB at this ⊢
  rw [bcs_congr (h := ff x n)] at this
  · exact this
  · intro i hi
    unfold ff
    by_cases e : i = 4095
    · rw [if_pos e, if_pos e]
    · rw [if_neg e, if_neg e, if_neg e]
theorem ff_lack (last n : Nat) (w : World) (g : Nat) (h : BlB w g 4096 (ff last none)) : BlB (w.setCell ⟨g, 2 * n, none⟩ (.int .u8 ((32 : Nat) : Int))) g 4096 (ff last (some n)) := by
  have := h.put (2 * n) 32
  unfold BlB at this ⊢
  rw [bcs_congr (h := ff last (some n))] at this
  · exact this
  · intro i hi
    unfold ff
    by_cases e : i = 4095
    · rw [if_neg (by omega), if_pos e, if_pos e]
    · by_cases e2 : i = 2 * n
      · rw [if_pos e2, if_neg e, if_neg (fun h => by have := h.2.2; apply this; congr 1; omega)]
      · rw [if_neg e2, if_neg e, if_neg e]
        by_cases l : i % 2 = 0 ∧ i < 1024
        · rw [if_pos ⟨l.1, l.2, by simp⟩, if_pos ⟨l.1, l.2, by intro h; injection h with h; omega⟩]
        · rw [if_neg (fun h => l ⟨h.1, h.2.1⟩), if_neg (fun h => l ⟨h.1, h.2.1⟩)]
/-- A good text's scan, and one of a text that isn't, without what they tell. -/
theorem scan_good (s : ByteArray) (ts : List Tk) (w : World) (hs : s.size ≤ 1000000) (hr : res s = .ok ts) (hE : ErrR w) (hH : Handle w) :
    Calls Tryd.prog 9 #[.string s] w fun e w' => (∃ g c, e = .returned (.tuple #[.slice (some ⟨g, 0, none⟩) (ts.length + 1) c, .nilIface])) ∧ Below w.heap.size w w' :=
  (scan_any s w hs hE hH).mono fun e w' h => by
    unfold ScAns at h
    rw [hr] at h
    obtain ⟨⟨g, c, rfl, _, _⟩, hb⟩ := h
    exact ⟨⟨g, c, rfl⟩, hb⟩
theorem scan_bad (s : ByteArray) (code a : Nat) (w : World) (hs : s.size ≤ 1000000) (hr : res s = .error (code, a)) (hE : ErrR w) (hH : Handle w) :
    Calls Tryd.prog 9 #[.string s] w fun e w' => e = .returned (.tuple #[.slice none 0 0, chain [(lexB, (a : Int))] (code : Int)]) ∧ Below w.heap.size w w' :=
  (scan_any s w hs hE hH).mono fun e w' h => by
    unfold ScAns at h
    rw [hr] at h
    exact h
set_option maxHeartbeats 16000000 in
set_option maxRecDepth 100000 in
theorem lexFull_walk (z : Int) (w : World) (hE : ErrR w) (hH : Handle w) :
    Calls Tryd.prog 5 #[.int .i64 z] w fun e w' => e = .returned (.bool true) ∧ Below w.heap.size w w' := by
  have HW := Lib.hid (awake_any w hE hH)
  have HG := Lib.hid (And.intro hE hH)
  obtain ⟨n, hn1, hn2, _⟩ := umod z 512 (by omega) (by omega)
  have hn3 : IntKind.i64.wrap (n : Int) = (n : Int) := i64_nat _ (by omega) (by omega)
  have HN := Lib.hid (show n < 512 by omega)
  clear hE hH hn1
  go_enter Tryd.func5, Tryd.ntmps5
  go_wp2_with fail
  refine HW.out.mono ?_
  rintro e w1 ⟨rfl, hb1⟩
  clear HW
  have hmk : (Instr.makeSlice 39 (.int .i64 4096) (.int .i64 4096)).run Tryd.prog w1 = .ok (.slice (some ⟨w1.heap.size, 0, none⟩) 4096 4096) (w1.alloc (.cells (madeCells (Value.int .u8 0).cells (4096 * 1)) 5)) := run_make_row eltB w1 4096 4096 (Nat.le_refl _) (by omega) (by omega)
  rw [made_bytes] at hmk
  have HB := Lib.hid (And.intro hb1.size (And.intro (hb1.alloc hb1.size (.cells (bcs 4096 (fun _ => 0)) 5)) (show BlB _ w1.heap.size 4096 (fun _ => 0) from Blk.new w1 5 (bcs 4096 (fun _ => 0)))))
  obtain ⟨w2, hw2⟩ : ∃ x, w1.alloc (.cells (bcs 4096 (fun _ => 0)) 5) = x := ⟨_, rfl⟩
  rw [hw2] at HB hmk
  obtain ⟨g, hg⟩ : ∃ x, w1.heap.size = x := ⟨_, rfl⟩
  rw [hg] at HB hmk
  clear hb1 hw2 hg
  go_wp2
  clear hmk
  go_loopw [25] (fun i wr => ∃ k : Nat, i = .int .i64 (k : Int) ∧ Hid (k ≤ 4096 ∧ Below w.heap.size w wr ∧ BlB wr g 4096 (fun j => if j < k then 32 else 0))) (fun i _ => 4096 - (intOf i).toNat)
  case atStart => exact ⟨0, rfl, by omega, HB.out.2.1, by have := HB.out.2.2; exact this⟩
  case round =>
    obtain ⟨k, rfl, HI⟩ := hrel
    by_cases hk : k < 4096
    · have lt1 : (k : Int) < 4096 := by omega
      have lt0 : (0 : Int) ≤ (k : Int) := by omega
      have e1 : IntKind.i64.wrap ((k : Int) + 1) = (k : Int) + 1 := i64_nat _ (by omega) (by omega)
      have c0 := HI.out.2.2.at k hk
      have f0 := Blk.frozen HI.out.2.2
      have HP := Lib.hid (show k + 1 ≤ 4096 ∧ Below w.heap.size w (wr.setCell ⟨g, k, none⟩ (.int .u8 32)) ∧ BlB (wr.setCell ⟨g, k, none⟩ (.int .u8 32)) g 4096 (fun j => if j < k + 1 then 32 else 0) from
        ⟨by omega, below_put HI.out.2.1 HB.out.1 k _, by
          have := HI.out.2.2.put k 32
          unfold BlB at this ⊢
          rw [bcs_congr (h := fun j => if j < k + 1 then 32 else 0)] at this
          · exact this
          · intro i _
            by_cases e : i = k
            · subst e; simp
            · by_cases l : i < k
              · rw [if_neg e, if_pos l, if_pos (by omega)]
              · rw [if_neg e, if_neg l, if_neg (by omega)]⟩)
      have HLt := Lib.hid hk
      clear hk
      go_wp2
      go_roundw
      case rel => exact ⟨k + 1, by go_num, HP.out⟩
      case measure => simp [intOf]; have := HLt.out; omega
    · have lt1 : ¬ (k : Int) < 4096 := by omega
      obtain ⟨wA, hwA⟩ : ∃ x, x = wr := ⟨_, rfl⟩
      subst hwA
      have HA := Lib.hid (show Below w.heap.size w wA ∧ BlB wA g 4096 (fun j => if j % 2 = 0 ∧ j < 2 * 0 then 43 else 32) from
        ⟨HI.out.2.1, by
          have := HI.out.2.2
          unfold BlB at this ⊢
          rw [bcs_congr (h := fun j => if j % 2 = 0 ∧ j < 2 * 0 then 43 else 32)] at this
          · exact this
          · intro i hi
            rw [if_pos (by omega), if_neg (by omega)]⟩)
      clear hk HI
      go_wp2
      go_loopw [5] (fun i wr => ∃ k : Nat, i = .int .i64 (k : Int) ∧ Hid (k ≤ 512 ∧ Below w.heap.size w wr ∧ BlB wr g 4096 (fun j => if j % 2 = 0 ∧ j < 2 * k then 43 else 32))) (fun i _ => 512 - (intOf i).toNat)
      case atStart => exact ⟨0, rfl, by omega, HA.out⟩
      case round =>
        clear HA
        obtain ⟨k, rfl, HI⟩ := hrel
        by_cases hk : k < 512
        · have lt1 : (k : Int) < 512 := by omega
          have e1 : IntKind.i64.wrap ((k : Int) + 1) = (k : Int) + 1 := i64_nat _ (by omega) (by omega)
          obtain ⟨q, hq⟩ : ∃ q, 2 * k = q := ⟨_, rfl⟩
          have e2 : IntKind.i64.wrap (2 * (k : Int)) = (q : Int) := by rw [i64_nat _ (by omega) (by omega)]; omega
          have lq : (q : Int) < 4096 := by omega
          have lq0 : (0 : Int) ≤ (q : Int) := by omega
          have c0 := HI.out.2.2.at q (by omega)
          have f0 := Blk.frozen HI.out.2.2
          have HP := Lib.hid (show k + 1 ≤ 512 ∧ Below w.heap.size w (wr.setCell ⟨g, q, none⟩ (.int .u8 43)) ∧ BlB (wr.setCell ⟨g, q, none⟩ (.int .u8 43)) g 4096 (fun j => if j % 2 = 0 ∧ j < 2 * (k + 1) then 43 else 32) from
            ⟨by omega, below_put HI.out.2.1 HB.out.1 q _, by
              have := HI.out.2.2.put q 43
              unfold BlB at this ⊢
              rw [bcs_congr (h := fun j => if j % 2 = 0 ∧ j < 2 * (k + 1) then 43 else 32)] at this
              · exact this
              · intro i _
                by_cases e : i = q
                · rw [if_pos e, if_pos (by omega)]
                · by_cases l : i % 2 = 0 ∧ i < 2 * k
                  · rw [if_neg e, if_pos l, if_pos (by omega)]
                  · rw [if_neg e, if_neg l, if_neg (by omega)]⟩)
          have HLt := Lib.hid hk
          clear hk hq
          generalize hcv : (if q % 2 = 0 ∧ q < 2 * k then 43 else 32 : Nat) = cv at c0
          clear hcv
          go_wp2
          go_roundw
          case rel => exact ⟨k + 1, by go_num, HP.out⟩
          case measure => simp [intOf]; have := HLt.out; omega
        · have lt1 : ¬ (k : Int) < 512 := by omega
          obtain ⟨wB, hwB⟩ : ∃ x, x = wr := ⟨_, rfl⟩
          subst hwB
          have hX : BlB wB g 4096 (ff 32 none) := by
            have := HI.out.2.2
            unfold BlB at this ⊢
            rw [bcs_congr (h := ff 32 none)] at this
            · exact this
            · intro i hi
              unfold ff
              by_cases e : i = 4095
              · rw [if_pos e, if_neg (by omega)]
              · rw [if_neg e]
                by_cases l : i % 2 = 0 ∧ i < 1024
                · rw [if_pos (by have := HI.out.1; omega), if_pos ⟨l.1, l.2, by simp⟩]
                · rw [if_neg (by have := HI.out.1; omega), if_neg (fun h => l ⟨h.1, h.2.1⟩)]
          have hcv := conv_B wB g 4096 4096 _ hX (ff_lt 32 (by omega) none)
          have HX := Lib.hid (And.intro HI.out.2.1 hX)
          have H1 := Lib.hid (scan_good _ _ wB (by rw [strB_size]; omega) full_one (HG.out.1.below HI.out.2.1 HG.out.1.lt) (HG.out.2.below HI.out.2.1 HG.out.2.pos))
          rw [plTk_length, plus_all] at H1
          generalize strB 4096 (ff 32 none) = t1 at hcv H1
          clear hk HI hX
          go_wp2_with fail
          clear hcv lt1
          refine H1.out.mono ?_
          rintro e w3 ⟨⟨g1, c1, rfl⟩, hb3⟩
          have hX3 := Blk.below HX.out.2 hb3 (Blk.lt HX.out.2)
          have c0 := BlB.at hX3 4095 (by omega)
          have f0 := Blk.frozen hX3
          have hB3 := HX.out.1.trans (hb3.mono HX.out.1.size)
          have hX4 := ff_put 32 59 none w3 g hX3
          have hB4 := below_put hB3 HB.out.1 4095 (.int .u8 59)
          obtain ⟨w4, hw4⟩ : ∃ x, w3.setCell ⟨g, 4095, none⟩ (.int .u8 59) = x := ⟨_, rfl⟩
          rw [show ((59 : Nat) : Int) = 59 from rfl, hw4] at hX4
          rw [hw4] at hB4
          have hcv := conv_B w4 g 4096 4096 _ hX4 (ff_lt 59 (by omega) none)
          have H2 := Lib.hid (scan_bad _ _ _ w4 (by rw [strB_size]; omega) full_two (HG.out.1.below hB4 HG.out.1.lt) (HG.out.2.below hB4 HG.out.2.pos))
          generalize strB 4096 (ff 59 none) = t2 at hcv H2
          have HX4 := Lib.hid (And.intro hB4 hX4)
          have HW4 := Lib.hid hw4
          subst hw4
          obtain ⟨T5, v5, hT5⟩ := chain_iface [(lexB, ((4095 : Nat) : Int))] ((5 : Nat) : Int)
          have HT5 := Lib.hid hT5
          rw [hT5] at H2
          generalize hcc : (ff 32 none 4095) = cc at c0
          clear HX H1 hb3 hX3 hB3 hX4 hB4 hT5 hcc HW4
          go_wp2_with fail
          clear hcv c0 f0
          generalize w3.setCell ⟨g, 4095, none⟩ (.int .u8 59) = w4 at *
          refine H2.out.mono ?_
          rintro e w5 ⟨rfl, hb5⟩
          have hX5 := Blk.below HX4.out.2 hb5 (Blk.lt HX4.out.2)
          obtain ⟨q, hq⟩ : ∃ q, 2 * n = q := ⟨_, rfl⟩
          have e2 : IntKind.i64.wrap (2 * (n : Int)) = (q : Int) := by rw [i64_nat _ (by omega) (by have := HN.out; omega)]; omega
          have lq : (q : Int) < 4096 := by have := HN.out; omega
          have lq0 : (0 : Int) ≤ (q : Int) := by omega
          have c0 := BlB.at hX5 q (by have := HN.out; omega)
          have f0 := Blk.frozen hX5
          have hB5 := HX4.out.1.trans (hb5.mono HX4.out.1.size)
          have hX6 := ff_lack 59 n w5 g hX5
          have hB6 := below_put hB5 HB.out.1 q (.int .u8 32)
          rw [hq, show ((32 : Nat) : Int) = 32 from rfl] at hX6
          have hcv := conv_B _ g 4096 4096 _ hX6 (ff_lt 59 (by omega) (some n))
          obtain ⟨ts3, hts3⟩ := full_three n HN.out
          have hz3 := strB_size 4096 (ff 59 (some n))
          generalize strB 4096 (ff 59 (some n)) = t3 at hcv hts3 hz3
          have H3 := Lib.hid (scan_good t3 ts3 _ (by omega) hts3 (HG.out.1.below hB6 HG.out.1.lt) (HG.out.2.below hB6 HG.out.2.pos))
          have HX6 := Lib.hid (And.intro hB6 (And.intro hX6 hz3))
          generalize hcc : (ff 59 none q) = cc at c0
          clear HX4 H2 hb5 hX5 hB5 hX6 hB6 hts3 hcc hz3 hq
          go_wp2_with fail
          clear hcv c0 f0 e2 lq lq0
          generalize w5.setCell ⟨g, q, none⟩ (.int .u8 32) = w6 at *
          refine H3.out.mono ?_
          rintro e w7 ⟨⟨g3, c3, rfl⟩, hb7⟩
          have hX7 := Blk.below HX6.out.2.1 hb7 (Blk.lt HX6.out.2.1)
          have hB7 := HX6.out.1.trans (hb7.mono HX6.out.1.size)
          have hcv := conv_B w7 g 4096 4096 _ hX7 (ff_lt 59 (by omega) (some n))
          have hz3 := strB_size 4096 (ff 59 (some n))
          generalize strB 4096 (ff 59 (some n)) = t5 at hcv hz3
          obtain ⟨t4, ht4⟩ : ∃ t, t5 ++ (⟨#[32]⟩ : ByteArray) = t := ⟨_, rfl⟩
          have hz4 : t4.size = 4097 := by rw [← ht4, ByteArray.size_append, hz3]; rfl
          have hadd : (Op.stringOp .add t5 ⟨#[32]⟩).run Tryd.prog w7 = .ok (.string t4) w7 := by
            rw [run_string_add_sum w7 t5 _ (by rw [hz3]; decide), ht4]
          have H4 := Lib.hid (scan_bad t4 3 4097 w7 (by omega) (full_four t4 hz4) (HG.out.1.below hB7 HG.out.1.lt) (HG.out.2.below hB7 HG.out.2.pos))
          obtain ⟨T6, v6, hT6⟩ := chain_iface [(lexB, ((4097 : Nat) : Int))] ((3 : Nat) : Int)
          rw [hT6] at H4
          have HT6 := Lib.hid hT6
          have HB7 := Lib.hid hB7
          clear HX6 H3 hb7 hX7 hB7 hz3 hz4 ht4 hT6
          go_wp2_with fail
          clear hcv hadd
          refine H4.out.mono ?_
          rintro e w8 ⟨rfl, hb8⟩
          have HB8 := Lib.hid (HB7.out.trans (hb8.mono HB7.out.size))
          have hA := at_one lexB ((4095 : Nat) : Int) ((5 : Nat) : Int) w8 (HG.out.2.below HB8.out HG.out.2.pos)
          rw [HT5.out] at hA
          have H5 := Lib.hid hA
          clear hb8 H4 HB7 hA
          go_wp2_with fail
          refine H5.out.mono ?_
          rintro e w9 ⟨rfl, hb9⟩
          have HB9 := Lib.hid (HB8.out.trans (hb9.mono HB8.out.size))
          have hI := fis_chain [(lexB, ((4097 : Nat) : Int))] ((3 : Nat) : Int) 3 w9
          rw [HT6.out] at hI
          have H6 := Lib.hid hI
          rw [show ((5 : Nat) : Int) = 5 from rfl, show ((4095 : Nat) : Int) = 4095 from rfl]
          clear hb9 H5 HB8 hI
          go_wp2_with fail
          refine H6.out.mono ?_
          rintro e w10 ⟨rfl, hb10⟩
          have HB10 := Lib.hid (HB9.out.trans (hb10.mono HB9.out.size))
          clear hb10 H6
          go_wp2
          go_ret
          exact ⟨rfl, HB10.out⟩
end Go.Proofs.YtkogbighpidfhaaDoor
