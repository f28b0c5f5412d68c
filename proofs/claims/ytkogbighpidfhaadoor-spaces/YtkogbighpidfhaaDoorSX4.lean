/- LexEnds' walk. -/
import Derived.Test.YtkogbighpidfhaaDoorSX4a
namespace Go.Proofs.YtkogbighpidfhaaDoor
open Go.RowKit
open Lx

theorem run_neq_tk (k n a : Int) (t : ByteArray) (w : World) : (binOp .neq 37 (tkV k t n a) (tkV k t n a)).run Tryd.prog w = .ok (.bool false) w := by
  rw [run_neq_struct, run_eq_tk]
  rfl
set_option maxHeartbeats 16000000 in
set_option maxRecDepth 100000 in
theorem lexEnds_walk (s : ByteArray) (z : Int) (w : World) (hE : ErrR w) (hH : Handle w) :
    Calls Tryd.prog 7 #[.string s, .int .i64 z] w fun e w' => e = .returned (.bool true) ∧ Below w.heap.size w w' := by
  have HW := Lib.hid (awake_any w hE hH)
  have HG := Lib.hid (And.intro hE hH)
  obtain ⟨m, hm⟩ : ∃ m, min s.size 2000 = m := ⟨_, rfl⟩
  have m1 : min (s.size : Int) 2000 = (m : Int) := by omega
  have hsl := run_cutS s m (by omega)
  obtain ⟨t, ht⟩ : ∃ t, s.extract 0 m = t := ⟨_, rfl⟩
  have hts : t.size ≤ 2000 := by rw [← ht, ByteArray.size_extract]; omega
  rw [ht] at hsl
  have HS := Lib.hid hts
  obtain ⟨k, hk1, hk2, _⟩ := umod z 4 (by omega) (by omega)
  have hk3 : IntKind.i64.wrap (k : Int) = (k : Int) := i64_nat _ (by omega) (by omega)
  obtain ⟨wd, kind, num, hidx, hwz, hwt⟩ := word_of k (by omega)
  have HWd := Lib.hid (And.intro hwz hwt)
  clear hE hH hm ht hts hk1 hwz hwt
  go_enter Tryd.func7, Tryd.ntmps7
  go_wp2_with fail
  refine HW.out.mono ?_
  rintro e w1 ⟨rfl, hb1⟩
  have hE1 := HG.out.1.below hb1 HG.out.1.lt
  have hH1 := HG.out.2.below hb1 HG.out.2.pos
  have HB1 := Lib.hid hb1
  clear hb1 HW
  rcases hres : res t with ⟨code, a⟩ | ts
  · have H1 := Lib.hid (scan_bad t code a w1 (by have := HS.out; omega) hres hE1 hH1)
    obtain ⟨T, v, hT⟩ := chain_iface [(lexB, (a : Int))] (code : Int)
    rw [hT] at H1
    clear hE1 hH1 hres hT hidx
    go_wp2_with fail
    refine H1.out.mono ?_
    rintro e w2 ⟨rfl, hb2⟩
    have HB2 := Lib.hid (HB1.out.trans (hb2.mono HB1.out.size))
    clear hb2 H1 m1 hsl
    go_wp2
    go_ret
    exact ⟨rfl, HB2.out⟩
  · have H1 := Lib.hid (scan_ok t ts w1 (by have := HS.out; omega) hres hE1 hH1)
    have HT := Lib.hid (res_len hres).2
    obtain ⟨n, hn⟩ : ∃ n, ts.length = n := ⟨_, rfl⟩
    obtain ⟨N, hN⟩ : ∃ N, n + 1 = N := ⟨_, rfl⟩
    unfold ScOk at H1
    rw [hn, hN] at H1
    have HL := Lib.hid (And.intro hn hN)
    have e1 : IntKind.i64.wrap ((N : Int) - 1) = (n : Int) := by rw [i64_nat _ (by omega) (by have := HT.out.2; omega)]; omega
    have b0 : ((N : Int) == 0) = false := by rw [beq_eq_false_iff_ne]; omega
    have lN : (n : Int) < (N : Int) := by omega
    have ln : (0 : Int) ≤ (n : Int) := by omega
    clear hE1 hH1 hres hn hN
    go_wp2_with fail
    refine H1.out.mono ?_
    rintro e w2 ⟨ad, c, hc, rfl, hA, hb2⟩
    have HB2 := Lib.hid (HB1.out.trans (hb2.mono HB1.out.size))
    have HA := Lib.hid (And.intro hc hA)
    obtain ⟨_, rfl', ae, hae, a0, a1, a2, a3, _⟩ := hA.tk n (by have := HL.out.2; omega)
    cases rfl'
    have hx0 : tkF t ts (n * 4) = .int .i64 0 := by rw [tkF_at0, ← HL.out.1, end_new]; rfl
    have hx1 : tkF t ts (n * 4 + 1) = .string ⟨#[]⟩ := by rw [tkF_at t ts n 1 (by omega), ← HL.out.1, end_new]; exact congrArg Value.string (ext_none t t.size)
    have hx2 : tkF t ts (n * 4 + 2) = .int .u64 0 := by rw [tkF_at t ts n 2 (by omega), ← HL.out.1, end_new]; rfl
    have hx3 : tkF t ts (n * 4 + 3) = .int .i64 (t.size : Int) := by rw [tkF_at t ts n 3 (by omega), ← HL.out.1, end_new]; rfl
    rw [hx0] at a0
    rw [hx1] at a1
    rw [hx2] at a2
    rw [hx3] at a3
    have hq := run_eq_tk 0 0 (t.size : Int) ⟨#[]⟩
    clear hb2 H1 m1 hsl hx0 hx1 hx2 hx3 hc hA
    by_cases h500 : 500 < N
    · have l500 : (500 : Int) < (N : Int) := by omega
      clear h500
      go_wp2
      go_ret
      exact ⟨rfl, HB2.out⟩
    have l500 : ¬ (500 : Int) < (N : Int) := by omega
    have H500 := Lib.hid (show N ≤ 500 by omega)
    clear h500
    obtain ⟨t1, ht1⟩ : ∃ x, t ++ (⟨#[10]⟩ : ByteArray) = x := ⟨_, rfl⟩
    obtain ⟨t2, ht2⟩ : ∃ x, t1 ++ wd = x := ⟨_, rfl⟩
    have hz1 : t1.size = t.size + 1 := by rw [← ht1, ByteArray.size_append]; rfl
    have had1 : (Op.stringOp .add t ⟨#[10]⟩).run Tryd.prog w2 = .ok (.string t1) w2 := by
      rw [run_string_add_sum w2 t _ (by have := HS.out; have h1 : (⟨#[10]⟩ : ByteArray).size = 1 := rfl; omega), ht1]
    have had2 : (Op.stringOp .add t1 wd).run Tryd.prog w2 = .ok (.string t2) w2 := by
      rw [run_string_add_sum w2 t1 _ (by have := HS.out; have := HWd.out.1; omega), ht2]
    have ht3 : t2 = t ++ (⟨#[10]⟩ ++ wd) := by rw [← ht2, ← ht1, ByteArray.append_assoc]
    have hr2 : res t2 = .ok (ts ++ [(kind, t.size + 1, wd.size, num)]) := by
      rw [ht3]
      exact res_line t wd ts kind num HT.out.1 (by have := HL.out; have := H500.out; omega) HS.out HWd.out.1 HWd.out.2
    have H2 := Lib.hid (scan_ok t2 _ w2 (by rw [← ht2, ByteArray.size_append, hz1]; have := HS.out; have := HWd.out.1; omega) hr2 (HG.out.1.below HB2.out HG.out.1.lt) (HG.out.2.below HB2.out HG.out.2.pos))
    unfold ScOk at H2
    rw [show (ts ++ [(kind, t.size + 1, wd.size, num)]).length + 1 = N + 1 by rw [List.length_append]; have := HL.out; simp; omega] at H2
    have HE3 := Lib.hid ht3
    clear ht1 ht2 hz1 hr2 ht3
    go_wp2_with fail
    refine H2.out.mono ?_
    rintro e w3 ⟨bd, d, hd, rfl, hA2, hb3⟩
    have HB3 := Lib.hid (HB2.out.trans (hb3.mono HB2.out.size))
    have HA2 := Lib.hid (And.intro hd (And.intro (HA.out.2.below hb3) hA2))
    clear hb3 H2 had1 had2 a0 a1 a2 a3 hq hd hA2 hidx hae l500
    go_wp2
    have hs1 := fun wx => run_head_row eltK wx (some bd) (N + 1) d n (by have := HA2.out.1; have := HL.out.2; omega)
    have hs2 := fun wx => run_head_row eltK wx (some ad) N c n (by have := HA.out.1; have := HL.out.2; omega)
    have e2 : IntKind.i64.wrap ((N : Int) + 1) = (N : Int) + 1 := i64_nat _ (by omega) (by have := H500.out; omega)
    refine wp_region_held_drew (S := fun w' => Below w3.heap.size w3 w') (by kernel_rfl) (drew_below w3) (fun hS => ?_)
    try simp only [Act.put, List.setIfInBounds_toArray, List.set_cons_zero, List.set_cons_succ]
    refine htg (i := 0) rfl (.nilIface) (by kernel_rfl) (by kernel_rfl) (by kernel_rfl) (fun _ _ _ h => h) (by rfl) hS (fun w' hw' => by go_simp) ?_
    try simp only [Act.put, List.setIfInBounds_toArray, List.set_cons_zero, List.set_cons_succ]
    refine htg (i := 1) rfl (.bool false) (by kernel_rfl) (by kernel_rfl) (by kernel_rfl) (fun _ _ _ h => h) (by rfl) hS (fun w' hw' => by go_simp) ?_
    try simp only [Act.put, List.setIfInBounds_toArray, List.set_cons_zero, List.set_cons_succ]
    refine htg (i := 2) rfl (.bool false) (by kernel_rfl) (by kernel_rfl) (by kernel_rfl) (fun _ _ _ h => h) (by rfl) hS (fun w' hw' => by go_simp) ?_
    try simp only [Act.put, List.setIfInBounds_toArray, List.set_cons_zero, List.set_cons_succ]
    refine htg (i := 3) rfl (.slice (some bd) (N + 1) d) (by kernel_rfl) (by kernel_rfl) (by kernel_rfl) (fun _ _ _ h => h) (by rfl) hS (fun w' hw' => by go_simp) ?_
    try simp only [Act.put, List.setIfInBounds_toArray, List.set_cons_zero, List.set_cons_succ]
    refine htg (i := 4) rfl (.int .i64 ((N : Int) + 1)) (by kernel_rfl) (by kernel_rfl) (by kernel_rfl) (fun _ _ _ h => h) (by rfl) hS (fun w' hw' => by go_simp) ?_
    try simp only [Act.put, List.setIfInBounds_toArray, List.set_cons_zero, List.set_cons_succ]
    refine htg (i := 5) rfl (.slice (some ad) N c) (by kernel_rfl) (by kernel_rfl) (by kernel_rfl) (fun _ _ _ h => h) (by rfl) hS (fun w' hw' => by go_simp) ?_
    try simp only [Act.put, List.setIfInBounds_toArray, List.set_cons_zero, List.set_cons_succ]
    refine htg (i := 6) rfl (.int .i64 (N : Int)) (by kernel_rfl) (by kernel_rfl) (by kernel_rfl) (fun _ _ _ h => h) (by rfl) hS (fun w' hw' => by go_simp) ?_
    try simp only [Act.put, List.setIfInBounds_toArray, List.set_cons_zero, List.set_cons_succ]
    refine htg (i := 7) rfl (.int .i64 ((N : Int) + 1)) (by kernel_rfl) (by kernel_rfl) (by kernel_rfl) (fun _ _ _ h => h) (by rfl) hS (fun w' hw' => by go_simp) ?_
    try simp only [Act.put, List.setIfInBounds_toArray, List.set_cons_zero, List.set_cons_succ]
    refine htg (i := 8) rfl (.bool false) (by kernel_rfl) (by kernel_rfl) (by kernel_rfl) (fun _ _ _ h => h) (by rfl) hS (fun w' hw' => by go_simp) ?_
    try simp only [Act.put, List.setIfInBounds_toArray, List.set_cons_zero, List.set_cons_succ]
    refine htg (i := 9) rfl (.bool false) (by kernel_rfl) (by kernel_rfl) (by kernel_rfl) (fun _ _ _ h => h) (by rfl) hS (fun w' hw' => by go_simp) ?_
    try simp only [Act.put, List.setIfInBounds_toArray, List.set_cons_zero, List.set_cons_succ]
    refine htg (i := 10) rfl (.bool false) (by kernel_rfl) (by kernel_rfl) (by kernel_rfl) (fun _ _ _ h => h) (by rfl) hS (fun w' hw' => by go_simp) ?_
    try simp only [Act.put, List.setIfInBounds_toArray, List.set_cons_zero, List.set_cons_succ]
    refine htg (i := 11) rfl (.slice (some bd) (N + 1) d) (by kernel_rfl) (by kernel_rfl) (by kernel_rfl) (fun _ _ _ h => h) (by rfl) hS (fun w' hw' => by go_simp) ?_
    try simp only [Act.put, List.setIfInBounds_toArray, List.set_cons_zero, List.set_cons_succ]
    refine htg (i := 12) rfl (.slice (some ad) N c) (by kernel_rfl) (by kernel_rfl) (by kernel_rfl) (fun _ _ _ h => h) (by rfl) hS (fun w' hw' => by go_simp) ?_
    try simp only [Act.put, List.setIfInBounds_toArray, List.set_cons_zero, List.set_cons_succ]
    refine htg (i := 13) rfl (.int .i64 (N : Int)) (by kernel_rfl) (by kernel_rfl) (by kernel_rfl) (fun _ _ _ h => h) (by rfl) hS (fun w' hw' => by go_simp) ?_
    try simp only [Act.put, List.setIfInBounds_toArray, List.set_cons_zero, List.set_cons_succ]
    refine htg (i := 14) rfl (.int .i64 (n : Int)) (by kernel_rfl) (by kernel_rfl) (by kernel_rfl) (fun _ _ _ h => h) (by rfl) hS (fun w' hw' => by go_simp) ?_
    try simp only [Act.put, List.setIfInBounds_toArray, List.set_cons_zero, List.set_cons_succ]
    refine htg (i := 15) rfl (.slice (some bd) n d) (by kernel_rfl) (by kernel_rfl) (by kernel_rfl) (fun _ _ _ h => h) (by rfl) hS (fun w' hw' => by go_simp) ?_
    try simp only [Act.put, List.setIfInBounds_toArray, List.set_cons_zero, List.set_cons_succ]
    refine htg (i := 16) rfl (.slice (some ad) N c) (by kernel_rfl) (by kernel_rfl) (by kernel_rfl) (fun _ _ _ h => h) (by rfl) hS (fun w' hw' => by go_simp) ?_
    try simp only [Act.put, List.setIfInBounds_toArray, List.set_cons_zero, List.set_cons_succ]
    refine htg (i := 17) rfl (.slice (some ad) N c) (by kernel_rfl) (by kernel_rfl) (by kernel_rfl) (fun _ _ _ h => h) (by rfl) hS (fun w' hw' => by go_simp) ?_
    try simp only [Act.put, List.setIfInBounds_toArray, List.set_cons_zero, List.set_cons_succ]
    refine htg (i := 18) rfl (.int .i64 (N : Int)) (by kernel_rfl) (by kernel_rfl) (by kernel_rfl) (fun _ _ _ h => h) (by rfl) hS (fun w' hw' => by go_simp) ?_
    try simp only [Act.put, List.setIfInBounds_toArray, List.set_cons_zero, List.set_cons_succ]
    refine htg (i := 19) rfl (.int .i64 (n : Int)) (by kernel_rfl) (by kernel_rfl) (by kernel_rfl) (fun _ _ _ h => h) (by rfl) hS (fun w' hw' => by go_simp) ?_
    try simp only [Act.put, List.setIfInBounds_toArray, List.set_cons_zero, List.set_cons_succ]
    refine htg (i := 20) rfl (.slice (some ad) n c) (by kernel_rfl) (by kernel_rfl) (by kernel_rfl) (fun _ _ _ h => h) (by rfl) hS (fun w' hw' => by go_simp) ?_
    try simp only [Act.put, List.setIfInBounds_toArray, List.set_cons_zero, List.set_cons_succ]
    have HQ := Lib.hid (fun w' (hb : Below w3.heap.size w3 w') => same_any (some bd) (some ad) n d c (tkF t2 (ts ++ [(kind, t.size + 1, wd.size, num)])) (tkF t ts) w' ((HA2.out.2.2.below hb).less (by omega)) ((HA2.out.2.1.below hb).less (by omega)) (fun i hi => by rw [HE3.out]; exact tkF_left t _ ts _ HT.out.1 i (by rw [HL.out.1]; exact hi)) (tkF_cells _ _ _) (by have := HL.out; have := H500.out; omega))
    refine h1g (i := 21) (by kernel_rfl) rfl (by rfl) (fun K' hK => ?_)
    have HS3 := Lib.hid hS
    clear hS
    go_simp
    refine (HQ.out _ HS3.out).mono ?_
    rintro e w4 ⟨rfl, hb4⟩
    have hS : Below w3.heap.size w3 w4 := HS3.out.trans (hb4.mono HS3.out.size)
    refine hK.out _ _ hS ?_
    clear hK K' hb4 HS3 HQ
    try simp only [Act.put, List.setIfInBounds_toArray, List.set_cons_zero, List.set_cons_succ]
    refine htg (i := 22) rfl (.bool false) (by kernel_rfl) (by kernel_rfl) (by kernel_rfl) (fun _ _ _ h => h) (by rfl) hS (fun w' hw' => by go_simp) ?_
    try simp only [Act.put, List.setIfInBounds_toArray, List.set_cons_zero, List.set_cons_succ]
    refine htg (i := 23) rfl (.bool false) (by kernel_rfl) (by kernel_rfl) (by kernel_rfl) (fun _ _ _ h => h) (by rfl) hS (fun w' hw' => by go_simp) ?_
    try simp only [Act.put, List.setIfInBounds_toArray, List.set_cons_zero, List.set_cons_succ]
    refine wpAnyH_done (by kernel_rfl) ?_ _
    have HB4 := Lib.hid (HB3.out.trans (hS.mono HB3.out.size))
    have hA4 := HA2.out.2.2.below hS
    obtain ⟨_, rfl', be, hbe, x0, x1, x2, x3, _⟩ := hA4.tk n (by have := HL.out.2; omega)
    cases rfl'
    have hu : (ts ++ [(kind, t.size + 1, wd.size, num)]).getD n (tkEnd t2) = (kind, t.size + 1, wd.size, num) := by rw [← HL.out.1]; exact push_new t2 ts _
    have hx1 : tkF t2 (ts ++ [(kind, t.size + 1, wd.size, num)]) (n * 4 + 1) = .string wd := by
      rw [tkF_at t2 _ n 1 (by omega), hu]
      show Value.string (t2.extract (t.size + 1) (t.size + 1 + wd.size)) = _
      congr 1
      apply bts_inj
      have hz : t.size + 1 = (bts (t ++ (⟨#[10]⟩ : ByteArray))).length := by rw [bts_length, ByteArray.size_append]; rfl
      rw [bts_extract, Nat.add_sub_cancel_left, HE3.out, ← ByteArray.append_assoc, bts_append, hz, List.drop_left, List.take_of_length_le (by rw [bts_length]; exact Nat.le_refl _)]
    have hx3 : tkF t2 (ts ++ [(kind, t.size + 1, wd.size, num)]) (n * 4 + 3) = .int .i64 ((t.size : Int) + 1) := by
      rw [tkF_at t2 _ n 3 (by omega), hu]
      rfl
    rw [hx1] at x1
    rw [hx3] at x3
    have hse := str_eq wd
    have e3 : IntKind.i64.wrap ((t.size : Int) + 1) = (t.size : Int) + 1 := i64_nat _ (by omega) (by have := HS.out; omega)
    have lN1 : (n : Int) < (N : Int) + 1 := by have := HL.out; omega
    clear hS hA4 hu hx1 hx3 hs1 hs2 x0 x2
    go_wp2
    go_ret
    exact ⟨rfl, HB4.out⟩
end Go.Proofs.YtkogbighpidfhaaDoor
