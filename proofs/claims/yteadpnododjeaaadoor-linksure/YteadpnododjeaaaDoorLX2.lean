/- LinkTurned's walk. -/
import Derived.Test.YteadpnododjeaaaDoorLX1
namespace Go.Proofs.YteadpnododjeaaaDoor
open Go.RowKit

/-- uint(z) % m, as a number. -/
theorem umod (z m : Int) (hm : 0 < m) (hm2 : m ≤ 18446744073709551616) : ∃ k : Nat, (k : Int) < m ∧ (IntKind.u64.wrap z).tmod m = (k : Int) ∧ z % 18446744073709551616 % m = (k : Int) := by
  have h0 : 0 ≤ z % 18446744073709551616 := Int.emod_nonneg _ (by omega)
  have h1 : 0 ≤ z % 18446744073709551616 % m := Int.emod_nonneg _ (by omega)
  have h2 : z % 18446744073709551616 % m < m := Int.emod_lt_of_pos _ hm
  refine ⟨(z % 18446744073709551616 % m).toNat, by omega, ?_, by omega⟩
  rw [u64w, Int.tmod_eq_emod_of_nonneg h0]
  omega
theorem shl1_val (r y : Nat) (hr : r < 8) (hy : y = 2 ^ r) : IntKind.u8.wrap (2 ^ min r 8) = (y : Int) := by
  rcases (show r = 0 ∨ r = 1 ∨ r = 2 ∨ r = 3 ∨ r = 4 ∨ r = 5 ∨ r = 6 ∨ r = 7 by omega) with rfl | rfl | rfl | rfl | rfl | rfl | rfl | rfl <;> subst hy <;> rfl
/-- A byte of a list of the call's own is set. -/
theorem OR.byte {w : World} {base g n c q y : Nat} {f : Nat → Nat} (h : OR w base (.slice (some ⟨g, 0, none⟩) n c) n f) : OR (w.setCell ⟨g, q, none⟩ (.int .u8 (y : Int))) base (.slice (some ⟨g, 0, none⟩) n c) n (fun i => if i = q then y else f i) := by
  refine ⟨by simp [bys_size], ?_⟩
  rcases h.2 with ⟨h0, _⟩ | ⟨g', cap, cur, e, h1, h2, h3, h4, h5, h6⟩
  · cases h0
  · injection e with e1 _ e3
    injection e1 with e1
    injection e1 with e1
    subst e1 e3
    refine .inr ⟨g, c, cur.setIfInBounds q (.int .u8 (y : Int)), rfl, h1, setCell_row _ h2, h3, h4, by simpa using h5, ?_⟩
    rw [← bys_set]
    rw [Nat.mul_one] at h6 ⊢
    rw [Array.toList_setIfInBounds, Array.toList_setIfInBounds, List.take_set, h6]
theorem Lies.flip {w : World} {base : Nat} {x : Fr} (h : Lies w base x) (B y : Nat) (hy : y = x.dat (B / 8) ^^^ 2 ^ (B % 8)) :
    Lies (w.setCell ⟨x.blk, B / 8, none⟩ (.int .u8 (y : Int))) base ⟨x.blk, x.len, x.cap, Link.turn x.dat B⟩ := by
  refine ⟨OR.congr (g := Link.turn x.dat B) (OR.byte (q := B / 8) (y := y) h.own) fun i _ => ?_, Link.turn_lt x.dat B h.lt, h.small⟩
  unfold Link.turn
  by_cases e : i = B / 8
  · rw [if_pos e, if_pos e, hy, e]
  · rw [if_neg e, if_neg e]
theorem OR.frozen {w : World} {base g n c : Nat} {f : Nat → Nat} (h : OR w base (.slice (some ⟨g, 0, none⟩) n c) n f) (i : Nat) : w.frozen? ⟨g, i, none⟩ = false := by
  rcases h.2 with ⟨h0, _⟩ | ⟨g', cap, cur, e, h1, h2, _⟩
  · cases h0
  · injection e with e1 _ e3
    injection e1 with e1
    injection e1 with e1
    subst e1
    simp [World.frozen?, h2]
/-- The numbers of a turned bit. -/
theorem bit_facts (B : Nat) (X : Nat) (hX : X < 256) (hB : B < 1000000000) : ∃ q r mm y : Nat, q = B / 8 ∧ y = X ^^^ 2 ^ (B % 8) ∧ r < 8 ∧ (B : Int).tdiv 8 = (q : Int) ∧ (B : Int).tmod 8 = (r : Int) ∧ IntKind.i64.wrap (q : Int) = (q : Int) ∧ IntKind.i64.wrap (r : Int) = (r : Int) ∧ IntKind.u8.wrap (2 ^ min r 8) = (mm : Int) ∧ bits .xor .u8 (X : Int) (mm : Int) = (y : Int) := by
  have hm2 : 2 ^ (B % 8) < 256 := by
    have : 2 ^ (B % 8) < 2 ^ 8 := Nat.pow_lt_pow_right (by omega) (by omega)
    exact this
  refine ⟨B / 8, B % 8, 2 ^ (B % 8), X ^^^ 2 ^ (B % 8), rfl, rfl, by omega, ?_, ?_, i64_nat _ (by omega) (by omega), i64_nat _ (by omega) (by omega), shl1_val _ _ (by omega) rfl, bits8_xor _ _ hX hm2⟩
  · rw [Int.tdiv_eq_ediv_of_nonneg (by omega)]; omega
  · rw [Int.tmod_eq_emod_of_nonneg (by omega)]; omega
set_option maxHeartbeats 4000000 in
set_option maxRecDepth 100000 in
theorem turned_walk (m : Nat) (A : Option Addr) (n c : Nat) (f : Nat → Nat) (za zb : Int) (w : World) (hL : Laid w) (hm : m < 4294967296) (hA : AtBO w A n f) (hf : ∀ i, f i < 256) (h0 : A = none → n = 0 ∧ c = 0) :
    Calls Tryd.prog 9 #[.int .u32 (m : Int), .slice A n c, .agg #[.int .i64 za, .int .i64 zb]] w fun e w' => e = .returned (.bool true) ∧ Below w.heap.size w w' := by
  have HA := Lib.hid (And.intro hL (And.intro hm (And.intro hA (And.intro hf h0))))
  have hb1 : Below w.heap.size w (w.alloc (.cells #[.int .i64 za, .int .i64 zb] 67)) := (Below.refl _ _).alloc (Nat.le_refl _) _
  have c0 : (w.alloc (.cells #[.int .i64 za, .int .i64 zb] 67)).cell? ⟨w.heap.size, 0, none⟩ = some (.int .i64 za) := by simp
  have c1 : (w.alloc (.cells #[.int .i64 za, .int .i64 zb] 67)).cell? ⟨w.heap.size, 1, none⟩ = some (.int .i64 zb) := by simp
  have H1 := Lib.hid (And.intro hb1 (And.intro c0 c1))
  clear hL hm hA hf h0 hb1 c0 c1
  by_cases hn : 2000 < n
  · have k1 : (2000 : Int) < (n : Int) := by omega
    go_enter Tryd.func9, Tryd.ntmps9
    go_wp2_with fail
    have hb1 := H1.out.1
    refine (awake_any _ (HA.out.1.below hb1 HA.out.1.pos)).mono ?_
    rintro e w2 ⟨rfl, hb2⟩
    have hb2 := hb1.trans (hb2.mono hb1.size)
    have H2 := Lib.hid hb2
    clear hb1 hb2
    go_wp2_with fail
    refine (awake_any w2 (HA.out.1.below H2.out HA.out.1.pos)).mono ?_
    rintro e w3 ⟨rfl, hb3⟩
    have H3 := Lib.hid (H2.out.trans (hb3.mono H2.out.size))
    clear hb3
    go_wp2
    go_ret
    exact ⟨rfl, H3.out⟩
  · have k1 : ¬ (2000 : Int) < (n : Int) := by omega
    have HN := Lib.hid (And.intro trivial hn)
    clear hn
    go_enter Tryd.func9, Tryd.ntmps9
    go_wp2_with fail
    have hb1 := H1.out.1
    refine (awake_any _ (HA.out.1.below hb1 HA.out.1.pos)).mono ?_
    rintro e w2 ⟨rfl, hb2⟩
    have hc0 : w2.cell? ⟨w.heap.size, 0, none⟩ = some (.int .i64 za) := (hb2.cell (p := ⟨w.heap.size, 0, none⟩) (by simp)).trans H1.out.2.1
    have hc1 : w2.cell? ⟨w.heap.size, 1, none⟩ = some (.int .i64 zb) := (hb2.cell (p := ⟨w.heap.size, 1, none⟩) (by simp)).trans H1.out.2.2
    have hb2 := hb1.trans (hb2.mono hb1.size)
    obtain ⟨g3, k3, w3, hr3, ho3, hb3⟩ := copyB w2 A n c f (HA.out.2.2.1.below hb2) HA.out.2.2.2.2 (by have := HN.out.2; omega)
    have hs2 : w.heap.size < w2.heap.size := World.block_lt_of_cell? _ _ hc0
    have HQ := Lib.hid hr3
    have H3 := Lib.hid (show OR w3 w2.heap.size (sl8 g3 n k3) n f ∧ Below w.heap.size w w3 ∧ w3.cell? ⟨w.heap.size, 0, none⟩ = some (.int .i64 za) ∧ w3.cell? ⟨w.heap.size, 1, none⟩ = some (.int .i64 zb) from
      ⟨ho3, hb2.trans (hb3.mono hb2.size), (hb3.cell (p := ⟨w.heap.size, 0, none⟩) hs2).trans hc0, (hb3.cell (p := ⟨w.heap.size, 1, none⟩) hs2).trans hc1⟩)
    clear hb1 hb2 hr3 ho3 hb3 hs2 H1 hc0 hc1
    go_wp2_with (at_builtin; refine wpList_append_run rfl _ _ 23 rfl _ _ _ w3 rfl rfl HQ.out ?_)
    clear HQ
    refine (seal_any 0 m (some ⟨g3, 0, none⟩) n k3 f w3 (HA.out.1.below H3.out.2.1 HA.out.1.pos).1 H3.out.1.lt.2.2.2.2.opt (fun h => by cases h) HA.out.2.2.2.1 (by omega) HA.out.2.1 (by have := HN.out.2; omega)).mono ?_
    rintro e w4 ⟨x, rfl, hl, hlen, hdat, hb4⟩
    have hs3 : w.heap.size < w3.heap.size := World.block_lt_of_cell? _ _ H3.out.2.2.1
    have d0 : w4.cell? ⟨w.heap.size, 0, none⟩ = some (.int .i64 za) := (hb4.cell (p := ⟨w.heap.size, 0, none⟩) hs3).trans H3.out.2.2.1
    have d1 : w4.cell? ⟨w.heap.size, 1, none⟩ = some (.int .i64 zb) := (hb4.cell (p := ⟨w.heap.size, 1, none⟩) hs3).trans H3.out.2.2.2
    have hb4 := H3.out.2.1.trans (hb4.mono H3.out.2.1.size)
    have hn2 := HN.out.2
    obtain ⟨M, hM⟩ : ∃ M, M = 8 * x.len := ⟨_, rfl⟩
    obtain ⟨a, ha1, ha2, ha3⟩ := umod za (M : Int) (by omega) (by omega)
    obtain ⟨b, hb5, hb6, hb7⟩ := umod zb (M : Int) (by omega) (by omega)
    have u1 : IntKind.u64.wrap (x.len : Int) = (x.len : Int) := by rw [u64w]; omega
    have u2 : IntKind.u64.wrap ((x.len : Int) * 8) = (M : Int) := by rw [u64w]; omega
    have u3 : ((M : Int) == 0) = false := by rw [beq_eq_false_iff_ne]; omega
    have u4 : ¬ (M : Int) = 0 := by omega
    have u5 : IntKind.i64.wrap (a : Int) = (a : Int) := i64_nat _ (by omega) (by omega)
    have u6 : IntKind.i64.wrap (b : Int) = (b : Int) := i64_nat _ (by omega) (by omega)
    have u7 : (M == 0) = false := by rw [beq_eq_false_iff_ne]; omega
    have H4 := Lib.hid (And.intro hl (And.intro hlen (And.intro hdat (And.intro hb4 (And.intro hM (And.intro (show a < M by omega) (show b < M by omega)))))))
    have HS3 := Lib.hid (show w.heap.size ≤ w3.heap.size from Nat.le_of_lt hs3)
    obtain ⟨nl, hnl⟩ : ∃ nl, nl = x.len := ⟨_, rfl⟩
    rw [← hnl] at u1 u2
    have HNL := Lib.hid hnl
    unfold frV
    rw [← hnl]
    clear H3 hl hlen hdat hb4 hs3 hM ha1 hb5 hn2 hnl
    go_wp2
    go_quiet (fail)
    go_wp2
    have H5 := Lib.hid (show Lies (w4.drewN nq) w3.heap.size x ∧ Below w.heap.size w (w4.drewN nq) from ⟨H4.out.1.heap rfl, H4.out.2.2.2.1.trans (drew_below _ _ _)⟩)
    generalize w4.drewN nq = w5 at H5 ⊢
    clear d0 d1 ha2 ha3 hb6 hb7 u1 u2 u3 u4 u5 u6 u7
    have hab := H4.out.2.2.2.2.2
    have hM := H4.out.2.2.2.2.1
    have hlen := H4.out.2.1
    have hn2 := HN.out.2
    obtain ⟨X, hX⟩ : ∃ X, X = x.dat (a / 8) := ⟨_, rfl⟩
    have hXl : X < 256 := by rw [hX]; exact H5.out.1.lt _
    obtain ⟨q, r, mm, y, hq, hy, hr8, e1, e2, e3, e4, e5, e6⟩ := bit_facts a X hXl (by omega)
    have hcq : w5.cell? ⟨x.blk, q, none⟩ = some (.int .u8 (X : Int)) := by rw [hX, ← hq]; have := H5.out.1.atB.cell q (by omega); rwa [Nat.zero_add] at this
    have hfq : w5.frozen? ⟨x.blk, q, none⟩ = false := H5.out.1.own.frozen q
    have k4 : (q : Int) < (nl : Int) := by rw [HNL.out]; omega
    have hl6 : Lies ((w5.setCell ⟨x.blk, q, none⟩ (.int .u8 (y : Int))).drew) w3.heap.size ⟨x.blk, x.len, x.cap, Link.turn x.dat a⟩ := by rw [hq]; exact Lies.flip (w := w5.drew) (H5.out.1.heap rfl) a y (by rw [hy, hX])
    have hsz3 : w.heap.size ≤ w3.heap.size := HS3.out
    have hb6 : Below w.heap.size w ((w5.setCell ⟨x.blk, q, none⟩ (.int .u8 (y : Int))).drew) := (H5.out.2.drew).setCell (p := ⟨x.blk, q, none⟩) (Nat.le_trans hsz3 H5.out.1.lo) _
    have H6 := Lib.hid (And.intro hl6 hb6)
    clear H5 hab hM hlen hn2 hX hXl hq hy hr8 hl6 hb6 hsz3
    refine region_z 10 (fun w' => w'.cell? ⟨x.blk, q, none⟩ = some (.int .u8 (X : Int))) (by kernel_rfl) ?_
    have hS : w5.drew.cell? ⟨x.blk, q, none⟩ = some (.int .u8 (X : Int)) := hcq
    refine zt [10] (i := 0) rfl (.slice (some ⟨x.blk, 0, none⟩) nl x.cap) (by kernel_rfl) (by kernel_rfl) (by kernel_rfl) (by kernel_rfl) (fun _ _ _ h => h) hS (fun w' d1 => by go_simp) ?_
    try simp only [Act.put, List.setIfInBounds_toArray, List.set_cons_zero, List.set_cons_succ]
    refine zt [10] (i := 1) rfl (.int .i64 (a : Int)) (by kernel_rfl) (by kernel_rfl) (by kernel_rfl) (by kernel_rfl) (fun _ _ _ h => h) hS (fun w' d1 => by go_simp) ?_
    try simp only [Act.put, List.setIfInBounds_toArray, List.set_cons_zero, List.set_cons_succ]
    refine zt [10] (i := 2) rfl (.int .i64 (q : Int)) (by kernel_rfl) (by kernel_rfl) (by kernel_rfl) (by kernel_rfl) (fun _ _ _ h => h) hS (fun w' d1 => by go_simp) ?_
    try simp only [Act.put, List.setIfInBounds_toArray, List.set_cons_zero, List.set_cons_succ]
    refine zt [10] (i := 3) rfl (.pointer (some ⟨x.blk, q, none⟩)) (by kernel_rfl) (by kernel_rfl) (by kernel_rfl) (by kernel_rfl) (fun _ _ _ h => h) hS (fun w' d1 => by go_simp) ?_
    try simp only [Act.put, List.setIfInBounds_toArray, List.set_cons_zero, List.set_cons_succ]
    refine zt [10] (i := 4) rfl (.int .u8 (X : Int)) (by kernel_rfl) (by kernel_rfl) (by kernel_rfl) (by kernel_rfl) (fun _ _ _ h => h) hS (fun w' d1 => by go_simp) ?_
    try simp only [Act.put, List.setIfInBounds_toArray, List.set_cons_zero, List.set_cons_succ]
    refine zt [10] (i := 5) rfl (.int .i64 (a : Int)) (by kernel_rfl) (by kernel_rfl) (by kernel_rfl) (by kernel_rfl) (fun _ _ _ h => h) hS (fun w' d1 => by go_simp) ?_
    try simp only [Act.put, List.setIfInBounds_toArray, List.set_cons_zero, List.set_cons_succ]
    refine zt [10] (i := 6) rfl (.int .i64 (r : Int)) (by kernel_rfl) (by kernel_rfl) (by kernel_rfl) (by kernel_rfl) (fun _ _ _ h => h) hS (fun w' d1 => by go_simp) ?_
    try simp only [Act.put, List.setIfInBounds_toArray, List.set_cons_zero, List.set_cons_succ]
    refine zt [10] (i := 7) rfl (.int .u8 (mm : Int)) (by kernel_rfl) (by kernel_rfl) (by kernel_rfl) (by kernel_rfl) (fun _ _ _ h => h) hS (fun w' d1 => by go_simp) ?_
    try simp only [Act.put, List.setIfInBounds_toArray, List.set_cons_zero, List.set_cons_succ]
    refine zt [10] (i := 8) rfl (.int .u8 (y : Int)) (by kernel_rfl) (by kernel_rfl) (by kernel_rfl) (by kernel_rfl) (fun _ _ _ h => h) hS (fun w' d1 => by go_simp) ?_
    try simp only [Act.put, List.setIfInBounds_toArray, List.set_cons_zero, List.set_cons_succ]
    refine z1 (i := 9) (by kernel_rfl) rfl (fun K hK => ?_)
    go_simp
    refine hK.out _ _ (.inr hS) ?_
    clear hK K
    try simp only [Act.put, List.setIfInBounds_toArray, List.set_cons_zero, List.set_cons_succ]
    refine z1 (i := 10) (by kernel_rfl) rfl (fun K hK => ?_)
    go_simp
    refine hK.out _ _ (.inl rfl) ?_
    clear hK K
    refine wpAnyZ_done (by kernel_rfl) ?_ _
    clear hcq hfq e1 e2 e3 e4 e5 e6 hS k4
    generalize (w5.setCell ⟨x.blk, q, none⟩ (.int .u8 (y : Int))).drew = w6 at *
    go_wp2_with fail
    have hF : ¬ Link.isF (Link.turn x.dat a) x.len := by
      rw [H4.out.2.2.1, H4.out.2.1]
      exact Link.isF_turn m n f HA.out.2.2.2.1 a (by have := H4.out.2.2.2.2; have := H4.out.2.1; omega)
    refine (open_any (some ⟨x.blk, 0, none⟩) nl x.cap (Link.turn x.dat a) w6 (HA.out.1.below H6.out.2 HA.out.1.pos).1 (by rw [HNL.out]; exact H6.out.1.atBO) H6.out.1.lt (by rw [HNL.out]; exact H6.out.1.own.lt.2.2.1) (by rw [HNL.out, H4.out.2.1]; have := HN.out.2; omega)).mono ?_
    rintro e w7 (⟨h1, _⟩ | ⟨_, rfl, hb7⟩)
    · rw [HNL.out] at h1; exact absurd h1 hF
    have H7 := Lib.hid (And.intro (H6.out.1.below hb7) (H6.out.2.trans (hb7.mono H6.out.2.size)))
    clear hb7 H6 hF
    go_wp2
    have hab := H4.out.2.2.2.2.2
    have hM := H4.out.2.2.2.2.1
    have hlen := H4.out.2.1
    have hn2 := HN.out.2
    obtain ⟨X, hX⟩ : ∃ X, X = Link.turn x.dat a (b / 8) := ⟨_, rfl⟩
    have hXl : X < 256 := by rw [hX]; exact H7.out.1.lt _
    obtain ⟨q, r, mm, y, hq, hy, hr8, e1, e2, e3, e4, e5, e6⟩ := bit_facts b X hXl (by omega)
    have hcq : w7.cell? ⟨x.blk, q, none⟩ = some (.int .u8 (X : Int)) := by
      rw [hX, ← hq]
      have := H7.out.1.atB.cell q (by show q < x.len; omega)
      rwa [Nat.zero_add] at this
    have hfq : w7.frozen? ⟨x.blk, q, none⟩ = false := H7.out.1.own.frozen q
    have k4 : (q : Int) < (nl : Int) := by rw [HNL.out]; omega
    have hl6 : Lies ((w7.setCell ⟨x.blk, q, none⟩ (.int .u8 (y : Int))).drew) w3.heap.size ⟨x.blk, x.len, x.cap, Link.turn (Link.turn x.dat a) b⟩ := by rw [hq]; exact Lies.flip (w := w7.drew) (x := ⟨x.blk, x.len, x.cap, Link.turn x.dat a⟩) (H7.out.1.heap rfl) b y (by rw [hy, hX])
    have hsz3 : w.heap.size ≤ w3.heap.size := HS3.out
    have hb6 : Below w.heap.size w ((w7.setCell ⟨x.blk, q, none⟩ (.int .u8 (y : Int))).drew) := (H7.out.2.drew).setCell (p := ⟨x.blk, q, none⟩) (Nat.le_trans hsz3 H7.out.1.lo) _
    have H8 := Lib.hid (And.intro hl6 hb6)
    clear H7 hab hM hlen hn2 hX hXl hq hy hr8 hl6 hb6 hsz3
    refine region_z 10 (fun w' => w'.cell? ⟨x.blk, q, none⟩ = some (.int .u8 (X : Int))) (by kernel_rfl) ?_
    have hS : w7.drew.cell? ⟨x.blk, q, none⟩ = some (.int .u8 (X : Int)) := hcq
    refine zt [10] (i := 0) rfl (.slice (some ⟨x.blk, 0, none⟩) nl x.cap) (by kernel_rfl) (by kernel_rfl) (by kernel_rfl) (by kernel_rfl) (fun _ _ _ h => h) hS (fun w' d1 => by go_simp) ?_
    try simp only [Act.put, List.setIfInBounds_toArray, List.set_cons_zero, List.set_cons_succ]
    refine zt [10] (i := 1) rfl (.int .i64 (b : Int)) (by kernel_rfl) (by kernel_rfl) (by kernel_rfl) (by kernel_rfl) (fun _ _ _ h => h) hS (fun w' d1 => by go_simp) ?_
    try simp only [Act.put, List.setIfInBounds_toArray, List.set_cons_zero, List.set_cons_succ]
    refine zt [10] (i := 2) rfl (.int .i64 (q : Int)) (by kernel_rfl) (by kernel_rfl) (by kernel_rfl) (by kernel_rfl) (fun _ _ _ h => h) hS (fun w' d1 => by go_simp) ?_
    try simp only [Act.put, List.setIfInBounds_toArray, List.set_cons_zero, List.set_cons_succ]
    refine zt [10] (i := 3) rfl (.pointer (some ⟨x.blk, q, none⟩)) (by kernel_rfl) (by kernel_rfl) (by kernel_rfl) (by kernel_rfl) (fun _ _ _ h => h) hS (fun w' d1 => by go_simp) ?_
    try simp only [Act.put, List.setIfInBounds_toArray, List.set_cons_zero, List.set_cons_succ]
    refine zt [10] (i := 4) rfl (.int .u8 (X : Int)) (by kernel_rfl) (by kernel_rfl) (by kernel_rfl) (by kernel_rfl) (fun _ _ _ h => h) hS (fun w' d1 => by go_simp) ?_
    try simp only [Act.put, List.setIfInBounds_toArray, List.set_cons_zero, List.set_cons_succ]
    refine zt [10] (i := 5) rfl (.int .i64 (b : Int)) (by kernel_rfl) (by kernel_rfl) (by kernel_rfl) (by kernel_rfl) (fun _ _ _ h => h) hS (fun w' d1 => by go_simp) ?_
    try simp only [Act.put, List.setIfInBounds_toArray, List.set_cons_zero, List.set_cons_succ]
    refine zt [10] (i := 6) rfl (.int .i64 (r : Int)) (by kernel_rfl) (by kernel_rfl) (by kernel_rfl) (by kernel_rfl) (fun _ _ _ h => h) hS (fun w' d1 => by go_simp) ?_
    try simp only [Act.put, List.setIfInBounds_toArray, List.set_cons_zero, List.set_cons_succ]
    refine zt [10] (i := 7) rfl (.int .u8 (mm : Int)) (by kernel_rfl) (by kernel_rfl) (by kernel_rfl) (by kernel_rfl) (fun _ _ _ h => h) hS (fun w' d1 => by go_simp) ?_
    try simp only [Act.put, List.setIfInBounds_toArray, List.set_cons_zero, List.set_cons_succ]
    refine zt [10] (i := 8) rfl (.int .u8 (y : Int)) (by kernel_rfl) (by kernel_rfl) (by kernel_rfl) (by kernel_rfl) (fun _ _ _ h => h) hS (fun w' d1 => by go_simp) ?_
    try simp only [Act.put, List.setIfInBounds_toArray, List.set_cons_zero, List.set_cons_succ]
    refine z1 (i := 9) (by kernel_rfl) rfl (fun K hK => ?_)
    go_simp
    refine hK.out _ _ (.inr hS) ?_
    clear hK K
    try simp only [Act.put, List.setIfInBounds_toArray, List.set_cons_zero, List.set_cons_succ]
    refine z1 (i := 10) (by kernel_rfl) rfl (fun K hK => ?_)
    go_simp
    refine hK.out _ _ (.inl rfl) ?_
    clear hK K
    refine wpAnyZ_done (by kernel_rfl) ?_ _
    clear hcq hfq e1 e2 e3 e4 e5 e6 hS k4
    generalize (w7.setCell ⟨x.blk, q, none⟩ (.int .u8 (y : Int))).drew = w8 at *
    go_wp2_with fail
    have hF : Link.isF (Link.turn (Link.turn x.dat a) b) x.len ↔ a = b := by
      rw [H4.out.2.2.1, H4.out.2.1]
      exact Link.isF_turn2 m n f HA.out.2.2.2.1 (by have := HN.out.2; omega) a b (by have := H4.out.2.2.2.2; have := H4.out.2.1; omega) (by have := H4.out.2.2.2.2; have := H4.out.2.1; omega)
    refine (open_any (some ⟨x.blk, 0, none⟩) nl x.cap (Link.turn (Link.turn x.dat a) b) w8 (HA.out.1.below H8.out.2 HA.out.1.pos).1 (by rw [HNL.out]; exact H8.out.1.atBO) H8.out.1.lt (by rw [HNL.out]; exact H8.out.1.own.lt.2.2.1) (by rw [HNL.out, H4.out.2.1]; have := HN.out.2; omega)).mono ?_
    rintro e w9 (⟨h1, g9, rfl, _, hb9⟩ | ⟨h1, rfl, hb9⟩)
    · rw [HNL.out] at h1
      have hab := hF.1 h1
      have H9 := Lib.hid (H8.out.2.trans (hb9.mono H8.out.2.size))
      subst hab
      generalize Link.num (Link.turn (Link.turn x.dat a) a) = nn
      generalize Link.turn (Link.turn x.dat a) a 0 = n0
      unfold frV
      clear h1 hb9 hF H8
      go_wp2
      go_ret
      exact ⟨rfl, H9.out⟩
    · rw [HNL.out] at h1
      have hab : a ≠ b := fun e => h1 (hF.2 e)
      have H9 := Lib.hid (H8.out.2.trans (hb9.mono H8.out.2.size))
      have k8 : ((a : Int) == (b : Int)) = false := by rw [beq_eq_false_iff_ne]; omega
      have k9 : (a == b) = false := by rw [beq_eq_false_iff_ne]; omega
      clear h1 hb9 hF H8 hab
      go_wp2
      go_ret
      exact ⟨rfl, H9.out⟩
end Go.Proofs.YteadpnododjeaaaDoor
