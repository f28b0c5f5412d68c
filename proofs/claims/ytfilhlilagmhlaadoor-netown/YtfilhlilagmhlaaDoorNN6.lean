/- Contract: Flip. -/
import Derived.Test.YtfilhlilagmhlaaDoorNN5
namespace Go.Proofs.YtfilhlilagmhlaaDoor
open Go.RowKit

theorem shl1_val (r y : Nat) (hr : r < 8) (hy : y = 2 ^ r) : IntKind.u8.wrap (2 ^ min r 8) = (y : Int) := by
  rcases (show r = 0 ∨ r = 1 ∨ r = 2 ∨ r = 3 ∨ r = 4 ∨ r = 5 ∨ r = 6 ∨ r = 7 by omega) with rfl | rfl | rfl | rfl | rfl | rfl | rfl | rfl <;> subst hy <;> rfl
/-- A bit turned. -/
def flipD (f : Nat → Nat) (B : Nat) (i : Nat) : Nat := if i = B / 8 then f i ^^^ 2 ^ (B % 8) else f i
theorem xor_lt {X r : Nat} (hX : X < 256) (hr : r < 8) : X ^^^ 2 ^ r < 256 := Nat.xor_lt_two_pow (n := 8) hX (by
  have : 2 ^ r < 2 ^ 8 := Nat.pow_lt_pow_right (by omega) hr
  exact this)
theorem flipD_lt {f : Nat → Nat} (hf : ∀ i, f i < 256) (B i : Nat) : flipD f B i < 256 := by
  unfold flipD
  split
  · exact xor_lt (hf i) (Nat.mod_lt _ (by omega))
  · exact hf i
def Fr.turn (x : Fr) (B : Nat) : Fr := ⟨x.blk, x.len, flipD x.dat B⟩
theorem nd_ne {L : List Fr} (h : (L.map Fr.blk).Nodup) {i j : Nat} {x y : Fr} (hx : L[i]? = some x) (hy : L[j]? = some y) (hij : i ≠ j) : x.blk ≠ y.blk := fun e => by
  refine hij ((List.getElem?_inj (l := L.map Fr.blk) (by rw [List.length_map]; exact (List.getElem?_eq_some_iff.1 hx).1) h).1 ?_)
  rw [List.getElem?_map, List.getElem?_map, hx, hy]
  exact congrArg some e
theorem mem_set {L : List Fr} {i : Nat} {x y : Fr} (h : y ∈ L.set i x) : y = x ∨ ∃ j, j ≠ i ∧ L[j]? = some y := by
  obtain ⟨j, hj⟩ := List.getElem?_of_mem h
  rw [List.getElem?_set] at hj
  split at hj
  · split at hj
    · exact .inl (Option.some.inj hj).symm
    · cases hj
  · rename_i hne
    exact .inr ⟨j, fun e => hne e.symm, hj⟩
theorem map_set_blk {L : List Fr} {i : Nat} {x y : Fr} (hx : L[i]? = some x) (hy : y.blk = x.blk) : (L.set i y).map Fr.blk = L.map Fr.blk := by
  apply List.ext_getElem?
  intro j
  rw [List.getElem?_map, List.getElem?_map, List.getElem?_set]
  split
  · rename_i e
    subst e
    rw [hx]
    split
    · exact congrArg some hy
    · rename_i hn
      exact absurd (List.getElem?_eq_some_iff.1 hx).1 hn
  · rfl
theorem map_set_frV {L : List Fr} {i : Nat} {x : Fr} (B : Nat) (hx : L[i]? = some x) : (L.set i (x.turn B)).map frV = L.map frV := by
  apply List.ext_getElem?
  intro j
  rw [List.getElem?_map, List.getElem?_map, List.getElem?_set]
  split
  · rename_i e
    subst e
    rw [hx]
    split
    · rfl
    · rename_i hn
      exact absurd (List.getElem?_eq_some_iff.1 hx).1 hn
  · rfl
/-- A bit of the frame i is turned: that is all that has changed. -/
theorem NetAt.flip {w : World} {base : Nat} {s : St} {k i B y : Nat} {x : Fr} (h : NetAt w base s) (hk : k < 2) (hx : (s.L k)[i]? = some x) (hy : y = x.dat (B / 8) ^^^ 2 ^ (B % 8)) :
    NetAt (w.setCell ⟨x.blk, B / 8, none⟩ (.int .u8 (y : Int))) base (s.put k (s.v k) ((s.L k).set i (x.turn B))) ∧ Grows s w (s.put k (s.v k) ((s.L k).set i (x.turn B))) ∧ Kept s w (w.setCell ⟨x.blk, B / 8, none⟩ (.int .u8 (y : Int))) := by
  have hxm := List.mem_of_getElem? hx
  have hl := h.fr k hk x hxm
  have hset : ∀ b, b ≠ x.blk → (w.setCell ⟨x.blk, B / 8, none⟩ (.int .u8 (y : Int))).heap[b]? = w.heap[b]? := fun b hb => Below.heap_setCell w _ _ b hb
  have hpx : s.p ≠ x.blk := Ne.symm (heap_ne hl.own h.net (by decide))
  have hvx : ∀ q, q < 2 → (s.v q).ownBlock ≠ some x.blk := fun q hq e => by
    obtain ⟨_, cur, h2⟩ := (h.way q hq).block e
    exact heap_ne hl.own h2 (by decide) rfl
  have hx' : Lies (w.setCell ⟨x.blk, B / 8, none⟩ (.int .u8 (y : Int))) base (x.turn B) := by
    refine ⟨?_, hl.lo, flipD_lt hl.lt B, hl.small⟩
    refine (hl.own.set (B / 8) y).congr fun q _ => ?_
    show (if q = B / 8 then y else x.dat q) = flipD x.dat B q
    unfold flipD
    by_cases e : q = B / 8
    · rw [if_pos e, if_pos e, hy, e]
    · rw [if_neg e, if_neg e]
  have hmem : ∀ q, q < 2 → ∀ z ∈ (s.put k (s.v k) ((s.L k).set i (x.turn B))).L q, (q = k ∧ z = x.turn B) ∨ (z ∈ s.L q ∧ z.blk ≠ x.blk) := fun q hq z hz => by
    by_cases e : q = k
    · subst e
      rw [St.put_L] at hz
      rcases mem_set hz with rfl | ⟨j, hj, hz⟩
      · exact .inl ⟨rfl, rfl⟩
      · exact .inr ⟨List.mem_of_getElem? hz, nd_ne (h.nd q hq) hz hx hj⟩
    · rw [St.put_Lo _ _ _ _ _ e] at hz
      exact .inr ⟨hz, (h.ap q k hq hk e).2 z hz x hxm⟩
  have hv : ∀ q, (s.put k (s.v k) ((s.L k).set i (x.turn B))).v q = s.v q := fun q => by
    by_cases e : q = k
    · subst e; rw [St.put_v]
    · rw [St.put_vo _ _ _ _ _ e]
  refine ⟨⟨?_, h.lo, fun q hq => ?_, fun q hq z hz => ?_, fun q hq => ?_, fun q r hq hr hne => ⟨fun b hb => ?_, fun z hz u hu => ?_⟩, fun q hq => ?_⟩, ?_, ⟨rfl, rfl, rfl, by simp [World.setCell], fun b hb ho => hset b fun e => ho (.inr ⟨k, hk, .inr ⟨x, hxm, e.symm⟩⟩)⟩⟩
  · rw [hv, hv]; exact (hset _ hpx).trans h.net
  · rw [hv]
    have hw := (h.way q hq).heap (w' := w.setCell ⟨x.blk, B / 8, none⟩ (.int .u8 (y : Int))) fun b hb => hset b fun e => hvx q hq (by rw [← e]; exact hb)
    by_cases e : q = k
    · subst e
      rw [St.put_L]
      unfold Way
      rw [List.length_set, map_set_frV B hx]
      exact hw
    · rw [St.put_Lo _ _ _ _ _ e]; exact hw
  · rcases hmem q hq z hz with ⟨_, rfl⟩ | ⟨hz, hne⟩
    · exact hx'
    · exact (h.fr q hq z hz).heap (hset _ hne)
  · by_cases e : q = k
    · subst e; rw [St.put_L, map_set_blk (y := x.turn B) hx rfl]; exact h.nd q hq
    · rw [St.put_Lo _ _ _ _ _ e]; exact h.nd q hq
  · rw [hv] at hb ⊢; exact (h.ap q r hq hr hne).1 b hb
  · rcases hmem q hq z hz with ⟨rfl, rfl⟩ | ⟨hz, hz2⟩
    · rcases hmem r hr u hu with ⟨rfl, rfl⟩ | ⟨hu, hu2⟩
      · exact absurd rfl hne
      · exact Ne.symm hu2
    · rcases hmem r hr u hu with ⟨rfl, rfl⟩ | ⟨hu, hu2⟩
      · exact hz2
      · exact (h.ap q r hq hr hne).2 z hz u hu
  · by_cases e : q = k
    · subst e; rw [St.put_L, List.length_set]; exact h.short q hq
    · rw [St.put_Lo _ _ _ _ _ e]; exact h.short q hq
  · intro b ho
    refine .inl ?_
    rcases ho with rfl | ⟨q, hq, hb | ⟨z, hz, rfl⟩⟩
    · exact .inl rfl
    · rw [hv] at hb; exact .inr ⟨q, hq, .inl hb⟩
    · rcases hmem q hq z hz with ⟨rfl, rfl⟩ | ⟨hz, _⟩
      · exact .inr ⟨q, hq, .inr ⟨x, hxm, rfl⟩⟩
      · exact .inr ⟨q, hq, .inr ⟨z, hz, rfl⟩⟩
set_option maxHeartbeats 1000000 in
set_option maxRecDepth 100000 in
theorem flip_range (base : Nat) (s : St) (k i : Nat) (z : Int) (x : Fr) (w : World) (hN : NetAt w base s) (hk : k < 2) (hx : (s.L k)[i]? = some x) (hg : Handle w) (hz : z < 0 ∨ 8 * (x.len : Int) ≤ z) :
    Calls Tryd.prog 16 #[.pointer (some ⟨s.p, 0, none⟩), .int .i64 (k : Int), .int .i64 (i : Int), .int .i64 z] w (Err w 1) := by
  have HF := Lib.hid (find_ok base s k i x w hN hk hx)
  have HW := Lib.hid (wrap_bare 1 z sBit w hg)
  rw [bare] at HW
  have hs := (hN.fr k hk x (List.mem_of_getElem? hx)).small
  have e1 : IntKind.i64.wrap (8 * (x.len : Int)) = 8 * (x.len : Int) := i64_nat _ (by omega) (by omega)
  unfold frV at HF
  clear hN hk hx hg hs
  by_cases h0 : z < 0
  · clear hz
    go_enter Tryd.func16, Tryd.ntmps16
    go_wp2_with fail
    refine HF.out.mono ?_
    rintro e w1 ⟨rfl, rfl⟩
    go_wp2_with fail
    refine HW.out.mono ?_
    rintro e w1 ⟨rfl, hb⟩
    have HB := Lib.hid hb
    clear hb
    go_wp2
    go_ret
    exact ⟨_, rfl, HB.out⟩
  · have k1 : decide (z < 0) = false := decide_eq_false h0
    have k2 : 8 * (x.len : Int) ≤ z := by omega
    clear hz h0
    go_enter Tryd.func16, Tryd.ntmps16
    go_wp2_with fail
    refine HF.out.mono ?_
    rintro e w1 ⟨rfl, rfl⟩
    go_wp2_with fail
    refine HW.out.mono ?_
    rintro e w1 ⟨rfl, hb⟩
    have HB := Lib.hid hb
    clear hb
    go_wp2
    go_ret
    exact ⟨_, rfl, HB.out⟩
set_option maxHeartbeats 4000000 in
set_option maxRecDepth 100000 in
theorem flip_ok (base : Nat) (s : St) (k i B : Nat) (x : Fr) (w : World) (hN : NetAt w base s) (hk : k < 2) (hx : (s.L k)[i]? = some x) (hB : B < 8 * x.len) :
    Calls Tryd.prog 16 #[.pointer (some ⟨s.p, 0, none⟩), .int .i64 (k : Int), .int .i64 (i : Int), .int .i64 (B : Int)] w fun e w' => e = .returned .nilIface ∧ NetAt w' base (s.put k (s.v k) ((s.L k).set i (x.turn B))) ∧ Grows s w (s.put k (s.v k) ((s.L k).set i (x.turn B))) ∧ Kept s w w' := by
  have HF := Lib.hid (find_ok base s k i x w hN hk hx)
  have hl := hN.fr k hk x (List.mem_of_getElem? hx)
  obtain ⟨y, hy⟩ : ∃ y, y = x.dat (B / 8) ^^^ 2 ^ (B % 8) := ⟨_, rfl⟩
  have HE := Lib.hid (hN.flip (w := w) hk hx hy)
  obtain ⟨q, hq⟩ : ∃ q, q = B / 8 := ⟨_, rfl⟩
  obtain ⟨r, hr⟩ : ∃ r, r = B % 8 := ⟨_, rfl⟩
  obtain ⟨m, hm⟩ : ∃ m, m = 2 ^ r := ⟨_, rfl⟩
  have hs := hl.small
  have hlt := hl.lt q
  have hm2 : m < 256 := by
    have : 2 ^ r < 2 ^ 8 := Nat.pow_lt_pow_right (by omega) (by omega)
    rw [hm]; exact this
  have hc := hl.own.cell q (by omega)
  have hz := hl.own.frozen q
  have e1 : IntKind.i64.wrap (8 * (x.len : Int)) = 8 * (x.len : Int) := i64_nat _ (by omega) (by omega)
  have e2 : (B : Int).tdiv 8 = (q : Int) := by rw [Int.tdiv_eq_ediv_of_nonneg (by omega)]; omega
  have e3 : (B : Int).tmod 8 = (r : Int) := by rw [Int.tmod_eq_emod_of_nonneg (by omega)]; omega
  have e4 : IntKind.i64.wrap (q : Int) = (q : Int) := i64_nat _ (by omega) (by omega)
  have e5 : IntKind.i64.wrap (r : Int) = (r : Int) := i64_nat _ (by omega) (by omega)
  have e6 := shl1_val r m (by omega) hm
  have e7 := bits8_xor (x.dat q) m hlt hm2
  rw [hm, hr, hq, ← hy, ← hr, ← hm, ← hq] at e7
  have k1 : decide ((B : Int) < 0) = false := decide_eq_false (by omega)
  have k2 : decide (8 * (x.len : Int) ≤ (B : Int)) = false := decide_eq_false (by omega)
  have k3 : decide (8 * x.len ≤ B) = false := decide_eq_false (by omega)
  have k4 : (q : Int) < (x.len : Int) := by omega
  rw [← hq] at HE
  unfold frV at HF
  clear hN hk hx hB hl hy hq hr hm hs hlt hm2
  go_enter Tryd.func16, Tryd.ntmps16
  go_wp2_with fail
  refine HF.out.mono ?_
  rintro e w1 ⟨rfl, rfl⟩
  clear HF
  go_wp2
  clear k1 k2 k3 e1
  refine region_z 10 (fun w' => w'.cell? ⟨x.blk, q, none⟩ = some (.int .u8 (x.dat q : Int))) (by kernel_rfl) ?_
  have hS : w.drew.cell? ⟨x.blk, q, none⟩ = some (.int .u8 (x.dat q : Int)) := hc
  refine zt [10] (i := 0) rfl (.slice (some ⟨x.blk, 0, none⟩) x.len x.len) (by kernel_rfl) (by kernel_rfl) (by kernel_rfl) (by kernel_rfl) (fun _ _ _ h => h) hS (fun w' d1 => by go_simp) ?_
  try simp only [Act.put, List.setIfInBounds_toArray, List.set_cons_zero, List.set_cons_succ]
  refine zt [10] (i := 1) rfl (.int .i64 (B : Int)) (by kernel_rfl) (by kernel_rfl) (by kernel_rfl) (by kernel_rfl) (fun _ _ _ h => h) hS (fun w' d1 => by go_simp) ?_
  try simp only [Act.put, List.setIfInBounds_toArray, List.set_cons_zero, List.set_cons_succ]
  refine zt [10] (i := 2) rfl (.int .i64 (q : Int)) (by kernel_rfl) (by kernel_rfl) (by kernel_rfl) (by kernel_rfl) (fun _ _ _ h => h) hS (fun w' d1 => by go_simp) ?_
  try simp only [Act.put, List.setIfInBounds_toArray, List.set_cons_zero, List.set_cons_succ]
  refine zt [10] (i := 3) rfl (.pointer (some ⟨x.blk, q, none⟩)) (by kernel_rfl) (by kernel_rfl) (by kernel_rfl) (by kernel_rfl) (fun _ _ _ h => h) hS (fun w' d1 => by go_simp) ?_
  try simp only [Act.put, List.setIfInBounds_toArray, List.set_cons_zero, List.set_cons_succ]
  refine zt [10] (i := 4) rfl (.int .u8 (x.dat q : Int)) (by kernel_rfl) (by kernel_rfl) (by kernel_rfl) (by kernel_rfl) (fun _ _ _ h => h) hS (fun w' d1 => by go_simp) ?_
  try simp only [Act.put, List.setIfInBounds_toArray, List.set_cons_zero, List.set_cons_succ]
  refine zt [10] (i := 5) rfl (.int .i64 (B : Int)) (by kernel_rfl) (by kernel_rfl) (by kernel_rfl) (by kernel_rfl) (fun _ _ _ h => h) hS (fun w' d1 => by go_simp) ?_
  try simp only [Act.put, List.setIfInBounds_toArray, List.set_cons_zero, List.set_cons_succ]
  refine zt [10] (i := 6) rfl (.int .i64 (r : Int)) (by kernel_rfl) (by kernel_rfl) (by kernel_rfl) (by kernel_rfl) (fun _ _ _ h => h) hS (fun w' d1 => by go_simp) ?_
  try simp only [Act.put, List.setIfInBounds_toArray, List.set_cons_zero, List.set_cons_succ]
  refine zt [10] (i := 7) rfl (.int .u8 (m : Int)) (by kernel_rfl) (by kernel_rfl) (by kernel_rfl) (by kernel_rfl) (fun _ _ _ h => h) hS (fun w' d1 => by go_simp) ?_
  try simp only [Act.put, List.setIfInBounds_toArray, List.set_cons_zero, List.set_cons_succ]
  refine zt [10] (i := 8) rfl (.int .u8 (y : Int)) (by kernel_rfl) (by kernel_rfl) (by kernel_rfl) (by kernel_rfl) (fun _ _ _ h => h) hS (fun w' d1 => by go_simp) ?_
  try simp only [Act.put, List.setIfInBounds_toArray, List.set_cons_zero, List.set_cons_succ]
  refine z1 (i := 9) (by kernel_rfl) rfl (fun K hK => ?_)
  go_simp
  refine hK.out _ _ (.inr hS) ?_
  clear hK K
  try simp only [Act.put, List.setIfInBounds_toArray, List.set_cons_zero, List.set_cons_succ]
  refine z1 (i := 10) (by kernel_rfl) rfl (fun K hK => ?_)
  go_simp
  refine hK.out _ _ (.inl rfl) ?_
  clear hK K
  refine wpAnyZ_done (by kernel_rfl) ?_ _
  go_wp2
  go_ret
  obtain ⟨h1, h2, h3⟩ := HE.out
  exact ⟨rfl, h1.heap (fun _ _ => rfl), h2, ⟨h3.os, h3.tape, h3.output, h3.size, h3.block⟩⟩
end Go.Proofs.YtfilhlilagmhlaaDoor
