/- WireDigestTells' walk. -/
import Derived.Test.YtoeohodajoibjaaDoorWX1
namespace Go.Proofs.YtoeohodajoibjaaDoor
open Go.RowKit

/-- f with the byte x at place k. -/
def setAt (f : Nat → Nat) (k x q : Nat) : Nat := if q = k then x else f q
theorem OR.block {w : World} {base g n c : Nat} {f : Nat → Nat} (h : OR w base (sl8 g n c) n f) : ∃ cur, w.heap[g]? = some (.cells cur 5 (0, 0)) ∧ cur.size = c ∧ n ≤ c ∧ c ≤ maxLen ∧ cur.toList.take n = (bys n f).toList ∧ base ≤ g := by
  rcases h.2 with ⟨hx, _⟩ | ⟨g', cap, cur, hv, hb, hg, hnc, hm, hsz, ht⟩
  · cases hx
  · injection hv with e1 e2 e3
    injection e1 with e1
    injection e1 with e1
    subst e1 e3
    exact ⟨cur, hg, by rw [hsz, Nat.mul_one], hnc, hm, by rw [Nat.mul_one] at ht; exact ht, hb⟩
theorem OR.frozen {w : World} {base g n c : Nat} {f : Nat → Nat} (h : OR w base (sl8 g n c) n f) (i : Nat) : w.frozen? ⟨g, i, none⟩ = false := by
  obtain ⟨cur, hg, _⟩ := h.block
  simp [World.frozen?, hg]
theorem OR.put {w : World} {base g n c : Nat} {f : Nat → Nat} (h : OR w base (sl8 g n c) n f) (k x : Nat) (hk : k < n) : OR (w.setCell ⟨g, k, none⟩ (.int .u8 (x : Int))) base (sl8 g n c) n (setAt f k x) := by
  obtain ⟨cur, hg, hs, hnc, hm, ht, hb⟩ := h.block
  refine ⟨by simp [bys_size], .inr ⟨g, c, cur.setIfInBounds k (.int .u8 (x : Int)), rfl, hb, ?_, hnc, hm, by simp [hs], ?_⟩⟩
  · simp [World.setCell, Array.getElem?_modify, hg]
  · rw [Nat.mul_one]
    apply List.ext_getElem?
    intro j
    have hj := congrArg (fun l => l[j]?) ht
    simp only [List.getElem?_take, Array.getElem?_toList] at hj ⊢
    rw [Array.getElem?_setIfInBounds]
    by_cases hjn : j < n
    · rw [if_pos hjn] at hj ⊢
      rw [bys_get _ _ _ hjn] at hj ⊢
      unfold setAt
      by_cases e : k = j
      · subst e; rw [if_pos rfl, if_pos (by omega), if_pos rfl]
      · rw [if_neg e, hj, if_neg (fun h => e h.symm)]
    · rw [if_neg hjn, bys_none _ _ _ (by omega)]
theorem setAt_lt {f : Nat → Nat} {k x : Nat} (hf : ∀ i, f i < 256) (hx : x < 256) : ∀ i, setAt f k x i < 256 := fun i => by
  unfold setAt
  split
  · exact hx
  · exact hf i
theorem tells_true (f : Nat → Nat) (n k j : Nat) (hj : j < 2) (x : Nat) (hf : ∀ i, f i < 256) (hx : x < 256) (hk : k < n) : (dg f n j = dg (setAt f k x) n j) ↔ x = f k := by
  constructor
  · intro h
    apply Classical.byContradiction
    intro hne
    refine Wire.fnv_tells (st j) (st_lt j hj) (f := f) (g := setAt f k x) hf (setAt_lt hf hx) k ?_ (fun i hi => by unfold setAt; rw [if_neg hi]) n hk h
    unfold setAt; rw [if_pos rfl]; exact fun e => hne e.symm
  · intro h
    exact Wire.fnv_congr (st j) n fun i _ => by
      unfold setAt
      by_cases e : i = k
      · rw [if_pos e, e, h]
      · rw [if_neg e]
theorem xor_self_iff (a t : Nat) : a ^^^ t = a ↔ t = 0 := by
  constructor
  · intro h
    have := congrArg (fun z => a ^^^ z) h
    simpa [← Nat.xor_assoc] using this
  · rintro rfl; simp
set_option maxHeartbeats 2000000 in
set_option maxRecDepth 100000 in
theorem tells_walk (A : Option Addr) (n c : Nat) (f : Nat → Nat) (at0 : Int) (t : Nat) (w : World) (hA : AtBO w A n f) (h0 : A = none → n = 0 ∧ c = 0) (hn : n ≤ 140737488355328) (hf : ∀ i, f i < 256) (ht : t < 256) :
    Calls Tryd.prog 8 #[.slice A n c, .int .i64 at0, .int .u8 (t : Int)] w fun e w' => e = .returned (.bool true) ∧ Below w.heap.size w w' := by
  have HA := Lib.hid (And.intro hA (And.intro h0 hf))
  clear hA h0 hf
  go_enter Tryd.func8, Tryd.ntmps8
  go_wp2_with fail
  refine (awake_any w).mono ?_
  rintro e w1 ⟨rfl, hb1⟩
  by_cases hz : n = 0
  · subst hz
    have HB := Lib.hid hb1
    clear hb1
    go_wp2_with fail
    refine (awake_any w1).mono ?_
    rintro e w2 ⟨rfl, hb2⟩
    have HB2 := Lib.hid (HB.out.trans (hb2.mono HB.out.size))
    clear hb2
    go_wp2
    go_ret
    exact ⟨rfl, HB2.out⟩
  · obtain ⟨g, k, w2, hr, ho, hb2⟩ := copyB w1 A n c f (HA.out.1.below hb1) HA.out.2.1 hn
    obtain ⟨q, hq⟩ : ∃ q : Nat, (q : Int) = at0 % 18446744073709551616 := ⟨(at0 % 18446744073709551616).toNat, by omega⟩
    obtain ⟨i, hi⟩ : ∃ i, i = q % n := ⟨_, rfl⟩
    have hin : i < n := by rw [hi]; exact Nat.mod_lt _ (by omega)
    have hz1 : ¬ (n : Int) = 0 := by omega
    have e1 : IntKind.u64.wrap at0 = (q : Int) := by rw [u64w, hq]
    have e1' : at0 % 18446744073709551616 = (q : Int) := hq.symm
    have e2 : IntKind.u64.wrap (n : Int) = (n : Int) := by rw [u64w]; omega
    have e3 : (q : Int) % (n : Int) = (i : Int) := by rw [hi]; exact (Int.natCast_emod q n).symm
    have e3' : (q : Int).tmod (n : Int) = (i : Int) := by rw [Int.tmod_eq_emod_of_nonneg (by omega)]; exact e3
    have e4 : IntKind.i64.wrap (i : Int) = (i : Int) := i64_nat _ (by omega) (by omega)
    have e5 : (i : Int) < (n : Int) := by omega
    have hfi := HA.out.2.2 i
    have e6 := bits8_xor (f i) t hfi ht
    have cc := AtB.cell ho.lt.2.2.2.2 i hin
    rw [Nat.zero_add] at cc
    have zz := ho.frozen i
    have hb12 := hb1.trans (hb2.mono hb1.size)
    have hgw : w.heap.size ≤ g := Nat.le_trans hb1.size ho.lt.1
    have hoN := ho.put i (f i ^^^ t) hin
    have hbN := hb12.setCell (p := ⟨g, i, none⟩) hgw (.int .u8 ((f i ^^^ t : Nat) : Int))
    have HQ := Lib.hid hr
    have HN := Lib.hid (And.intro hoN (And.intro hbN (HA.out.1.below hbN)))
    clear hr ho hb1 hb2 hb12 hgw hoN hbN hq hi
    go_wp2_with (at_builtin; refine wpList_append_run rfl _ _ 22 rfl _ _ _ w2 rfl rfl HQ.out ?_)
    generalize w2.setCell ⟨g, i, none⟩ (.int .u8 ((f i ^^^ t : Nat) : Int)) = w3 at HN ⊢
    clear cc zz HQ
    have hx8 : f i ^^^ t < 256 := Nat.xor_lt_two_pow (n := 8) hfi ht
    refine (digest_any _ n c f w3 HN.out.2.2 (by unfold maxLen; omega) HA.out.2.2).mono ?_
    rintro e w4 ⟨rfl, hb4⟩
    have H4 := Lib.hid (And.intro (AtB.below HN.out.1.lt.2.2.2.2 hb4) (HN.out.2.1.trans (hb4.mono HN.out.2.1.size)))
    clear hb4 HN
    have h00 := tells_true f n i 0 (by omega) (f i ^^^ t) HA.out.2.2 hx8 hin
    have h11 := tells_true f n i 1 (by omega) (f i ^^^ t) HA.out.2.2 hx8 hin
    rw [xor_self_iff] at h00 h11
    go_wp2_with fail
    refine (digest_any _ n k (setAt f i (f i ^^^ t)) w4 H4.out.1.opt (by unfold maxLen; omega) (setAt_lt HA.out.2.2 hx8)).mono ?_
    rintro e w5 ⟨rfl, hb5⟩
    generalize dg f n 0 = x0 at h00 ⊢
    generalize dg f n 1 = x1 at h11 ⊢
    generalize dg (setAt f i (f i ^^^ t)) n 0 = y0 at h00 ⊢
    generalize dg (setAt f i (f i ^^^ t)) n 1 = y1 at h11 ⊢
    have HB := Lib.hid (H4.out.2.trans (hb5.mono H4.out.2.size))
    clear hb5 H4 hfi e6 hx8 e1 e1' e2 e3 e3' e4 e5
    have HX := Lib.hid (And.intro h00 h11)
    clear h00 h11
    by_cases ht0 : t = 0
    · obtain rfl : x0 = y0 := HX.out.1.2 ht0
      obtain rfl : x1 = y1 := HX.out.2.2 ht0
      subst ht0
      go_wp2
      go_ret
      exact ⟨rfl, (HB.out.alloc HB.out.size _).alloc (by have := HB.out.size; simp; omega) _⟩
    · have k0 : ((x0 : Int) == (y0 : Int)) = false := beq_false_of_ne fun h => ht0 (HX.out.1.1 (by omega))
      have k1 : ((x1 : Int) == (y1 : Int)) = false := beq_false_of_ne fun h => ht0 (HX.out.2.1 (by omega))
      have k2 : ((t : Int) == 0) = false := beq_false_of_ne (by omega)
      go_wp2
      go_ret
      exact ⟨rfl, (HB.out.alloc HB.out.size _).alloc (by have := HB.out.size; simp; omega) _⟩
end Go.Proofs.YtoeohodajoibjaaDoor
