/- What GarbleChooses' walk asks for: words copied, OTs appended, what was dealt. -/
import Derived.Test.YtamejhhjfnfalaaDoorZGC3
import Derived.Test.YtamejhhjfnfalaaDoorMV
import Derived.Test.YtamejhhjfnfalaaDoorMO
namespace Go.Proofs.YtamejhhjfnfalaaDoor
open Go.RowKit

def wv (f : Nat → Int) (i : Nat) : Value := .int .u64 (f i)
theorem wv_one (f : Nat → Int) (i : Nat) : (wv f i).oneCell' = true := rfl
theorem eltU : Elt 61 26 (.int .u64 0) 1 8 := ⟨by kernel_rfl, Tryd.underlying61, info_parts (by kernel_rfl), rfl, by omega⟩
theorem made_wd (w : World) (N c : Nat) (hN : N ≤ c) (hc : c ≤ maxLen) : Row (w.alloc (.cells (madeCells #[Value.int .u64 0] c) 26)) w.heap.size 26 1 (.slice (some ⟨w.heap.size, 0, none⟩) N c) N (wv fun _ => 0) := by
  refine ⟨by rw [flat_length], .inr ⟨w.heap.size, c, _, rfl, Nat.le_refl _, heap_alloc_new w _, hN, hc, by rw [made_size, Nat.mul_one], ?_⟩⟩
  apply List.ext_getElem?
  intro i
  rw [List.getElem?_take]
  by_cases hi : i < N
  · rw [if_pos (by omega), flat_get _ _ _ (by omega), Array.getElem?_toList]
    exact made_get (.int .u64 0) rfl c i (by omega)
  · rw [if_neg (by omega), flat_none _ _ _ (by omega)]
theorem copy_wd (w : World) (B g N C : Nat) (F : Nat → Value) (A : Option Addr) (K c : Nat) (f : Nat → Int) (hR : Row w B 26 1 (.slice (some ⟨g, 0, none⟩) N C) N F) (hA : AtV w A K (wv f)) (h0 : A = none → K = 0 ∧ c = 0) :
    ∃ k w', (∀ ty, (Builtin.copy_ #[61, 61] ty #[.slice (some ⟨g, 0, none⟩) N C, .slice A K c]).run Tryd.prog w = .ok (goInt k) w') ∧ Row w' B 26 1 (.slice (some ⟨g, 0, none⟩) N C) N (fun i => if i < K then wv f i else F i) ∧ Chg (fun q => q = g) w w' := by
  rcases A with _ | ad
  · obtain ⟨rfl, rfl⟩ := h0 rfl
    exact ⟨0, w, fun ty => run_copy_nil Tryd.prog w 61 61 ty 26 _ _ _ eltU.und (by rw [eltU.size1]; rfl), hR.congr fun i _ => by simp, Chg.refl _ _⟩
  · obtain ⟨hl, h⟩ := hR
    rcases h with ⟨e1, _⟩ | ⟨g', cap, cur, e1, hb, hg, hnc, hm, hsz, ht⟩
    · cases e1
    · injection e1 with e1 _ e3
      injection e1 with e1
      injection e1 with e1
      subst e1 e3
      have hcl : (flat (min K N) (wv f)).length = Nat.min K N := flat_length _ _
      have hfit : 0 + (flat (min K N) (wv f)).length ≤ cur.size := by rw [flat_length]; omega
      refine ⟨_, _, fun ty => run_copy_row (P := Tryd.prog) w 61 61 ty 26 g 0 N C ad K c cur 26 (flat (min K N) (wv f)) eltU.und eltU.size1 hg hcl (fun j v hj => ?_) hfit (flat_one (wv_one f)), ⟨by rw [flat_length], .inr ⟨g, C, _, rfl, hb, setRow_heap _ _ _ _ _ _ hg, hnc, hm, ?_, ?_⟩⟩, ?_⟩
      · exact (hA.less (Nat.min_le_left K N)).news j v hj
      · simp [flat_length]
        omega
      · apply List.ext_getElem?
        intro j
        rw [List.getElem?_take]
        by_cases hj : j < N
        · rw [if_pos (by omega), flat_get _ _ _ (by omega)]
          simp only [List.take_zero, List.nil_append, Nat.zero_add]
          have h2 : (cur.toList.take (N * 1))[j]? = some (F j) := by rw [ht, flat_get _ _ _ (by omega)]
          rw [List.getElem?_take, if_pos (by omega)] at h2
          by_cases hk : j < K
          · rw [if_pos hk, List.getElem?_append_left (by rw [flat_length]; omega), flat_get _ _ _ (by omega)]
          · rw [if_neg hk, List.getElem?_append_right (by rw [flat_length]; omega), List.getElem?_drop, flat_length]
            rw [show min K N + (j - min K N) = j by omega]
            exact h2
        · rw [if_neg (by omega), flat_none _ _ _ (by omega)]
      · exact ⟨rfl, rfl, rfl, by simp [World.setRow], fun k _ hs => setRow_other w g k _ hs⟩
/-- An own list of words, as Load asks for it. -/
theorem Row.lst {w : World} {B n : Nat} {v : Value} {f : Nat → Int} (h : Row w B 26 1 v n (wv f)) : Co.Lst w v n f := by
  obtain ⟨A, c, rfl, h1, h2, h3, h4, _, _⟩ := h.read
  refine ⟨A, c, rfl, h1, h2, fun e => (h3 e).2, fun i hi => ?_⟩
  obtain ⟨ad, e, hc⟩ := h4 i (by omega)
  exact ⟨ad, e, hc⟩
/-- An OT appended. -/
theorem app_ot (w : World) (B b : Nat) (v : Value) (k : Nat) (p q : Nat → Lab) (c : Nat → Bool) (hR : Row w B 71 5 v k (ov p q c)) (hb : Blk w b 71 (otC (p k) (q k) (c k))) (hk : k < 1000) (hB : B ≤ w.heap.size) :
    ∃ g kk w', (∀ ty, (Builtin.append_ #[68, 68] ty #[v, .slice (some ⟨b, 0, none⟩) 1 1]).run Tryd.prog w = .ok (.slice (some ⟨g, 0, none⟩) (k + 1) kk) w') ∧ Row w' B 71 5 (.slice (some ⟨g, 0, none⟩) (k + 1) kk) (k + 1) (ov p q c) ∧ Chg (fun x => v.ownBlock = some x) w w' ∧ (v.ownBlock = some g ∨ w.heap.size ≤ g) := by
  have hA : AtV w (some ⟨b, 0, none⟩) (1 * 5) (ov (fun _ => p k) (fun _ => q k) (fun _ => c k)) := fun i hi => ⟨_, rfl, by
    rw [Addr.add_mid, Nat.zero_add]
    rcases (show i = 0 ∨ i = 1 ∨ i = 2 ∨ i = 3 ∨ i = 4 by omega) with rfl | rfl | rfl | rfl | rfl <;> exact Blk.cell hb _ rfl⟩
  obtain ⟨v', w', hr, hR', hg, hnil, hob⟩ := append_row eltO w B v k 1 (ov p q c) _ (some ⟨b, 0, none⟩) 1 hR hA (fun e => by cases e) (ov_one _ _ _) (by unfold maxLen; omega) (by omega) hB
  have hR2 : Row w' B 71 5 v' (k + 1) (ov p q c) := hR'.congr fun i hi => by
    by_cases h : i < k * 5
    · rw [if_pos h]
    · rw [if_neg h]
      obtain ⟨r, rfl⟩ : ∃ r, i = k * 5 + r := ⟨i - k * 5, by omega⟩
      unfold ov
      rw [show k * 5 + r - k * 5 = r by omega, show (k * 5 + r) / 5 = k by omega, show (k * 5 + r) % 5 = r % 5 by omega]
  have hch : Chg (fun x => v.ownBlock = some x) w w' := (Chg.refl _ w).grown hg (fun x hx => .inr hx)
  rcases hR2.2 with ⟨e1, e2⟩ | ⟨g, kk, cur, rfl, hgB, hG, hmk, _⟩
  · have := (hnil.1 e1).2; omega
  · refine ⟨g, kk, w', hr, hR2, hch, ?_⟩
    rcases hob with h | h
    · exact .inl h.symm
    · exact .inr (Nat.le_of_eq (Option.some.inj h).symm)
/-- What was dealt, as labels: the sender's two, the receiver's one and its choice. -/
def dP (f : Nat → Int) (i : Nat) : Lab := ((f (5 * i)).toNat, (f (5 * i + 1)).toNat)
def dQ (f : Nat → Int) (i : Nat) : Lab := ((f (5 * i + 2)).toNat, (f (5 * i + 3)).toNat)
def dC (f : Nat → Int) (i : Nat) : Bool := decide (f (5 * i + 4) % 2 = 1)
def dR (f : Nat → Int) (i : Nat) : Lab := if dC f i then dQ f i else dP f i
section
variable {f : Nat → Int} (hf : ∀ i, 0 ≤ f i ∧ f i < 18446744073709551616)
include hf
theorem dP_wd (i : Nat) : Garb.Wd (dP f i) := ⟨by have := hf (5 * i); show (f (5 * i)).toNat < _; omega, by have := hf (5 * i + 1); show (f (5 * i + 1)).toNat < _; omega⟩
theorem dQ_wd (i : Nat) : Garb.Wd (dQ f i) := ⟨by have := hf (5 * i + 2); show (f (5 * i + 2)).toNat < _; omega, by have := hf (5 * i + 3); show (f (5 * i + 3)).toNat < _; omega⟩
theorem dR_wd (i : Nat) : Garb.Wd (dR f i) := by
  unfold dR
  split
  · exact dQ_wd hf i
  · exact dP_wd hf i
theorem ot_sent (i : Nat) : #[Value.int .u64 (Co.O0 f 0 i 0), .int .u64 (Co.O0 f 0 i 1), .int .u64 (Co.O0 f 0 i 2), .int .u64 (Co.O0 f 0 i 3), .bool false] = otC (dP f i) (dQ f i) false := by
  have h0 := hf (5 * i)
  have h1 := hf (5 * i + 1)
  have h2 := hf (5 * i + 2)
  have h3 := hf (5 * i + 3)
  have e0 : Co.O0 f 0 i 0 = ((dP f i).1 : Int) := by show f (0 + 5 * i + 0) = ((f (5 * i)).toNat : Int); rw [show 0 + 5 * i + 0 = 5 * i by omega]; omega
  have e1 : Co.O0 f 0 i 1 = ((dP f i).2 : Int) := by show f (0 + 5 * i + 1) = ((f (5 * i + 1)).toNat : Int); rw [show 0 + 5 * i + 1 = 5 * i + 1 by omega]; omega
  have e2 : Co.O0 f 0 i 2 = ((dQ f i).1 : Int) := by show f (0 + 5 * i + 2) = ((f (5 * i + 2)).toNat : Int); rw [show 0 + 5 * i + 2 = 5 * i + 2 by omega]; omega
  have e3 : Co.O0 f 0 i 3 = ((dQ f i).2 : Int) := by show f (0 + 5 * i + 3) = ((f (5 * i + 3)).toNat : Int); rw [show 0 + 5 * i + 3 = 5 * i + 3 by omega]; omega
  rw [e0, e1, e2, e3]
theorem ot_recv (i : Nat) : #[Value.int .u64 (Co.O1 f 0 i 0), .int .u64 (Co.O1 f 0 i 1), .int .u64 (Co.O1 f 0 i 2), .int .u64 (Co.O1 f 0 i 3), .bool (Co.C1 f 0 i)] = otC (dR f i) (0, 0) (dC f i) := by
  have h0 := hf (5 * i)
  have h1 := hf (5 * i + 1)
  have h2 := hf (5 * i + 2)
  have h3 := hf (5 * i + 3)
  have ec : Co.C1 f 0 i = dC f i := by unfold Co.C1 dC; rw [Nat.zero_add]
  have e0 : Co.O1 f 0 i 0 = ((dR f i).1 : Int) := by
    unfold Co.O1 dR dC
    simp only [Nat.zero_add, Nat.add_zero]
    by_cases h : f (5 * i + 4) % 2 = 1
    · simp only [h, decide_true, if_true, Nat.zero_lt_succ]; show f (5 * i + 2) = ((f (5 * i + 2)).toNat : Int); omega
    · simp only [h, decide_false, if_false, Nat.zero_lt_succ, if_true, Bool.false_eq_true]; show f (5 * i) = ((f (5 * i)).toNat : Int); omega
  have e1 : Co.O1 f 0 i 1 = ((dR f i).2 : Int) := by
    unfold Co.O1 dR dC
    simp only [Nat.zero_add]
    by_cases h : f (5 * i + 4) % 2 = 1
    · simp only [h, decide_true, if_true, show (1 : Nat) < 2 by decide]; show f (5 * i + 2 + 1) = ((f (5 * i + 3)).toNat : Int); rw [show 5 * i + 2 + 1 = 5 * i + 3 by omega]; omega
    · simp only [h, decide_false, if_false, show (1 : Nat) < 2 by decide, if_true, Bool.false_eq_true]; show f (5 * i + 1) = ((f (5 * i + 1)).toNat : Int); omega
  have e2 : Co.O1 f 0 i 2 = 0 := by unfold Co.O1; rw [if_neg (by omega)]
  have e3 : Co.O1 f 0 i 3 = 0 := by unfold Co.O1; rw [if_neg (by omega)]
  rw [e0, e1, e2, e3, ec]
  rfl
end
/-- The receiver's label is the one of its bit. -/
theorem picked (f : Nat → Int) (z : Nat → Lab) (d : Lab) (x i : Nat) (hi : i < 64) : pickN (repN z (dP f) (dQ f) d (askN x (dC f) 64)) (dR f) x i = Garb.lab Garb.nadd (z i) d (x.testBit i) := by
  unfold pickN
  rw [repN_0, repN_1, askN_bit, show decide (i < 64) = true by simpa using hi, Bool.true_and]
  have h := Garb.pick_right Garb.nat_xr (z i) d (dP f i) (dQ f i) (dC f i) (x.testBit i)
  unfold dR
  rw [← h]
end Go.Proofs.YtamejhhjfnfalaaDoor
