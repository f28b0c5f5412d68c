/- Plain mathematics for the link laws: a frame's bytes, and which bytes are a frame's. No function of the program. -/
import Derived.Test.YteadpnododjeaaaDoorLinkMath
namespace Go.Proofs.YteadpnododjeaaaDoor
namespace Link

/-- The byte j of a number, the lowest first. -/
def by4 (s j : Nat) : Nat := s / 256 ^ j % 256
theorem by4_lt (s j : Nat) : by4 s j < 256 := Nat.mod_lt _ (by omega)
theorem by4_sum (s : Nat) (hs : s < 4294967296) : by4 s 0 + 256 * by4 s 1 + 65536 * by4 s 2 + 16777216 * by4 s 3 = s := by
  unfold by4
  rw [show (256 : Nat) ^ 0 = 1 from rfl, show (256 : Nat) ^ 1 = 256 from rfl, show (256 : Nat) ^ 2 = 65536 from rfl, show (256 : Nat) ^ 3 = 16777216 from rfl]
  omega
/-- Four bytes are just those of the number that they make. -/
theorem by4_of (a b c d : Nat) (ha : a < 256) (hb : b < 256) (hc : c < 256) (hd : d < 256) : by4 (a + 256 * b + 65536 * c + 16777216 * d) 0 = a ∧ by4 (a + 256 * b + 65536 * c + 16777216 * d) 1 = b ∧ by4 (a + 256 * b + 65536 * c + 16777216 * d) 2 = c ∧ by4 (a + 256 * b + 65536 * c + 16777216 * d) 3 = d := by
  unfold by4
  rw [show (256 : Nat) ^ 0 = 1 from rfl, show (256 : Nat) ^ 1 = 256 from rfl, show (256 : Nat) ^ 2 = 65536 from rfl, show (256 : Nat) ^ 3 = 16777216 from rfl]
  omega
/-- What stands ahead of the sum: kind, number, payload. -/
def ahead (kind num : Nat) (f : Nat → Nat) (i : Nat) : Nat := if i = 0 then kind else if i < 5 then by4 num (i - 1) else f (i - 5)
theorem ahead_lt (kind num : Nat) (f : Nat → Nat) (hk : kind < 256) (hf : ∀ i, f i < 256) (i : Nat) : ahead kind num f i < 256 := by
  unfold ahead
  split
  · exact hk
  · split
    · exact by4_lt _ _
    · exact hf _
def sum (kind num n : Nat) (f : Nat → Nat) : Nat := reg 4294967295 (ahead kind num f) (n + 5) ^^^ 4294967295
theorem sum_lt (kind num n : Nat) (f : Nat → Nat) (hk : kind < 256) (hf : ∀ i, f i < 256) : sum kind num n f < 4294967296 :=
  xor_lt32 (reg_lt (by omega) (ahead_lt kind num f hk hf) _) (by omega)
/-- A frame's bytes: n + 9 of them. -/
def sealB (kind num n : Nat) (f : Nat → Nat) (i : Nat) : Nat := if i < n + 5 then ahead kind num f i else by4 (sum kind num n f) (i - (n + 5))
theorem sealB_lt (kind num n : Nat) (f : Nat → Nat) (hk : kind < 256) (hf : ∀ i, f i < 256) (i : Nat) : sealB kind num n f i < 256 := by
  unfold sealB
  split
  · exact ahead_lt _ _ _ hk hf i
  · exact by4_lt _ _
theorem sealB_syn (kind num n : Nat) (f : Nat → Nat) (hk : kind < 256) (hf : ∀ i, f i < 256) : syn (sealB kind num n f) (n + 5) = 0 := by
  rw [syn_ok]
  have e : reg 4294967295 (sealB kind num n f) (n + 5) = reg 4294967295 (ahead kind num f) (n + 5) := reg_congr _ _ fun i hi => by unfold sealB; rw [if_pos hi]
  rw [e]
  show sum kind num n f = le4 (sealB kind num n f) (n + 5)
  unfold le4 sealB
  rw [if_neg (by omega), if_neg (by omega), if_neg (by omega), if_neg (by omega), show n + 5 - (n + 5) = 0 by omega, show n + 5 + 1 - (n + 5) = 1 by omega, show n + 5 + 2 - (n + 5) = 2 by omega, show n + 5 + 3 - (n + 5) = 3 by omega, by4_sum _ (sum_lt kind num n f hk hf)]
/-- The number that bytes tell. -/
def num (F : Nat → Nat) : Nat := F 1 + 256 * F 2 + 65536 * F 3 + 16777216 * F 4
theorem num_lt (F : Nat → Nat) (hF : ∀ i, F i < 256) : num F < 4294967296 := by
  have h1 := hF 1
  have h2 := hF 2
  have h3 := hF 3
  have h4 := hF 4
  unfold num
  omega
theorem num_seal (kind m n : Nat) (f : Nat → Nat) (hm : m < 4294967296) : num (sealB kind m n f) = m := by
  have h : ∀ i, 1 ≤ i → i < 5 → sealB kind m n f i = by4 m (i - 1) := fun i h1 h5 => by
    unfold sealB ahead
    rw [if_pos (by omega), if_neg (by omega), if_pos h5]
  unfold num
  rw [h 1 (by omega) (by omega), h 2 (by omega) (by omega), h 3 (by omega) (by omega), h 4 (by omega) (by omega)]
  exact by4_sum m hm
theorem ahead_of (F : Nat → Nat) (hF : ∀ i, F i < 256) (i : Nat) : ahead (F 0) (num F) (fun j => F (j + 5)) i = F i := by
  obtain ⟨e1, e2, e3, e4⟩ := by4_of (F 1) (F 2) (F 3) (F 4) (hF 1) (hF 2) (hF 3) (hF 4)
  unfold ahead
  by_cases h0 : i = 0
  · rw [if_pos h0, h0]
  · rw [if_neg h0]
    by_cases h5 : i < 5
    · rw [if_pos h5]
      rcases (show i = 1 ∨ i = 2 ∨ i = 3 ∨ i = 4 by omega) with rfl | rfl | rfl | rfl
      · exact e1
      · exact e2
      · exact e3
      · exact e4
    · rw [if_neg h5]
      show F (i - 5 + 5) = F i
      rw [show i - 5 + 5 = i by omega]
/-- Bytes are those of a frame just if their sum is right. -/
theorem seal_iff (F : Nat → Nat) (n : Nat) (hF : ∀ i, F i < 256) : (∀ i, i < n + 9 → sealB (F 0) (num F) n (fun j => F (j + 5)) i = F i) ↔ syn F (n + 5) = 0 := by
  have hr : reg 4294967295 (ahead (F 0) (num F) (fun j => F (j + 5))) (n + 5) = reg 4294967295 F (n + 5) := reg_congr _ _ fun i _ => ahead_of F hF i
  have hs : sum (F 0) (num F) n (fun j => F (j + 5)) = reg 4294967295 F (n + 5) ^^^ 4294967295 := by unfold sum; rw [hr]
  rw [syn_ok, ← hs]
  constructor
  · intro h
    have hb : ∀ j, j < 4 → by4 (sum (F 0) (num F) n (fun j => F (j + 5))) j = F (n + 5 + j) := fun j hj => by
      have := h (n + 5 + j) (by omega)
      unfold sealB at this
      rwa [if_neg (by omega), show n + 5 + j - (n + 5) = j by omega] at this
    unfold le4
    have h0 := hb 0 (by omega)
    rw [Nat.add_zero] at h0
    rw [← h0, ← hb 1 (by omega), ← hb 2 (by omega), ← hb 3 (by omega)]
    exact (by4_sum _ (sum_lt _ _ _ _ (hF 0) (fun j => hF _))).symm
  · intro h i hi
    unfold sealB
    by_cases h5 : i < n + 5
    · rw [if_pos h5]; exact ahead_of F hF i
    · rw [if_neg h5, h]
      obtain ⟨e1, e2, e3, e4⟩ := by4_of (F (n + 5)) (F (n + 5 + 1)) (F (n + 5 + 2)) (F (n + 5 + 3)) (hF _) (hF _) (hF _) (hF _)
      unfold le4
      rcases (show i = n + 5 ∨ i = n + 5 + 1 ∨ i = n + 5 + 2 ∨ i = n + 5 + 3 by omega) with rfl | rfl | rfl | rfl
      · rw [show n + 5 - (n + 5) = 0 by omega]; exact e1
      · rw [show n + 5 + 1 - (n + 5) = 1 by omega]; exact e2
      · rw [show n + 5 + 2 - (n + 5) = 2 by omega]; exact e3
      · rw [show n + 5 + 3 - (n + 5) = 3 by omega]; exact e4
/-- Which bytes are a frame. -/
def isF (F : Nat → Nat) (L : Nat) : Prop := 9 ≤ L ∧ F 0 ≤ 1 ∧ (F 0 = 1 → L = 9) ∧ syn F (L - 4) = 0
theorem isF_congr {F G : Nat → Nat} {L : Nat} (h : ∀ i, i < L → F i = G i) : isF F L ↔ isF G L := by
  have key : ∀ {F G : Nat → Nat}, (∀ i, i < L → F i = G i) → isF F L → isF G L := fun {F G} h ⟨h9, h0, h1, hs⟩ => by
    refine ⟨h9, by rw [← h 0 (by omega)]; exact h0, fun e => h1 (by rw [h 0 (by omega)]; exact e), ?_⟩
    unfold syn le4 at hs ⊢
    rw [← reg_congr _ (L - 4) fun i hi => h i (by omega), ← h (L - 4) (by omega), ← h (L - 4 + 1) (by omega), ← h (L - 4 + 2) (by omega), ← h (L - 4 + 3) (by omega)]
    exact hs
  exact ⟨key h, key fun i hi => (h i hi).symm⟩
theorem isF_seal (kind m n : Nat) (f : Nat → Nat) (hk : kind ≤ 1) (h1 : kind = 1 → n = 0) (hf : ∀ i, f i < 256) : isF (sealB kind m n f) (n + 9) := by
  have e0 : sealB kind m n f 0 = kind := by unfold sealB ahead; rw [if_pos (by omega), if_pos rfl]
  refine ⟨by omega, by rw [e0]; exact hk, fun e => by rw [e0] at e; have := h1 e; omega, ?_⟩
  rw [show n + 9 - 4 = n + 5 by omega]
  exact sealB_syn kind m n f (by omega) hf
theorem seal_pay (kind m n : Nat) (f : Nat → Nat) (j : Nat) (hj : j < n) : sealB kind m n f (j + 5) = f j := by
  unfold sealB ahead
  rw [if_pos (by omega), if_neg (by omega), if_neg (by omega), Nat.add_sub_cancel]
/-- A bit of a data frame of at most 2,000 bytes turned: no frame; a second one: one again just if it is the same. -/
theorem isF_turn (m n : Nat) (f : Nat → Nat) (hf : ∀ i, f i < 256) (x : Nat) (hx : x < 8 * (n + 9)) : ¬ isF (turn (sealB 0 m n f) x) (n + 9) := fun h => by
  have := h.2.2.2
  rw [show n + 9 - 4 = n + 5 by omega] at this
  exact turned_one _ (n + 5) x (sealB_lt 0 m n f (by omega) hf) (by omega) (sealB_syn 0 m n f (by omega) hf) this
theorem turn_turn (f : Nat → Nat) (x i : Nat) : turn (turn f x) x i = f i := by
  unfold turn
  by_cases e : i = x / 8
  · rw [if_pos e, if_pos e, Nat.xor_assoc, Nat.xor_self, Nat.xor_zero]
  · rw [if_neg e, if_neg e]
theorem isF_turn2 (m n : Nat) (f : Nat → Nat) (hf : ∀ i, f i < 256) (hn : n ≤ 2000) (x y : Nat) (hx : x < 8 * (n + 9)) (hy : y < 8 * (n + 9)) : isF (turn (turn (sealB 0 m n f) x) y) (n + 9) ↔ x = y := by
  constructor
  · intro h
    have := h.2.2.2
    rw [show n + 9 - 4 = n + 5 by omega] at this
    exact (turned_two _ (n + 5) x y (sealB_lt 0 m n f (by omega) hf) (by omega) (by omega) (by omega) (sealB_syn 0 m n f (by omega) hf)).1 this
  · rintro rfl
    exact (isF_congr fun i _ => (turn_turn _ x i).symm).1 (isF_seal 0 m n f (by omega) (fun h => by cases h) hf)
end Link
end Go.Proofs.YteadpnododjeaaaDoor
