/- AES on numbers, second part: the table S by powers of 3, the round keys, the document's example, words and bytes. -/
import Derived.Test.YtecdfjcncgcegaaDoorAesMath
namespace Go.Proofs.YtecdfjcncgcegaaDoor.Aes

/-- Powers of 2 in the field. -/
def pw : Nat → Nat
  | 0 => 1
  | n + 1 => xt (pw n)
theorem pw_lt : ∀ n, pw n < 256
  | 0 => by decide
  | n + 1 => xt_lt (pw_lt n)
/-- Powers of 3 in the field. -/
def p3 : Nat → Nat
  | 0 => 1
  | n + 1 => p3 n ^^^ xt (p3 n)
def p3L : List Nat := [1, 3, 5, 15, 17, 51, 85, 255, 26, 46, 114, 150, 161, 248, 19, 53, 95, 225, 56, 72, 216, 115, 149, 164, 247, 2, 6, 10, 30, 34, 102, 170, 229, 52, 92, 228, 55, 89, 235, 38, 106, 190, 217, 112, 144, 171, 230, 49, 83, 245, 4, 12, 20, 60, 68, 204, 79, 209, 104, 184, 211, 110, 178, 205, 76, 212, 103, 169, 224, 59, 77, 215, 98, 166, 241, 8, 24, 40, 120, 136, 131, 158, 185, 208, 107, 189, 220, 127, 129, 152, 179, 206, 73, 219, 118, 154, 181, 196, 87, 249, 16, 48, 80, 240, 11, 29, 39, 105, 187, 214, 97, 163, 254, 25, 43, 125, 135, 146, 173, 236, 47, 113, 147, 174, 233, 32, 96, 160, 251, 22, 58, 78, 210, 109, 183, 194, 93, 231, 50, 86, 250, 21, 63, 65, 195, 94, 226, 61, 71, 201, 64, 192, 91, 237, 44, 116, 156, 191, 218, 117, 159, 186, 213, 100, 172, 239, 42, 126, 130, 157, 188, 223, 122, 142, 137, 128, 155, 182, 193, 88, 232, 35, 101, 175, 234, 37, 111, 177, 200, 67, 197, 84, 252, 31, 33, 99, 165, 244, 7, 9, 27, 45, 119, 153, 176, 203, 70, 202, 69, 207, 74, 222, 121, 139, 134, 145, 168, 227, 62, 66, 198, 81, 243, 14, 18, 54, 90, 238, 41, 123, 141, 140, 143, 138, 133, 148, 167, 242, 13, 23, 57, 75, 221, 124, 132, 151, 162, 253, 28, 36, 108, 180, 199, 82, 246, 1]
def logL : List Nat := [0, 0, 25, 1, 50, 2, 26, 198, 75, 199, 27, 104, 51, 238, 223, 3, 100, 4, 224, 14, 52, 141, 129, 239, 76, 113, 8, 200, 248, 105, 28, 193, 125, 194, 29, 181, 249, 185, 39, 106, 77, 228, 166, 114, 154, 201, 9, 120, 101, 47, 138, 5, 33, 15, 225, 36, 18, 240, 130, 69, 53, 147, 218, 142, 150, 143, 219, 189, 54, 208, 206, 148, 19, 92, 210, 241, 64, 70, 131, 56, 102, 221, 253, 48, 191, 6, 139, 98, 179, 37, 226, 152, 34, 136, 145, 16, 126, 110, 72, 195, 163, 182, 30, 66, 58, 107, 40, 84, 250, 133, 61, 186, 43, 121, 10, 21, 155, 159, 94, 202, 78, 212, 172, 229, 243, 115, 167, 87, 175, 88, 168, 80, 244, 234, 214, 116, 79, 174, 233, 213, 231, 230, 173, 232, 44, 215, 117, 122, 235, 22, 11, 245, 89, 203, 95, 176, 156, 169, 81, 160, 127, 12, 246, 111, 23, 196, 73, 236, 216, 67, 31, 45, 164, 118, 123, 183, 204, 187, 62, 90, 251, 96, 177, 134, 59, 82, 161, 108, 170, 85, 41, 157, 151, 178, 135, 144, 97, 190, 220, 252, 188, 149, 207, 205, 55, 63, 91, 209, 83, 57, 132, 60, 65, 162, 109, 71, 20, 42, 158, 93, 86, 242, 211, 171, 68, 17, 146, 217, 35, 32, 46, 137, 180, 124, 184, 38, 119, 153, 227, 165, 103, 74, 237, 222, 197, 49, 254, 24, 13, 99, 140, 128, 192, 247, 112, 7]
set_option maxRecDepth 100000 in
theorem p3_step : ∀ i, i < 255 → p3L.getD (i + 1) 0 = p3L.getD i 0 ^^^ xt (p3L.getD i 0) := by decide +kernel
theorem p3_eq : ∀ i, i < 256 → p3 i = p3L.getD i 0
  | 0, _ => rfl
  | n + 1, h => by
    show p3 n ^^^ xt (p3 n) = _
    rw [p3_eq n (by omega), p3_step n (by omega)]
set_option maxRecDepth 100000 in
theorem log_p3 : ∀ n, n < 255 → logL.getD (p3L.getD n 0) 0 = n := by decide +kernel
set_option maxRecDepth 100000 in
theorem p3_log : ∀ q, q < 256 → q = 0 ∨ (logL.getD q 0 < 255 ∧ p3L.getD (logL.getD q 0) 0 = q) := by decide +kernel
set_option maxRecDepth 100000 in
theorem p3L_lt : ∀ n, n < 256 → p3L.getD n 0 < 256 ∧ p3L.getD n 0 ≠ 0 := by decide +kernel
theorem p3_lt {n : Nat} (h : n < 256) : p3 n < 256 := by rw [p3_eq n h]; exact (p3L_lt n h).1
theorem p3_ne {n : Nat} (h : n < 256) : p3 n ≠ 0 := by rw [p3_eq n h]; exact (p3L_lt n h).2
theorem p3_inj {m n : Nat} (hm : m < 255) (hn : n < 255) (h : p3 m = p3 n) : m = n := by
  rw [p3_eq m (by omega), p3_eq n (by omega)] at h
  rw [← log_p3 m hm, h, log_p3 n hn]
/-- S of the byte whose inverse is y. -/
def sI (y : Nat) : Nat := sGo 5 99 y
theorem sI_lt {y : Nat} (h : y < 256) : sI y < 256 := sGo_lt 5 99 y (by omega) h
set_option maxRecDepth 100000 in
theorem sI_p3 : ∀ n, n < 255 → sI (p3L.getD (255 - n) 0) = boxL.getD (p3L.getD n 0) 0 := by decide +kernel
/-- The table behind n rounds. -/
def sF : Nat → Nat → Nat
  | 0, q => if q = 0 then sI 0 else 0
  | n + 1, q => if q = p3 n then sI (p3 (255 - n)) else sF n q
theorem sF_at : ∀ n, n ≤ 255 → ∀ m, m < n → sF n (p3 m) = sI (p3 (255 - m))
  | 0, _, m, h => by omega
  | n + 1, hn, m, h => by
    show (if p3 m = p3 n then sI (p3 (255 - n)) else sF n (p3 m)) = _
    by_cases e : m = n
    · subst e; rw [if_pos rfl]
    · rw [if_neg (fun h' => e (p3_inj (by omega) (by omega) h'))]
      exact sF_at n (by omega) m (by omega)
theorem sF_zero : ∀ n, n ≤ 255 → sF n 0 = sI 0
  | 0, _ => rfl
  | n + 1, hn => by
    show (if 0 = p3 n then sI (p3 (255 - n)) else sF n 0) = _
    rw [if_neg (fun h => p3_ne (n := n) (by omega) h.symm), sF_zero n (by omega)]
theorem sF_all (q : Nat) (h : q < 256) : sF 255 q = sb q := by
  rcases p3_log q h with rfl | ⟨h1, h2⟩
  · rw [sF_zero 255 (by omega), sb_box h]; decide +kernel
  · have e : q = p3 (logL.getD q 0) := by rw [p3_eq _ (by omega), h2]
    have := sF_at 255 (by omega) (logL.getD q 0) h1
    rw [← e] at this
    rw [this, p3_eq _ (by omega), sI_p3 _ h1, h2, sb_box h]

/-- The round keys' bytes. -/
def ks (key : Nat → Nat) (q : Nat) : Nat :=
  if q < 16 then key q else
    ks key (q - 16) ^^^ (if q / 4 % 4 = 0 then sb (ks key (4 * (q / 4 - 1) + (q % 4 + 1) % 4)) ^^^ (if q % 4 = 0 then pw (q / 4 / 4 - 1) else 0) else ks key (q - 4))
termination_by q
decreasing_by all_goals omega
theorem ks_lo (key : Nat → Nat) (q : Nat) (h : q < 16) : ks key q = key q := by rw [ks, if_pos h]
theorem ks_hi (key : Nat → Nat) (q : Nat) (h : ¬ q < 16) : ks key q = ks key (q - 16) ^^^ (if q / 4 % 4 = 0 then sb (ks key (4 * (q / 4 - 1) + (q % 4 + 1) % 4)) ^^^ (if q % 4 = 0 then pw (q / 4 / 4 - 1) else 0) else ks key (q - 4)) := by
  rw [ks, if_neg h]
theorem ks_lt (key : Nat → Nat) (hk : ∀ i, key i < 256) (q : Nat) : ks key q < 256 := by
  induction q using Nat.strongRecOn with
  | ind q ih =>
    by_cases h : q < 16
    · rw [ks_lo key q h]; exact hk q
    · rw [ks_hi key q h]
      refine byte_xor (ih _ (by omega)) ?_
      split
      · refine byte_xor (sb_lt _) ?_
        split
        · exact pw_lt _
        · omega
      · exact ih _ (by omega)
def ksL : List Nat := [0, 1, 2, 3, 4, 5, 6, 7, 8, 9, 10, 11, 12, 13, 14, 15, 214, 170, 116, 253, 210, 175, 114, 250, 218, 166, 120, 241, 214, 171, 118, 254, 182, 146, 207, 11, 100, 61, 189, 241, 190, 155, 197, 0, 104, 48, 179, 254, 182, 255, 116, 78, 210, 194, 201, 191, 108, 89, 12, 191, 4, 105, 191, 65, 71, 247, 247, 188, 149, 53, 62, 3, 249, 108, 50, 188, 253, 5, 141, 253, 60, 170, 163, 232, 169, 159, 157, 235, 80, 243, 175, 87, 173, 246, 34, 170, 94, 57, 15, 125, 247, 166, 146, 150, 167, 85, 61, 193, 10, 163, 31, 107, 20, 249, 112, 26, 227, 95, 226, 140, 68, 10, 223, 77, 78, 169, 192, 38, 71, 67, 135, 53, 164, 28, 101, 185, 224, 22, 186, 244, 174, 191, 122, 210, 84, 153, 50, 209, 240, 133, 87, 104, 16, 147, 237, 156, 190, 44, 151, 78, 19, 17, 29, 127, 227, 148, 74, 23, 243, 7, 167, 139, 77, 43, 48, 197]
set_option maxRecDepth 100000 in
theorem ksL_step : ∀ q, q < 176 → ksL.getD q 0 < 256 ∧ ksL.getD q 0 = if q < 16 then q else ksL.getD (q - 16) 0 ^^^ (if q / 4 % 4 = 0 then boxL.getD (ksL.getD (4 * (q / 4 - 1) + (q % 4 + 1) % 4) 0) 0 ^^^ (if q % 4 = 0 then pw (q / 4 / 4 - 1) else 0) else ksL.getD (q - 4) 0) := by decide +kernel
theorem ks_fixed {key : Nat → Nat} (hk : ∀ i, i < 16 → key i = i) (q : Nat) (hq : q < 176) : ks key q = ksL.getD q 0 := by
  induction q using Nat.strongRecOn with
  | ind q ih =>
    rw [(ksL_step q hq).2]
    by_cases h : q < 16
    · rw [ks_lo key q h, if_pos h, hk q h]
    · rw [ks_hi key q h, if_neg h, ih (q - 16) (by omega) (by omega), ih (q - 4) (by omega) (by omega), ih (4 * (q / 4 - 1) + (q % 4 + 1) % 4) (by omega) (by omega)]
      rw [sb_box (ksL_step _ (by omega)).1]
def enL : List (List Nat) := [[0, 16, 32, 48, 64, 80, 96, 112, 128, 144, 160, 176, 192, 208, 224, 240], [137, 216, 16, 232, 133, 90, 206, 104, 45, 24, 67, 216, 203, 18, 143, 228], [73, 21, 89, 143, 85, 229, 215, 160, 218, 202, 148, 250, 31, 10, 99, 247], [250, 99, 106, 40, 37, 179, 57, 201, 64, 102, 138, 49, 87, 36, 77, 23], [36, 114, 64, 35, 105, 102, 179, 250, 110, 210, 117, 50, 136, 66, 91, 108], [200, 22, 119, 188, 155, 122, 201, 59, 37, 2, 121, 146, 176, 38, 25, 150], [198, 47, 225, 9, 247, 94, 237, 195, 204, 121, 57, 93, 132, 249, 207, 93], [209, 135, 108, 15, 121, 196, 48, 10, 180, 85, 148, 173, 214, 111, 244, 31], [253, 227, 186, 210, 5, 229, 208, 215, 53, 71, 150, 78, 241, 254, 55, 241], [189, 110, 124, 61, 242, 181, 119, 158, 11, 97, 33, 110, 139, 16, 182, 137], [105, 196, 224, 216, 106, 123, 4, 48, 216, 205, 183, 128, 112, 180, 197, 90]]
/-- A round on numbers that are written out. -/
def roundL (k : Nat) (l : List Nat) (i : Nat) : Nat :=
  let s := fun i => boxL.getD (l.getD (from_ i) 0) 0
  (if k < 10 then mixB (s (col i 0)) (s (col i 1)) (s (col i 2)) (s (col i 3)) else s i) ^^^ ksL.getD (16 * k + i) 0
set_option maxRecDepth 100000 in
theorem enL_step : ∀ n, n < 10 → ∀ i, i < 16 → roundL (n + 1) (enL.getD n []) i = (enL.getD (n + 1) []).getD i 0 := by decide +kernel
set_option maxRecDepth 100000 in
theorem enL_lt : ∀ n, n < 11 → ∀ i, i < 16 → (enL.getD n []).getD i 0 < 256 := by decide +kernel
set_option maxRecDepth 100000 in
theorem enL_zero : ∀ i, i < 16 → (17 * i) ^^^ ksL.getD i 0 = (enL.getD 0 []).getD i 0 := by decide +kernel
theorem enc_fixed {key block : Nat → Nat} (hk : ∀ i, i < 16 → key i = i) (hb : ∀ i, i < 16 → block i = 17 * i) : ∀ n, n ≤ 10 → ∀ i, i < 16 → encGo (ks key) block n i = (enL.getD n []).getD i 0
  | 0, _, i, hi => by
    show block i ^^^ ks key i = _
    rw [hb i hi, ks_fixed hk i (by omega), enL_zero i hi]
  | n + 1, hn, i, hi => by
    rw [← enL_step n (by omega) i hi]
    have ih := enc_fixed hk hb n (by omega)
    have hs : ∀ j, subs (encGo (ks key) block n) j = boxL.getD ((enL.getD n []).getD (from_ j) 0) 0 := fun j => by
      unfold subs
      rw [ih _ (from_lt j), sb_box (enL_lt n (by omega) _ (from_lt j))]
    show roundF (ks key) (n + 1) (encGo (ks key) block n) i = _
    unfold roundF roundL mixF
    rw [ks_fixed hk _ (by omega)]
    simp only [hs]

/-- Twice the sum of two bytes and the second: a column's mixing as the program has it. -/
theorem tm_two : ∀ t, t < 256 → tm t 2 = xt t := by decide +kernel
theorem tm_three : ∀ t, t < 256 → tm t 3 = xt t ^^^ t := by decide +kernel
theorem mix_prog {p q r s : Nat} (hp : p < 256) (hq : q < 256) : xt (p ^^^ q) ^^^ q ^^^ r ^^^ s = mixB p q r s := by
  unfold mixB
  rw [xt_xor hp hq, tm_two p hp, tm_three q hq, Nat.xor_assoc (xt p) (xt q) q]

/-- The word of n bytes from o on, the lowest first. -/
def psum (b : Nat → Nat) (o : Nat) : Nat → Nat
  | 0 => 0
  | n + 1 => psum b o n + b (o + n) * 256 ^ n
theorem psum_lt (b : Nat → Nat) (o : Nat) (hb : ∀ i, b i < 256) : ∀ n, psum b o n < 256 ^ n
  | 0 => by simp [psum]
  | n + 1 => by
    have h1 := psum_lt b o hb n
    have h2 := hb (o + n)
    have h3 : (b (o + n) + 1) * 256 ^ n ≤ 256 * 256 ^ n := Nat.mul_le_mul_right _ h2
    rw [Nat.add_mul] at h3
    have h4 : 256 ^ (n + 1) = 256 * 256 ^ n := by rw [Nat.pow_succ, Nat.mul_comm]
    show psum b o n + b (o + n) * 256 ^ n < _
    rw [h4]; omega
/-- The bytes of a word. -/
def byt (x j : Nat) : Nat := x / 256 ^ j % 256
theorem byt_lt (x j : Nat) : byt x j < 256 := Nat.mod_lt _ (by omega)
/-- The bytes of a label. -/
def labB (x y : Nat) (i : Nat) : Nat := if i < 8 then byt x i else byt y (i - 8)
theorem labB_lt (x y i : Nat) : labB x y i < 256 := by unfold labB; split <;> exact byt_lt _ _
theorem psum8 (b : Nat → Nat) (o : Nat) : psum b o 8 = b o + 256 * (b (o + 1) + 256 * (b (o + 2) + 256 * (b (o + 3) + 256 * (b (o + 4) + 256 * (b (o + 5) + 256 * (b (o + 6) + 256 * b (o + 7))))))) := by
  simp only [psum, Nat.add_zero]
  omega
theorem encGo_congr {k a b : Nat → Nat} (h : ∀ i, i < 16 → a i = b i) : ∀ n i, i < 16 → encGo k a n i = encGo k b n i
  | 0, i, hi => by show a i ^^^ k i = b i ^^^ k i; rw [h i hi]
  | n + 1, i, hi => by
    have ih := encGo_congr (k := k) h n
    have hs : ∀ j, subs (encGo k a n) j = subs (encGo k b n) j := fun j => by unfold subs; rw [ih _ (from_lt j)]
    show roundF k (n + 1) (encGo k a n) i = roundF k (n + 1) (encGo k b n) i
    unfold roundF mixF
    simp only [hs]
theorem enc_congr {k a b : Nat → Nat} (h : ∀ i, i < 16 → a i = b i) : ∀ i, i < 16 → enc k a i = enc k b i := encGo_congr h 10
end Go.Proofs.YtecdfjcncgcegaaDoor.Aes
