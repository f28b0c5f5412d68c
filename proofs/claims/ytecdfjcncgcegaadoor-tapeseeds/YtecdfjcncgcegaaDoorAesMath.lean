/- AES-128 by the document's words, on numbers: products in the field, S, rounds; encrypting keeps blocks apart. -/
import Derived.KernelRfl
namespace Go.Proofs.YtecdfjcncgcegaaDoor.Aes

/-- Twice a byte, in the field. -/
def xt (x : Nat) : Nat := if 256 ≤ x * 2 then (x * 2) ^^^ 283 else x * 2
/-- n steps of the product: p so far, x the power's multiple, b the bits that are left. -/
def tmGo : Nat → Nat → Nat → Nat → Nat
  | 0, p, _, _ => p
  | n + 1, p, x, b => tmGo n (if b % 2 = 1 then p ^^^ x else p) (xt x) (b / 2)
/-- The product of two bytes. -/
def tm (a b : Nat) : Nat := tmGo 8 0 a b

theorem xt_lt {x : Nat} (h : x < 256) : xt x < 256 := by
  revert x; decide +kernel
theorem byte_xor {x y : Nat} (hx : x < 256) (hy : y < 256) : x ^^^ y < 256 := Nat.xor_lt_two_pow (n := 8) hx hy
theorem top_xor {x y : Nat} (hx : x < 256) (hy : y < 256) : (128 ≤ x ^^^ y) ↔ ((128 ≤ x) ↔ ¬ 128 ≤ y) := by
  have key : ∀ {z : Nat}, z < 256 → (128 ≤ z ↔ z.testBit 7 = true) := fun {z} hz => by
    rw [Nat.testBit_eq_decide_div_mod_eq]
    simp only [show (2 : Nat) ^ 7 = 128 from rfl, decide_eq_true_eq]
    omega
  rw [key (byte_xor hx hy), key hx, key hy, Nat.testBit_xor]
  cases x.testBit 7 <;> cases y.testBit 7 <;> simp
theorem two_xor (x y : Nat) : (x ^^^ y) * 2 = (x * 2) ^^^ (y * 2) := by
  have := Nat.shiftLeft_xor_distrib (a := x) (b := y) (i := 1)
  simpa [Nat.shiftLeft_eq] using this
theorem xt_xor {x y : Nat} (hx : x < 256) (hy : y < 256) : xt (x ^^^ y) = xt x ^^^ xt y := by
  have ht := top_xor hx hy
  unfold xt
  by_cases h1 : 128 ≤ x <;> by_cases h2 : 128 ≤ y
  · rw [if_neg (by have : ¬ 128 ≤ x ^^^ y := by rw [ht]; simp [h1, h2]
                   omega), if_pos (by omega), if_pos (by omega), two_xor]
    rw [Nat.xor_assoc, ← Nat.xor_assoc 283, Nat.xor_comm 283, Nat.xor_assoc (y * 2), Nat.xor_self, Nat.xor_zero]
  · rw [if_pos (by have : 128 ≤ x ^^^ y := by rw [ht]; simp [h1, h2]
                   omega), if_pos (by omega), if_neg (by omega), two_xor]
    rw [Nat.xor_assoc, Nat.xor_comm (y * 2), ← Nat.xor_assoc]
  · rw [if_pos (by have : 128 ≤ x ^^^ y := by rw [ht]; simp [h1, h2]
                   omega), if_neg (by omega), if_pos (by omega), two_xor, Nat.xor_assoc]
  · rw [if_neg (by have : ¬ 128 ≤ x ^^^ y := by rw [ht]; simp [h1, h2]
                   omega), if_neg (by omega), if_neg (by omega), two_xor]
theorem xor4 (a b c d : Nat) : (a ^^^ b) ^^^ (c ^^^ d) = (a ^^^ c) ^^^ (b ^^^ d) := by
  rw [Nat.xor_assoc, Nat.xor_assoc, ← Nat.xor_assoc b, Nat.xor_comm b c, Nat.xor_assoc c]
theorem tmGo_xor : ∀ (n p q x y b : Nat), x < 256 → y < 256 → tmGo n (p ^^^ q) (x ^^^ y) b = tmGo n p x b ^^^ tmGo n q y b
  | 0, _, _, _, _, _, _, _ => rfl
  | n + 1, p, q, x, y, b, hx, hy => by
    unfold tmGo
    rw [xt_xor hx hy]
    by_cases h : b % 2 = 1
    · rw [if_pos h, if_pos h, if_pos h, xor4]
      exact tmGo_xor n _ _ _ _ _ (xt_lt hx) (xt_lt hy)
    · rw [if_neg h, if_neg h, if_neg h]
      exact tmGo_xor n _ _ _ _ _ (xt_lt hx) (xt_lt hy)
/-- Products spread over sums. -/
theorem tm_xor {x y : Nat} (b : Nat) (hx : x < 256) (hy : y < 256) : tm (x ^^^ y) b = tm x b ^^^ tm y b := by
  have := tmGo_xor 8 0 0 x y b hx hy
  rwa [Nat.xor_zero] at this
theorem tmGo_lt : ∀ (n p x b : Nat), p < 256 → x < 256 → tmGo n p x b < 256
  | 0, _, _, _, hp, _ => hp
  | n + 1, p, x, b, hp, hx => by
    unfold tmGo
    refine tmGo_lt n _ _ _ ?_ (xt_lt hx)
    split
    · exact byte_xor hp hx
    · exact hp
theorem tm_lt {x : Nat} (b : Nat) (hx : x < 256) : tm x b < 256 := tmGo_lt 8 0 x b (by omega) hx

/-- One byte of a mixed column. -/
def mixB (a b c d : Nat) : Nat := tm a 2 ^^^ tm b 3 ^^^ c ^^^ d
theorem mixB_lt {a b c d : Nat} (ha : a < 256) (hb : b < 256) (hc : c < 256) (hd : d < 256) : mixB a b c d < 256 :=
  byte_xor (byte_xor (byte_xor (tm_lt 2 ha) (tm_lt 3 hb)) hc) hd
theorem id_a : ∀ t, t < 256 → tm (tm t 2) 14 ^^^ tm t 11 ^^^ tm t 13 ^^^ tm (tm t 3) 9 = t := by decide +kernel
theorem id_b : ∀ t, t < 256 → tm (tm t 3) 14 ^^^ tm (tm t 2) 11 ^^^ tm t 13 ^^^ tm t 9 = 0 := by decide +kernel
theorem id_c : ∀ t, t < 256 → tm t 14 ^^^ tm (tm t 3) 11 ^^^ tm (tm t 2) 13 ^^^ tm t 9 = 0 := by decide +kernel
theorem id_d : ∀ t, t < 256 → tm t 14 ^^^ tm t 11 ^^^ tm (tm t 3) 13 ^^^ tm (tm t 2) 9 = 0 := by decide +kernel
theorem tm_mix {a b c d : Nat} (k : Nat) (ha : a < 256) (hb : b < 256) (hc : c < 256) (hd : d < 256) : tm (mixB a b c d) k = tm (tm a 2) k ^^^ tm (tm b 3) k ^^^ tm c k ^^^ tm d k := by
  unfold mixB
  rw [tm_xor k (byte_xor (byte_xor (tm_lt 2 ha) (tm_lt 3 hb)) hc) hd, tm_xor k (byte_xor (tm_lt 2 ha) (tm_lt 3 hb)) hc, tm_xor k (tm_lt 2 ha) (tm_lt 3 hb)]
/-- A mixed column tells its first byte. -/
theorem unmix {a b c d : Nat} (ha : a < 256) (hb : b < 256) (hc : c < 256) (hd : d < 256) :
    tm (mixB a b c d) 14 ^^^ tm (mixB b c d a) 11 ^^^ tm (mixB c d a b) 13 ^^^ tm (mixB d a b c) 9 = a := by
  rw [tm_mix 14 ha hb hc hd, tm_mix 11 hb hc hd ha, tm_mix 13 hc hd ha hb, tm_mix 9 hd ha hb hc]
  have ea := id_a a ha
  have eb := id_b b hb
  have ec := id_c c hc
  have ed := id_d d hd
  calc _ = (tm (tm a 2) 14 ^^^ tm a 11 ^^^ tm a 13 ^^^ tm (tm a 3) 9) ^^^ (tm (tm b 3) 14 ^^^ tm (tm b 2) 11 ^^^ tm b 13 ^^^ tm b 9) ^^^
        (tm c 14 ^^^ tm (tm c 3) 11 ^^^ tm (tm c 2) 13 ^^^ tm c 9) ^^^ (tm d 14 ^^^ tm d 11 ^^^ tm (tm d 3) 13 ^^^ tm (tm d 2) 9) := by
        ac_rfl
    _ = a := by rw [ea, eb, ec, ed, Nat.xor_zero, Nat.xor_zero, Nat.xor_zero]

/-- The n-th power's step: n times the product with a. -/
def powGo : Nat → Nat → Nat → Nat
  | 0, p, _ => p
  | n + 1, p, a => powGo n (tm p a) a
/-- The inverse of a byte: its power 254. -/
def inv (a : Nat) : Nat := powGo 254 1 a
/-- A byte turned by one place. -/
def rotl (y : Nat) : Nat := (y * 2 + y / 128) % 256
/-- n steps of S: out so far, y turned on. -/
def sGo : Nat → Nat → Nat → Nat
  | 0, o, _ => o
  | n + 1, o, y => sGo n (o ^^^ y) (rotl y)
/-- S of a byte. -/
def sb (a : Nat) : Nat := sGo 5 99 (inv a)
theorem powGo_lt : ∀ (n p a : Nat), p < 256 → powGo n p a < 256
  | 0, _, _, hp => hp
  | n + 1, _, a, hp => powGo_lt n _ a (tm_lt a hp)
theorem sGo_lt : ∀ (n o y : Nat), o < 256 → y < 256 → sGo n o y < 256
  | 0, _, _, ho, _ => ho
  | n + 1, o, y, ho, hy => sGo_lt n _ _ (byte_xor ho hy) (Nat.mod_lt _ (by omega))
theorem sb_lt (a : Nat) : sb a < 256 := sGo_lt 5 99 _ (by omega) (powGo_lt 254 1 a (by omega))
/-- The same power, each step's byte reckoned before the next (for the kernel's sake). -/
def powF : Nat → Nat → Nat → Nat
  | 0, p, _ => p
  | n + 1, p, a => match tm p a with
    | 0 => powF n 0 a
    | q + 1 => powF n (q + 1) a
theorem powF_eq : ∀ (n p a : Nat), powF n p a = powGo n p a
  | 0, _, _ => rfl
  | n + 1, p, a => by
    unfold powF powGo
    split
    · next h => rw [h, powF_eq n]
    · next q h => rw [h, powF_eq n]
/-- S, in numbers. -/
def boxL : List Nat := [99, 124, 119, 123, 242, 107, 111, 197, 48, 1, 103, 43, 254, 215, 171, 118, 202, 130, 201, 125, 250, 89, 71, 240, 173, 212, 162, 175, 156, 164, 114, 192, 183, 253, 147, 38, 54, 63, 247, 204, 52, 165, 229, 241, 113, 216, 49, 21, 4, 199, 35, 195, 24, 150, 5, 154, 7, 18, 128, 226, 235, 39, 178, 117, 9, 131, 44, 26, 27, 110, 90, 160, 82, 59, 214, 179, 41, 227, 47, 132, 83, 209, 0, 237, 32, 252, 177, 91, 106, 203, 190, 57, 74, 76, 88, 207, 208, 239, 170, 251, 67, 77, 51, 133, 69, 249, 2, 127, 80, 60, 159, 168, 81, 163, 64, 143, 146, 157, 56, 245, 188, 182, 218, 33, 16, 255, 243, 210, 205, 12, 19, 236, 95, 151, 68, 23, 196, 167, 126, 61, 100, 93, 25, 115, 96, 129, 79, 220, 34, 42, 144, 136, 70, 238, 184, 20, 222, 94, 11, 219, 224, 50, 58, 10, 73, 6, 36, 92, 194, 211, 172, 98, 145, 149, 228, 121, 231, 200, 55, 109, 141, 213, 78, 169, 108, 86, 244, 234, 101, 122, 174, 8, 186, 120, 37, 46, 28, 166, 180, 198, 232, 221, 116, 31, 75, 189, 139, 138, 112, 62, 181, 102, 72, 3, 246, 14, 97, 53, 87, 185, 134, 193, 29, 158, 225, 248, 152, 17, 105, 217, 142, 148, 155, 30, 135, 233, 206, 85, 40, 223, 140, 161, 137, 13, 191, 230, 66, 104, 65, 153, 45, 15, 176, 84, 187, 22]
/-- .. and back. -/
def unboxL : List Nat := [82, 9, 106, 213, 48, 54, 165, 56, 191, 64, 163, 158, 129, 243, 215, 251, 124, 227, 57, 130, 155, 47, 255, 135, 52, 142, 67, 68, 196, 222, 233, 203, 84, 123, 148, 50, 166, 194, 35, 61, 238, 76, 149, 11, 66, 250, 195, 78, 8, 46, 161, 102, 40, 217, 36, 178, 118, 91, 162, 73, 109, 139, 209, 37, 114, 248, 246, 100, 134, 104, 152, 22, 212, 164, 92, 204, 93, 101, 182, 146, 108, 112, 72, 80, 253, 237, 185, 218, 94, 21, 70, 87, 167, 141, 157, 132, 144, 216, 171, 0, 140, 188, 211, 10, 247, 228, 88, 5, 184, 179, 69, 6, 208, 44, 30, 143, 202, 63, 15, 2, 193, 175, 189, 3, 1, 19, 138, 107, 58, 145, 17, 65, 79, 103, 220, 234, 151, 242, 207, 206, 240, 180, 230, 115, 150, 172, 116, 34, 231, 173, 53, 133, 226, 249, 55, 232, 28, 117, 223, 110, 71, 241, 26, 113, 29, 41, 197, 137, 111, 183, 98, 14, 170, 24, 190, 27, 252, 86, 62, 75, 198, 210, 121, 32, 154, 219, 192, 254, 120, 205, 90, 244, 31, 221, 168, 51, 136, 7, 199, 49, 177, 18, 16, 89, 39, 128, 236, 95, 96, 81, 127, 169, 25, 181, 74, 13, 45, 229, 122, 159, 147, 201, 156, 239, 160, 224, 59, 77, 174, 42, 245, 176, 200, 235, 187, 60, 131, 83, 153, 97, 23, 43, 4, 126, 186, 119, 214, 38, 225, 105, 20, 99, 85, 33, 12, 125]
set_option maxRecDepth 100000 in
theorem sb_table : ∀ a, a < 256 → sGo 5 99 (powF 254 1 a) = boxL.getD a 0 := by decide +kernel
set_option maxRecDepth 100000 in
theorem unbox_box : ∀ a, a < 256 → unboxL.getD (boxL.getD a 0) 0 = a := by decide +kernel
theorem sb_box {a : Nat} (h : a < 256) : sb a = boxL.getD a 0 := by
  rw [← sb_table a h]; unfold sb inv; rw [powF_eq]
theorem sb_inj {a b : Nat} (ha : a < 256) (hb : b < 256) (h : sb a = sb b) : a = b := by
  rw [sb_box ha, sb_box hb] at h
  rw [← unbox_box a ha, h, unbox_box b hb]

/-- Sixteen bytes, by a function of the place. -/
def Bytes (b : Nat → Nat) : Prop := ∀ i, i < 16 → b i < 256
/-- Where byte i comes from when the rows are turned. -/
def from_ (i : Nat) : Nat := 4 * ((i / 4 + i % 4) % 4) + i % 4
/-- Each byte its S, the rows turned. -/
def subs (b : Nat → Nat) (i : Nat) : Nat := sb (b (from_ i))
/-- The place in i's column, d rows on. -/
def col (i d : Nat) : Nat := 4 * (i / 4) + (i % 4 + d) % 4
/-- Each column mixed. -/
def mixF (t : Nat → Nat) (i : Nat) : Nat := mixB (t (col i 0)) (t (col i 1)) (t (col i 2)) (t (col i 3))
/-- A round, the keys' bytes added. -/
def roundF (keys : Nat → Nat) (k : Nat) (b : Nat → Nat) (i : Nat) : Nat := (if k < 10 then mixF (subs b) i else subs b i) ^^^ keys (16 * k + i)
/-- The first n rounds. -/
def encGo (keys block : Nat → Nat) : Nat → Nat → Nat
  | 0 => fun i => block i ^^^ keys i
  | n + 1 => roundF keys (n + 1) (encGo keys block n)
/-- A block, encrypted. -/
def enc (keys block : Nat → Nat) : Nat → Nat := encGo keys block 10

theorem from_lt (i : Nat) : from_ i < 16 := by unfold from_; omega
theorem col_lt {i : Nat} (d : Nat) (h : i < 16) : col i d < 16 := by unfold col; omega
theorem subs_bytes (b : Nat → Nat) : Bytes (subs b) := fun _ _ => sb_lt _
theorem mix_bytes {t : Nat → Nat} (h : Bytes t) : Bytes (mixF t) := fun _ hi => mixB_lt (h _ (col_lt 0 hi)) (h _ (col_lt 1 hi)) (h _ (col_lt 2 hi)) (h _ (col_lt 3 hi))
theorem round_bytes {keys : Nat → Nat} (hk : ∀ i, i < 176 → keys i < 256) {k : Nat} (h10 : k ≤ 10) (b : Nat → Nat) : Bytes (roundF keys k b) := fun i hi => by
  unfold roundF
  refine byte_xor ?_ (hk _ (by omega))
  split
  · exact mix_bytes (subs_bytes b) i hi
  · exact subs_bytes b i hi
theorem enc_bytes {keys block : Nat → Nat} (hk : ∀ i, i < 176 → keys i < 256) (hb : Bytes block) : ∀ n, n ≤ 10 → Bytes (encGo keys block n)
  | 0, _ => fun i hi => byte_xor (hb i hi) (hk i (by omega))
  | n + 1, hn => round_bytes hk hn _
theorem xor_cancel {a b k : Nat} (h : a ^^^ k = b ^^^ k) : a = b := by
  have := congrArg (· ^^^ k) h
  simpa [Nat.xor_assoc] using this
theorem subs_inj {a b : Nat → Nat} (ha : Bytes a) (hb : Bytes b) (h : ∀ i, i < 16 → subs a i = subs b i) : ∀ i, i < 16 → a i = b i := by
  intro i hi
  have hj : 4 * ((i / 4 + 4 - i % 4) % 4) + i % 4 < 16 := by omega
  have e : from_ (4 * ((i / 4 + 4 - i % 4) % 4) + i % 4) = i := by unfold from_; omega
  have := h _ hj
  unfold subs at this
  rw [e] at this
  exact sb_inj (ha i hi) (hb i hi) this
theorem mix_inj {a b : Nat → Nat} (ha : Bytes a) (hb : Bytes b) (h : ∀ i, i < 16 → mixF a i = mixF b i) : ∀ i, i < 16 → a i = b i := by
  intro i hi
  have un : ∀ {t : Nat → Nat}, Bytes t → tm (mixF t (col i 0)) 14 ^^^ tm (mixF t (col i 1)) 11 ^^^ tm (mixF t (col i 2)) 13 ^^^ tm (mixF t (col i 3)) 9 = t i := fun {t} ht => by
    have e : ∀ d e, col (col i d) e = col i (d + e) := fun d e => by unfold col; omega
    have w : ∀ d, col i (d + 4) = col i d := fun d => by unfold col; omega
    have z : col i 0 = i := by unfold col; omega
    have u := unmix (ht _ (col_lt 0 hi)) (ht _ (col_lt 1 hi)) (ht _ (col_lt 2 hi)) (ht _ (col_lt 3 hi))
    unfold mixF
    simp only [e, Nat.add_zero, Nat.zero_add, show (1 + 1 : Nat) = 2 from rfl, show (1 + 2 : Nat) = 3 from rfl, show (1 + 3 : Nat) = 0 + 4 from rfl, show (2 + 3 : Nat) = 1 + 4 from rfl, show (3 + 3 : Nat) = 2 + 4 from rfl, w]
    rw [u, z]
  rw [← un ha, ← un hb, h _ (col_lt 0 hi), h _ (col_lt 1 hi), h _ (col_lt 2 hi), h _ (col_lt 3 hi)]
theorem encGo_inj {keys a b : Nat → Nat} (hk : ∀ i, i < 176 → keys i < 256) (ha : Bytes a) (hb : Bytes b) : ∀ n, n ≤ 10 → (∀ i, i < 16 → encGo keys a n i = encGo keys b n i) → ∀ i, i < 16 → a i = b i
  | 0, _, h => fun i hi => xor_cancel (h i hi)
  | n + 1, hn, h => by
    refine encGo_inj hk ha hb n (by omega) (subs_inj (enc_bytes hk ha n (by omega)) (enc_bytes hk hb n (by omega)) ?_)
    have h' : ∀ i, i < 16 → (if n + 1 < 10 then mixF (subs (encGo keys a n)) i else subs (encGo keys a n) i) = (if n + 1 < 10 then mixF (subs (encGo keys b n)) i else subs (encGo keys b n) i) := fun i hi => xor_cancel (h i hi)
    by_cases h10 : n + 1 < 10
    · simp only [if_pos h10] at h'
      exact mix_inj (subs_bytes _) (subs_bytes _) h'
    · simp only [if_neg h10] at h'
      exact h'
/-- Blocks that differ are encrypted to blocks that differ. -/
theorem enc_inj {keys a b : Nat → Nat} (hk : ∀ i, i < 176 → keys i < 256) (ha : Bytes a) (hb : Bytes b) (h : ∀ i, i < 16 → enc keys a i = enc keys b i) : ∀ i, i < 16 → a i = b i :=
  encGo_inj hk ha hb 10 (Nat.le_refl _) h
end Go.Proofs.YtecdfjcncgcegaaDoor.Aes
