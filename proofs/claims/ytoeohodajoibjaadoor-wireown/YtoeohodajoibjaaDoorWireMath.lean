/- Plain mathematics for the wire laws: FNV-1a's step is one to one; numbers in base 128; words in base 256. No function of the program. -/
import Derived.KernelRfl
namespace Go.Proofs.YtoeohodajoibjaaDoor
namespace Wire

/-! FNV-1a. -/
def fstep (d c : Nat) : Nat := (d ^^^ c) * 1099511628211 % 18446744073709551616
def fnv (d : Nat) (f : Nat → Nat) : Nat → Nat
  | 0 => d
  | n + 1 => fstep (fnv d f n) (f n)
theorem fstep_lt (d c : Nat) : fstep d c < 18446744073709551616 := Nat.mod_lt _ (by omega)
theorem fnv_lt (d : Nat) (f : Nat → Nat) (hd : d < 18446744073709551616) : ∀ n, fnv d f n < 18446744073709551616
  | 0 => hd
  | _ + 1 => fstep_lt _ _
theorem fnv_congr (d : Nat) {f g : Nat → Nat} : ∀ n, (∀ i, i < n → f i = g i) → fnv d f n = fnv d g n
  | 0, _ => rfl
  | n + 1, h => by
    show fstep (fnv d f n) (f n) = fstep (fnv d g n) (g n)
    rw [fnv_congr d n fun i hi => h i (by omega), h n (by omega)]
/-- The multiplier is odd: it has an inverse. -/
theorem mul_inj (x y : Nat) (hx : x < 18446744073709551616) (hy : y < 18446744073709551616) (h : x * 1099511628211 % 18446744073709551616 = y * 1099511628211 % 18446744073709551616) : x = y := by
  have inv : 1099511628211 * 14886173955864302971 % 18446744073709551616 = 1 := by decide
  have key : ∀ z, z < 18446744073709551616 → (z * 1099511628211 % 18446744073709551616) * 14886173955864302971 % 18446744073709551616 = z := by
    intro z hz
    rw [Nat.mod_mul_mod, Nat.mul_assoc, Nat.mul_mod, inv, Nat.mul_one, Nat.mod_mod, Nat.mod_eq_of_lt hz]
  rw [← key x hx, ← key y hy, h]
theorem xor_lt64 {X Y : Nat} (hX : X < 18446744073709551616) (hY : Y < 18446744073709551616) : X ^^^ Y < 18446744073709551616 :=
  Nat.xor_lt_two_pow (n := 64) hX hY
theorem xor_cancel_left (a b c : Nat) (h : a ^^^ b = a ^^^ c) : b = c := by
  have := congrArg (fun z => a ^^^ z) h
  simpa [← Nat.xor_assoc] using this
theorem xor_cancel_right (a b c : Nat) (h : a ^^^ c = b ^^^ c) : a = b := by
  rw [Nat.xor_comm a c, Nat.xor_comm b c] at h
  exact xor_cancel_left c a b h
theorem fstep_inj_d {d e c : Nat} (hd : d < 18446744073709551616) (he : e < 18446744073709551616) (hc : c < 256) (h : fstep d c = fstep e c) : d = e :=
  xor_cancel_right d e c (mul_inj _ _ (xor_lt64 hd (by omega)) (xor_lt64 he (by omega)) h)
theorem fstep_inj_c {d c e : Nat} (hd : d < 18446744073709551616) (hc : c < 256) (he : e < 256) (h : fstep d c = fstep d e) : c = e :=
  xor_cancel_left d c e (mul_inj _ _ (xor_lt64 hd (by omega)) (xor_lt64 hd (by omega)) h)
/-- Texts that differ in one byte alone have other digests. -/
theorem fnv_tells (d : Nat) (hd : d < 18446744073709551616) {f g : Nat → Nat} (hf : ∀ i, f i < 256) (hg : ∀ i, g i < 256) (k : Nat) (hk : f k ≠ g k) (ho : ∀ i, i ≠ k → f i = g i) : ∀ n, k < n → fnv d f n ≠ fnv d g n
  | 0, h => by omega
  | n + 1, h => by
    intro he
    have he' : fstep (fnv d f n) (f n) = fstep (fnv d g n) (g n) := he
    by_cases e : n = k
    · subst e
      rw [fnv_congr d n fun i hi => ho i (by omega)] at he'
      exact hk (fstep_inj_c (fnv_lt d g hd n) (hf n) (hg n) he')
    · rw [ho n e] at he'
      exact fnv_tells d hd hf hg k hk ho n (by omega) (fstep_inj_d (fnv_lt d f hd n) (fnv_lt d g hd n) (hg n) he')

/-! Numbers in bytes of seven bits. -/
def nlen (n : Nat) : Nat := if n < 128 then 1 else nlen (n / 128) + 1
termination_by n
decreasing_by omega
theorem nlen_small (n : Nat) (h : n < 128) : nlen n = 1 := by unfold nlen; rw [if_pos h]
theorem nlen_big (n : Nat) (h : ¬ n < 128) : nlen n = nlen (n / 128) + 1 := by rw [nlen, if_neg h]
theorem nlen_pos (n : Nat) : 1 ≤ nlen n := by unfold nlen; split <;> omega
theorem nlen_le : ∀ (k n : Nat), nlen n ≤ k + 1 ↔ n < 128 ^ (k + 1)
  | 0, n => by
    by_cases h : n < 128
    · rw [nlen_small n h]; simp; omega
    · rw [nlen_big n h]; have := nlen_pos (n / 128); simp; omega
  | k + 1, n => by
    have hp : 128 ^ (k + 1 + 1) = 128 ^ (k + 1) * 128 := Nat.pow_succ ..
    have hpos : 0 < 128 ^ (k + 1) := Nat.pow_pos (by omega)
    by_cases h : n < 128
    · rw [nlen_small n h, hp]; constructor
      · intro _; omega
      · intro _; omega
    · rw [nlen_big n h, hp]
      have := nlen_le k (n / 128)
      rw [Nat.add_le_add_iff_right, this, Nat.div_lt_iff_lt_mul (by omega)]
theorem nlen_most (n : Nat) (h : n ≤ 4294967295) : nlen n ≤ 5 := (nlen_le 4 n).2 (by omega)
/-- The byte at place i of a number. -/
def nat7 (n i : Nat) : Nat := n / 128 ^ i % 128 + if i + 1 < nlen n then 128 else 0
theorem nat7_lt (n i : Nat) : nat7 n i < 256 := by
  unfold nat7
  have := Nat.mod_lt (n / 128 ^ i) (y := 128) (by omega)
  split <;> omega
theorem div_pow_succ (n i : Nat) : n / 128 ^ (i + 1) = n / 128 / 128 ^ i := by
  rw [Nat.div_div_eq_div_mul, Nat.pow_succ, Nat.mul_comm]
theorem nlen_step : ∀ (i n : Nat), i < nlen n → nlen n = i + nlen (n / 128 ^ i)
  | 0, n, _ => by simp
  | i + 1, n, h => by
    by_cases hs : n < 128
    · rw [nlen_small n hs] at h; omega
    · rw [nlen_big n hs] at h ⊢
      rw [nlen_step i (n / 128) (by omega), div_pow_succ]; omega
theorem nat7_more (n i : Nat) (hi : i < nlen n) (h : 128 ≤ n / 128 ^ i) : nat7 n i = n / 128 ^ i % 128 + 128 ∧ i + 1 < nlen n := by
  have h1 := nlen_step i n hi
  rw [nlen_big _ (by omega : ¬ n / 128 ^ i < 128)] at h1
  have h2 := nlen_pos (n / 128 ^ i / 128)
  unfold nat7
  rw [if_pos (by omega)]
  exact ⟨rfl, by omega⟩
theorem nat7_last (n i : Nat) (hi : i < nlen n) (h : n / 128 ^ i < 128) : nat7 n i = n / 128 ^ i ∧ i + 1 = nlen n := by
  have h1 := nlen_step i n hi
  rw [nlen_small _ h] at h1
  unfold nat7
  rw [if_neg (by omega), Nat.mod_eq_of_lt h]
  exact ⟨rfl, by omega⟩

/-- The sum of the first k bytes' low seven bits. -/
def val (f : Nat → Nat) : Nat → Nat
  | 0 => 0
  | k + 1 => val f k + f k % 128 * 128 ^ k
theorem val_lt (f : Nat → Nat) : ∀ k, val f k < 128 ^ k
  | 0 => by simp [val]
  | k + 1 => by
    have h1 := val_lt f k
    have h2 : f k % 128 < 128 := Nat.mod_lt _ (by omega)
    have h3 : f k % 128 * 128 ^ k ≤ 127 * 128 ^ k := Nat.mul_le_mul_right _ (by omega)
    have h4 : 128 ^ (k + 1) = 128 * 128 ^ k := by rw [Nat.pow_succ, Nat.mul_comm]
    show val f k + f k % 128 * 128 ^ k < _
    omega
theorem val_congr {f g : Nat → Nat} : ∀ k, (∀ i, i < k → f i = g i) → val f k = val g k
  | 0, _ => rfl
  | k + 1, h => by
    show val f k + f k % 128 * 128 ^ k = val g k + g k % 128 * 128 ^ k
    rw [val_congr k fun i hi => h i (by omega), h k (by omega)]
theorem val_digit (f : Nat → Nat) : ∀ k j, j < k → val f k / 128 ^ j % 128 = f j % 128
  | 0, j, h => by omega
  | k + 1, j, h => by
    show (val f k + f k % 128 * 128 ^ k) / 128 ^ j % 128 = _
    by_cases e : j = k
    · subst e
      rw [Nat.add_mul_div_right _ _ (Nat.pow_pos (by omega)), Nat.div_eq_of_lt (val_lt f j), Nat.zero_add, Nat.mod_mod]
    · have hjk : 128 ^ k = 128 ^ (k - j - 1) * 128 * 128 ^ j := by
        rw [← Nat.pow_succ, ← Nat.pow_add]; congr 1; omega
      rw [hjk, ← Nat.mul_assoc, Nat.add_mul_div_right _ _ (Nat.pow_pos (by omega)), ← Nat.mul_assoc, Nat.add_mul_mod_self_right]
      exact val_digit f k j (by omega)
/-- A number is the sum of its own bytes. -/
theorem val_nat7 (n : Nat) : ∀ k, k ≤ nlen n → val (nat7 n) k = n % 128 ^ k
  | 0, _ => by simp [val, Nat.mod_one]
  | k + 1, h => by
    show val (nat7 n) k + nat7 n k % 128 * 128 ^ k = _
    have e : nat7 n k % 128 = n / 128 ^ k % 128 := by
      unfold nat7; split
      · omega
      · omega
    rw [val_nat7 n k (by omega), e, Nat.pow_succ, Nat.mod_mul, Nat.mul_comm (128 ^ k)]
theorem val_self (n : Nat) : val (nat7 n) (nlen n) = n := by
  obtain ⟨k, hk⟩ : ∃ k, nlen n = k + 1 := ⟨nlen n - 1, by have := nlen_pos n; omega⟩
  rw [val_nat7 n _ (Nat.le_refl _), hk]
  exact Nat.mod_eq_of_lt ((nlen_le k n).1 (by omega))
/-- Bytes of which only the last is below 128 are the number's own, if the last isn't 0 or stands alone. -/
theorem nat7_of (f : Nat → Nat) (hf : ∀ i, f i < 256) (i : Nat) (hm : ∀ j, j < i → 128 ≤ f j) (hl : f i < 128) (h0 : i = 0 ∨ f i ≠ 0) : nlen (val f (i + 1)) = i + 1 ∧ ∀ j, j < i + 1 → nat7 (val f (i + 1)) j = f j := by
  have hn : nlen (val f (i + 1)) = i + 1 := by
    have h1 := (nlen_le i (val f (i + 1))).2 (val_lt f (i + 1))
    rcases i with _ | i
    · have := nlen_pos (val f (0 + 1)); omega
    · have h2 := (nlen_le i (val f (i + 1 + 1)))
      have h3 : ¬ val f (i + 1 + 1) < 128 ^ (i + 1) := by
        show ¬ val f (i + 1) + f (i + 1) % 128 * 128 ^ (i + 1) < _
        have : 1 ≤ f (i + 1) % 128 := by omega
        have := Nat.mul_le_mul_right (128 ^ (i + 1)) this
        omega
      omega
  refine ⟨hn, fun j hj => ?_⟩
  unfold nat7
  rw [hn, val_digit f (i + 1) j hj]
  have := hf j
  by_cases e : j = i
  · subst e; rw [if_neg (by omega)]; omega
  · have := hm j (by omega)
    rw [if_pos (by omega)]; omega
/-- With a last byte of 0 behind others they aren't: the number is shorter. -/
theorem nlen_zero (f : Nat → Nat) (i : Nat) (hi : 0 < i) (h0 : f i = 0) : nlen (val f (i + 1)) ≠ i + 1 := by
  obtain ⟨k, rfl⟩ : ∃ k, i = k + 1 := ⟨i - 1, by omega⟩
  have e : val f (k + 1 + 1) = val f (k + 1) := by
    show val f (k + 1) + f (k + 1) % 128 * _ = _
    rw [h0]; simp
  rw [e]
  have := (nlen_le k (val f (k + 1))).2 (val_lt f (k + 1))
  omega

/-- The first place, from i on and below m, whose byte is below 128; m if there is none. -/
def stop (f : Nat → Nat) (m i : Nat) : Nat := if i < m then (if f i < 128 then i else stop f m (i + 1)) else m
termination_by m - i
theorem stop_here {f : Nat → Nat} {m i : Nat} (h : i < m) (hf : f i < 128) : stop f m i = i := by unfold stop; rw [if_pos h, if_pos hf]
theorem stop_next {f : Nat → Nat} {m i : Nat} (h : i < m) (hf : ¬ f i < 128) : stop f m i = stop f m (i + 1) := by rw [stop, if_pos h, if_neg hf]
theorem stop_end {f : Nat → Nat} {m i : Nat} (h : ¬ i < m) : stop f m i = m := by unfold stop; rw [if_neg h]
theorem stop_le (f : Nat → Nat) (m i : Nat) (h : i ≤ m) : stop f m i ≤ m ∧ i ≤ stop f m i ∧ (stop f m i < m → f (stop f m i) < 128) ∧ ∀ j, i ≤ j → j < stop f m i → 128 ≤ f j := by
  rcases Nat.lt_or_ge i m with hi | hi
  · by_cases hf : f i < 128
    · rw [stop_here hi hf]; exact ⟨h, Nat.le_refl _, fun _ => hf, fun j _ _ => by omega⟩
    · rw [stop_next hi hf]
      obtain ⟨h1, h2, h3, h4⟩ := stop_le f m (i + 1) hi
      refine ⟨h1, by omega, h3, fun j hj hj2 => ?_⟩
      by_cases e : j = i
      · subst e; omega
      · exact h4 j (by omega) hj2
  · rw [stop_end (by omega)]; exact ⟨Nat.le_refl _, h, fun h => by omega, fun j _ _ => by omega⟩
termination_by m - i
theorem stop_eq (f : Nat → Nat) (m i : Nat) (him : i < m) (hf : f i < 128) (hm : ∀ j, j < i → 128 ≤ f j) : stop f m 0 = i := by
  obtain ⟨h1, h2, h3, h4⟩ := stop_le f m 0 (by omega)
  rcases Nat.lt_trichotomy (stop f m 0) i with h | h | h
  · have := h3 (by omega); have := hm _ h; omega
  · exact h
  · have := h4 i (by omega) h; omega
/-- The number at the front of L bytes, and how many bytes it has. -/
def tak (f : Nat → Nat) (L : Nat) : Nat × Nat :=
  if stop f (min L 5) 0 < min L 5 ∧ val f (stop f (min L 5) 0 + 1) ≤ 4294967295 ∧ (stop f (min L 5) 0 = 0 ∨ f (stop f (min L 5) 0) ≠ 0)
  then (val f (stop f (min L 5) 0 + 1), stop f (min L 5) 0 + 1) else (0, 0)
theorem tak_some (f : Nat → Nat) (L i : Nat) (hi : i < min L 5) (hm : ∀ j, j < i → 128 ≤ f j) (hl : f i < 128) (hv : val f (i + 1) ≤ 4294967295) (h0 : i = 0 ∨ f i ≠ 0) : tak f L = (val f (i + 1), i + 1) := by
  have e := stop_eq f (min L 5) i hi hl hm
  unfold tak
  rw [e, if_pos ⟨hi, hv, h0⟩]
theorem tak_bad (f : Nat → Nat) (L i : Nat) (hi : i < min L 5) (hm : ∀ j, j < i → 128 ≤ f j) (hl : f i < 128) (hv : 4294967295 < val f (i + 1) ∨ (0 < i ∧ f i = 0)) : tak f L = (0, 0) := by
  have e := stop_eq f (min L 5) i hi hl hm
  unfold tak
  rw [e, if_neg (by omega)]
theorem tak_none (f : Nat → Nat) (L : Nat) (hm : ∀ j, j < min L 5 → 128 ≤ f j) : tak f L = (0, 0) := by
  obtain ⟨h1, h2, h3, h4⟩ := stop_le f (min L 5) 0 (by omega)
  unfold tak
  rw [if_neg]
  rintro ⟨h, _⟩
  have := h3 h; have := hm _ h; omega
theorem tak_le (f : Nat → Nat) (L : Nat) : (tak f L).2 ≤ min L 5 ∧ (tak f L).1 ≤ 4294967295 ∧ ((tak f L).2 = 0 → (tak f L).1 = 0) := by
  unfold tak
  split
  · rename_i h; exact ⟨by have := h.1; show _ + 1 ≤ _; omega, h.2.1, fun h => by simp at h⟩
  · exact ⟨by simp, by simp, fun _ => rfl⟩
theorem tak_congr {f g : Nat → Nat} {L : Nat} (h : ∀ i, i < L → f i = g i) : tak f L = tak g L := by
  obtain ⟨h1, h2, h3, h4⟩ := stop_le f (min L 5) 0 (by omega)
  have e : stop f (min L 5) 0 = stop g (min L 5) 0 := by
    rcases Nat.lt_or_ge (stop f (min L 5) 0) (min L 5) with hs | hs
    · exact (stop_eq g (min L 5) _ hs (by rw [← h _ (by omega)]; exact h3 hs) (fun j hj => by rw [← h j (by omega)]; exact h4 j (by omega) hj)).symm
    · have e1 : stop f (min L 5) 0 = min L 5 := by omega
      obtain ⟨g1, g2, g3, g4⟩ := stop_le g (min L 5) 0 (by omega)
      rcases Nat.lt_or_ge (stop g (min L 5) 0) (min L 5) with hs2 | hs2
      · have := g3 hs2
        have := h4 (stop g (min L 5) 0) (by omega) (by omega)
        rw [h _ (by omega)] at this; omega
      · omega
  unfold tak
  rw [← e]
  rcases Nat.lt_or_ge (stop f (min L 5) 0) (min L 5) with hs | hs
  · rw [val_congr (f := f) (g := g) (stop f (min L 5) 0 + 1) (fun i hi => h i (by omega)), h (stop f (min L 5) 0) (by omega)]
  · rw [if_neg (by omega), if_neg (by omega)]
/-- A number's own bytes at the front are read. -/
theorem tak_num (f : Nat → Nat) (L n : Nat) (hn : n ≤ 4294967295) (hL : nlen n ≤ L) (h : ∀ i, i < nlen n → f i = nat7 n i) : tak f L = (n, nlen n) := by
  have h5 := nlen_most n hn
  have hp := nlen_pos n
  obtain ⟨k, hk⟩ : ∃ k, nlen n = k + 1 := ⟨nlen n - 1, by omega⟩
  have ev : val f (k + 1) = n := by rw [val_congr (g := nat7 n) (k + 1) (fun i hi => h i (by omega)), ← hk, val_self]
  have hlast : f k < 128 := by
    rw [h k (by omega)]; unfold nat7; rw [if_neg (by omega)]; omega
  rw [tak_some f L k (by omega) (fun j hj => by rw [h j (by omega)]; unfold nat7; rw [if_pos (by omega)]; omega) hlast (by rw [ev]; exact hn), ev, hk]
  rcases k with _ | k
  · exact .inl rfl
  · right
    intro h0
    have := nlen_zero f (k + 1) (by omega) h0
    rw [ev] at this; omega

/-! Words in eight bytes. -/
/-- The word of n bytes from o on, the lowest first. -/
def psum (b : Nat → Nat) (o : Nat) : Nat → Nat
  | 0 => 0
  | n + 1 => psum b o n + b (o + n) * 256 ^ n
theorem psum_lt (b : Nat → Nat) (o : Nat) (hb : ∀ i, b i < 256) : ∀ n, psum b o n < 256 ^ n
  | 0 => by simp [psum]
  | n + 1 => by
    have h1 := psum_lt b o hb n
    have h2 := hb (o + n)
    have h3 : (b (o + n) + 1) * 256 ^ n ≤ 256 * 256 ^ n := Nat.mul_le_mul_right _ h2
    rw [Nat.add_mul] at h3
    have h4 : 256 ^ (n + 1) = 256 * 256 ^ n := by rw [Nat.pow_succ, Nat.mul_comm]
    show psum b o n + b (o + n) * 256 ^ n < _
    rw [h4]; omega
theorem psum_congr {b c : Nat → Nat} {o p : Nat} : ∀ n, (∀ i, i < n → b (o + i) = c (p + i)) → psum b o n = psum c p n
  | 0, _ => rfl
  | n + 1, h => by
    show psum b o n + b (o + n) * 256 ^ n = psum c p n + c (p + n) * 256 ^ n
    rw [psum_congr n fun i hi => h i (by omega), h n (by omega)]
/-- The bytes of a word. -/
def byt (x j : Nat) : Nat := x / 256 ^ j % 256
theorem byt_lt (x j : Nat) : byt x j < 256 := Nat.mod_lt _ (by omega)
theorem psum_byt (x : Nat) : ∀ n, psum (byt x) 0 n = x % 256 ^ n
  | 0 => by simp [psum, Nat.mod_one]
  | n + 1 => by
    show psum (byt x) 0 n + byt x (0 + n) * 256 ^ n = _
    rw [psum_byt x n, Nat.zero_add, Nat.pow_succ, Nat.mod_mul, Nat.mul_comm (256 ^ n)]; rfl
theorem psum_byt8 (x : Nat) (h : x < 18446744073709551616) : psum (byt x) 0 8 = x := by
  rw [psum_byt]; exact Nat.mod_eq_of_lt h
/-- The bytes of words. -/
def wby (ws : Nat → Nat) (i : Nat) : Nat := byt (ws (i / 8)) (i % 8)
theorem wby_lt (ws : Nat → Nat) (i : Nat) : wby ws i < 256 := byt_lt _ _
/-- A message's bytes. -/
def encB (r n : Nat) (ws : Nat → Nat) (i : Nat) : Nat :=
  if i < nlen r then nat7 r i else if i < nlen r + nlen n then nat7 n (i - nlen r) else wby ws (i - (nlen r + nlen n))
theorem encB_lt (r n : Nat) (ws : Nat → Nat) (i : Nat) : encB r n ws i < 256 := by
  unfold encB; split
  · exact nat7_lt _ _
  · split
    · exact nat7_lt _ _
    · exact wby_lt _ _
def encLen (r n : Nat) : Nat := nlen r + nlen n + 8 * n
/-- What Decode reads: the number at the front, the number behind it, where the words begin, whether all fits. -/
def hd (f : Nat → Nat) (L : Nat) : Nat × Nat := tak f L
def cn (f : Nat → Nat) (L : Nat) : Nat × Nat := tak (fun i => f ((hd f L).2 + i)) (L - (hd f L).2)
def off (f : Nat → Nat) (L : Nat) : Nat := (hd f L).2 + (cn f L).2
def fits (f : Nat → Nat) (L : Nat) : Prop := (hd f L).2 ≠ 0 ∧ (cn f L).2 ≠ 0 ∧ (cn f L).1 ≤ 65536 ∧ L = off f L + 8 * (cn f L).1
instance (f : Nat → Nat) (L : Nat) : Decidable (fits f L) := by unfold fits; infer_instance
theorem off_le (f : Nat → Nat) (L : Nat) : (hd f L).2 ≤ L ∧ off f L ≤ L := by
  have h1 := (tak_le f L).1
  have h2 := (tak_le (fun i => f ((hd f L).2 + i)) (L - (hd f L).2)).1
  have e1 : (hd f L).2 = (tak f L).2 := rfl
  have e2 : (cn f L).2 = (tak (fun i => f ((hd f L).2 + i)) (L - (hd f L).2)).2 := rfl
  refine ⟨by omega, ?_⟩
  unfold off
  omega
/-- Of a message's bytes, with more behind them, round and count are read. -/
theorem enc_reads (r n : Nat) (ws : Nat → Nat) (f : Nat → Nat) (L : Nat) (hr : r ≤ 4294967295) (hn : n ≤ 65536) (hL : encLen r n ≤ L) (h : ∀ i, i < encLen r n → f i = encB r n ws i) : hd f L = (r, nlen r) ∧ cn f L = (n, nlen n) ∧ off f L = nlen r + nlen n := by
  have hl : encLen r n = nlen r + nlen n + 8 * n := rfl
  have h1 : hd f L = (r, nlen r) := tak_num f L r hr (by omega) (fun i hi => by
    rw [h i (by omega)]; unfold encB; rw [if_pos hi])
  have h2 : cn f L = (n, nlen n) := by
    unfold cn
    rw [h1]
    refine tak_num _ _ n (by omega) (by simp only; omega) (fun i hi => ?_)
    simp only
    rw [h _ (by omega)]; unfold encB; rw [if_neg (by omega), if_pos (by omega), Nat.add_sub_cancel_left]
  refine ⟨h1, h2, ?_⟩
  unfold off; rw [h1, h2]
theorem enc_word (r n : Nat) (ws : Nat → Nat) (f : Nat → Nat) (hw : ∀ i, i < n → ws i < 18446744073709551616) (h : ∀ i, i < encLen r n → f i = encB r n ws i) (i : Nat) (hi : i < n) : psum f (nlen r + nlen n + 8 * i) 8 = ws i := by
  have hl : encLen r n = nlen r + nlen n + 8 * n := rfl
  rw [psum_congr (c := byt (ws i)) (p := 0) 8, psum_byt8 _ (hw i hi)]
  intro j hj
  rw [h _ (by omega)]; unfold encB
  rw [if_neg (by omega), if_neg (by omega), show nlen r + nlen n + 8 * i + j - (nlen r + nlen n) = 8 * i + j by omega]
  unfold wby
  rw [show (8 * i + j) / 8 = i by omega, show (8 * i + j) % 8 = j by omega, Nat.zero_add]
/-- Messages whose bytes are the same are the same. -/
theorem enc_inj (r n r' n' : Nat) (ws ws' : Nat → Nat) (hr : r ≤ 4294967295) (hr' : r' ≤ 4294967295) (hn : n ≤ 65536) (hn' : n' ≤ 65536) (hw : ∀ i, i < n → ws i < 18446744073709551616) (hw' : ∀ i, i < n' → ws' i < 18446744073709551616)
    (hl : encLen r n = encLen r' n') (h : ∀ i, i < encLen r n → encB r n ws i = encB r' n' ws' i) : r = r' ∧ n = n' ∧ ∀ i, i < n → ws i = ws' i := by
  have a := enc_reads r n ws (encB r n ws) (encLen r n) hr hn (Nat.le_refl _) (fun _ _ => rfl)
  have b := enc_reads r' n' ws' (encB r n ws) (encLen r n) hr' hn' (by omega) (fun i hi => h i (by omega))
  have e1 : r = r' := by have := a.1.symm.trans b.1; exact (Prod.mk.inj this).1
  have e2 : n = n' := by have := a.2.1.symm.trans b.2.1; exact (Prod.mk.inj this).1
  subst e1 e2
  refine ⟨rfl, rfl, fun i hi => ?_⟩
  rw [← enc_word r n ws (encB r n ws) hw (fun _ _ => rfl) i hi, ← enc_word r n ws' (encB r n ws) hw' h i hi]
end Wire
end Go.Proofs.YtoeohodajoibjaaDoor
