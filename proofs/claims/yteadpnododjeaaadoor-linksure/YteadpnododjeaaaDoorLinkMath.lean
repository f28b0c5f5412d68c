/- Plain mathematics for the link laws: the CRC-32's register is linear and one to one; one bit turned in a frame of up to 2,044 bytes, or two, never leave the sum right. No function of the program. -/
import Derived.KernelRfl
namespace Go.Proofs.YteadpnododjeaaaDoor
namespace Link

def poly : Nat := 3988292384
/-- One step of the register. -/
def st (c : Nat) : Nat := c / 2 ^^^ (if c % 2 = 1 then poly else 0)
theorem st_xor (a b : Nat) : st (a ^^^ b) = st a ^^^ st b := by
  unfold st
  rw [Nat.xor_div_two]
  have hm : (a ^^^ b) % 2 = 1 ↔ ¬ (a % 2 = 1 ↔ b % 2 = 1) := Nat.xor_mod_two_eq_one
  by_cases ha : a % 2 = 1
  · by_cases hb : b % 2 = 1
    · rw [if_neg (fun h => (hm.1 h) ⟨fun _ => hb, fun _ => ha⟩), if_pos ha, if_pos hb, Nat.xor_zero]
      rw [Nat.xor_assoc, Nat.xor_comm poly, Nat.xor_assoc, Nat.xor_self, Nat.xor_zero]
    · rw [if_pos (hm.2 fun h => hb (h.1 ha)), if_pos ha, if_neg hb, Nat.xor_zero, Nat.xor_assoc, Nat.xor_comm (b / 2), ← Nat.xor_assoc]
  · by_cases hb : b % 2 = 1
    · rw [if_pos (hm.2 fun h => ha (h.2 hb)), if_neg ha, if_pos hb, Nat.xor_zero, Nat.xor_assoc]
    · rw [if_neg (fun h => (hm.1 h) ⟨fun h => absurd h ha, fun h => absurd h hb⟩), if_neg ha, if_neg hb, Nat.xor_zero, Nat.xor_zero, Nat.xor_zero]
theorem poly_lt : poly < 4294967296 := by decide
theorem xor_lt32 {X Y : Nat} (hX : X < 4294967296) (hY : Y < 4294967296) : X ^^^ Y < 4294967296 := Nat.xor_lt_two_pow (n := 32) hX hY
theorem st_lt {c : Nat} (h : c < 4294967296) : st c < 4294967296 := by
  unfold st
  refine xor_lt32 (by omega) ?_
  split
  · exact poly_lt
  · omega
theorem xor_eq_zero {a b : Nat} (h : a ^^^ b = 0) : a = b := by
  have := congrArg (fun z => z ^^^ b) h
  simpa [Nat.xor_assoc] using this
theorem st_zero {c : Nat} (h : c < 4294967296) (h0 : st c = 0) : c = 0 := by
  unfold st at h0
  have e := xor_eq_zero h0
  by_cases hc : c % 2 = 1
  · rw [if_pos hc] at e
    have : poly = 3988292384 := rfl
    omega
  · rw [if_neg hc] at e
    omega
theorem st_inj {a b : Nat} (ha : a < 4294967296) (hb : b < 4294967296) (h : st a = st b) : a = b := by
  refine xor_eq_zero (st_zero (xor_lt32 ha hb) ?_)
  rw [st_xor, h, Nat.xor_self]
theorem st_double (x : Nat) : st (2 * x) = x := by
  unfold st
  rw [if_neg (by omega), Nat.xor_zero]
  omega
/-- So many steps. -/
def it : Nat → Nat → Nat
  | 0, c => c
  | n + 1, c => it n (st c)
theorem it_add (m : Nat) : ∀ (n c : Nat), it (n + m) c = it m (it n c)
  | 0, c => by rw [Nat.zero_add]; rfl
  | n + 1, c => by rw [show n + 1 + m = (n + m) + 1 by omega]; exact it_add m n (st c)
theorem it_succ (n c : Nat) : it (n + 1) c = st (it n c) := it_add 1 n c
theorem it_xor : ∀ (n a b : Nat), it n (a ^^^ b) = it n a ^^^ it n b
  | 0, _, _ => rfl
  | n + 1, a, b => by
    show it n (st (a ^^^ b)) = it n (st a) ^^^ it n (st b)
    rw [st_xor, it_xor n]
theorem it_lt : ∀ (n : Nat) {c : Nat}, c < 4294967296 → it n c < 4294967296
  | 0, _, h => h
  | n + 1, _, h => it_lt n (st_lt h)
theorem it_inj : ∀ (n : Nat) {a b : Nat}, a < 4294967296 → b < 4294967296 → it n a = it n b → a = b
  | 0, _, _, _, _, h => h
  | n + 1, _, _, ha, hb, h => st_inj ha hb (it_inj n (st_lt ha) (st_lt hb) h)
theorem it_shift : ∀ (n x : Nat), it n (2 ^ n * x) = x
  | 0, x => by rw [Nat.pow_zero, Nat.one_mul]; rfl
  | n + 1, x => by
    show it n (st (2 ^ (n + 1) * x)) = x
    rw [show 2 ^ (n + 1) * x = 2 * (2 ^ n * x) by rw [Nat.pow_succ, Nat.mul_comm (2 ^ n) 2, Nat.mul_assoc], st_double, it_shift n]
theorem it_pow (n : Nat) : it n (2 ^ n) = 1 := by have := it_shift n 1; rwa [Nat.mul_one] at this
/-- 2^d steps; 0 if the register was 1 ahead of one of them. -/
def run : Nat → Nat → Nat
  | 0, c => if c = 1 then 0 else st c
  | d + 1, c => run d (run d c)
theorem run_zero : ∀ d, run d 0 = 0
  | 0 => rfl
  | d + 1 => by show run d (run d 0) = 0; rw [run_zero d, run_zero d]
theorem run_spec : ∀ (d c : Nat), run d c ≠ 0 → run d c = it (2 ^ d) c ∧ ∀ k, k < 2 ^ d → it k c ≠ 1
  | 0, c, h => by
    have hr : run 0 c = if c = 1 then 0 else st c := rfl
    rw [hr] at h ⊢
    by_cases e : c = 1
    · rw [if_pos e] at h; exact absurd rfl h
    · rw [if_neg e]
      refine ⟨rfl, fun k hk => ?_⟩
      obtain rfl : k = 0 := by omega
      exact e
  | d + 1, c, h => by
    have hr : run (d + 1) c = run d (run d c) := rfl
    rw [hr] at h ⊢
    have h1 : run d c ≠ 0 := fun e => h (by rw [e, run_zero])
    obtain ⟨a1, a2⟩ := run_spec d c h1
    obtain ⟨b1, b2⟩ := run_spec d (run d c) h
    refine ⟨by rw [b1, a1, ← it_add, Nat.pow_succ, Nat.mul_two], fun k hk => ?_⟩
    by_cases hlt : k < 2 ^ d
    · exact a2 k hlt
    · have := b2 (k - 2 ^ d) (by rw [Nat.pow_succ] at hk; omega)
      rw [a1, ← it_add] at this
      rwa [show 2 ^ d + (k - 2 ^ d) = k by omega] at this
theorem run_two {d a m b : Nat} (h1 : run d a = m) (h2 : run d m = b) : run (d + 1) a = b := by
  show run d (run d a) = b
  rw [h1, h2]
theorem r8_0 : run 8 3988292384 = 2028798677 := by kernel_rfl
theorem r8_1 : run 8 2028798677 = 2854360554 := by kernel_rfl
theorem r8_2 : run 8 2854360554 = 1870874337 := by kernel_rfl
theorem r8_3 : run 8 1870874337 = 4098324921 := by kernel_rfl
theorem r8_4 : run 8 4098324921 = 1906974192 := by kernel_rfl
theorem r8_5 : run 8 1906974192 = 3238970848 := by kernel_rfl
theorem r8_6 : run 8 3238970848 = 3366772097 := by kernel_rfl
theorem r8_7 : run 8 3366772097 = 2325822405 := by kernel_rfl
theorem r8_8 : run 8 2325822405 = 4220600380 := by kernel_rfl
theorem r8_9 : run 8 4220600380 = 122546918 := by kernel_rfl
theorem r8_10 : run 8 122546918 = 2402634449 := by kernel_rfl
theorem r8_11 : run 8 2402634449 = 4224357080 := by kernel_rfl
theorem r8_12 : run 8 4224357080 = 632816980 := by kernel_rfl
theorem r8_13 : run 8 632816980 = 1451660761 := by kernel_rfl
theorem r8_14 : run 8 1451660761 = 2362892563 := by kernel_rfl
theorem r8_15 : run 8 2362892563 = 137981332 := by kernel_rfl
theorem r8_16 : run 8 137981332 = 4147467928 := by kernel_rfl
theorem r8_17 : run 8 4147467928 = 3069844069 := by kernel_rfl
theorem r8_18 : run 8 3069844069 = 2682509689 := by kernel_rfl
theorem r8_19 : run 8 2682509689 = 2112170013 := by kernel_rfl
theorem r8_20 : run 8 2112170013 = 3086730221 := by kernel_rfl
theorem r8_21 : run 8 3086730221 = 1339411014 := by kernel_rfl
theorem r8_22 : run 8 1339411014 = 4189374926 := by kernel_rfl
theorem r8_23 : run 8 4189374926 = 168944285 := by kernel_rfl
theorem r8_24 : run 8 168944285 = 3152158224 := by kernel_rfl
theorem r8_25 : run 8 3152158224 = 2760716662 := by kernel_rfl
theorem r8_26 : run 8 2760716662 = 1412364431 := by kernel_rfl
theorem r8_27 : run 8 1412364431 = 3377738240 := by kernel_rfl
theorem r8_28 : run 8 3377738240 = 1000036679 := by kernel_rfl
theorem r8_29 : run 8 1000036679 = 856319667 := by kernel_rfl
theorem r8_30 : run 8 856319667 = 2674702522 := by kernel_rfl
theorem r8_31 : run 8 2674702522 = 2448456599 := by kernel_rfl
theorem r8_32 : run 8 2448456599 = 2099358254 := by kernel_rfl
theorem r8_33 : run 8 2099358254 = 2184269492 := by kernel_rfl
theorem r8_34 : run 8 2184269492 = 1692711453 := by kernel_rfl
theorem r8_35 : run 8 1692711453 = 755604560 := by kernel_rfl
theorem r8_36 : run 8 755604560 = 2626769664 := by kernel_rfl
theorem r8_37 : run 8 2626769664 = 492431585 := by kernel_rfl
theorem r8_38 : run 8 492431585 = 1159447339 := by kernel_rfl
theorem r8_39 : run 8 1159447339 = 1549407029 := by kernel_rfl
theorem r8_40 : run 8 1549407029 = 2075926051 := by kernel_rfl
theorem r8_41 : run 8 2075926051 = 145971185 := by kernel_rfl
theorem r8_42 : run 8 145971185 = 3397655990 := by kernel_rfl
theorem r8_43 : run 8 3397655990 = 458622816 := by kernel_rfl
theorem r8_44 : run 8 458622816 = 185819121 := by kernel_rfl
theorem r8_45 : run 8 185819121 = 3370689732 := by kernel_rfl
theorem r8_46 : run 8 3370689732 = 165995106 := by kernel_rfl
theorem r8_47 : run 8 165995106 = 2293964191 := by kernel_rfl
theorem r8_48 : run 8 2293964191 = 2683606252 := by kernel_rfl
theorem r8_49 : run 8 2683606252 = 2193002201 := by kernel_rfl
theorem r8_50 : run 8 2193002201 = 3724475219 := by kernel_rfl
theorem r8_51 : run 8 3724475219 = 3003302137 := by kernel_rfl
theorem r8_52 : run 8 3003302137 = 3676325619 := by kernel_rfl
theorem r8_53 : run 8 3676325619 = 2936350202 := by kernel_rfl
theorem r8_54 : run 8 2936350202 = 4223390640 := by kernel_rfl
theorem r8_55 : run 8 4223390640 = 1024579106 := by kernel_rfl
theorem r8_56 : run 8 1024579106 = 1566594660 := by kernel_rfl
theorem r8_57 : run 8 1566594660 = 1790900384 := by kernel_rfl
theorem r8_58 : run 8 1790900384 = 2258476534 := by kernel_rfl
theorem r8_59 : run 8 2258476534 = 2348455407 := by kernel_rfl
theorem r8_60 : run 8 2348455407 = 635229522 := by kernel_rfl
theorem r8_61 : run 8 635229522 = 3892659421 := by kernel_rfl
theorem r8_62 : run 8 3892659421 = 4214810607 := by kernel_rfl
theorem r8_63 : run 8 4214810607 = 2850283025 := by kernel_rfl
theorem r9_0 : run 9 3988292384 = 2854360554 := run_two (d := 8) r8_0 r8_1
theorem r9_1 : run 9 2854360554 = 4098324921 := run_two (d := 8) r8_2 r8_3
theorem r9_2 : run 9 4098324921 = 3238970848 := run_two (d := 8) r8_4 r8_5
theorem r9_3 : run 9 3238970848 = 2325822405 := run_two (d := 8) r8_6 r8_7
theorem r9_4 : run 9 2325822405 = 122546918 := run_two (d := 8) r8_8 r8_9
theorem r9_5 : run 9 122546918 = 4224357080 := run_two (d := 8) r8_10 r8_11
theorem r9_6 : run 9 4224357080 = 1451660761 := run_two (d := 8) r8_12 r8_13
theorem r9_7 : run 9 1451660761 = 137981332 := run_two (d := 8) r8_14 r8_15
theorem r9_8 : run 9 137981332 = 3069844069 := run_two (d := 8) r8_16 r8_17
theorem r9_9 : run 9 3069844069 = 2112170013 := run_two (d := 8) r8_18 r8_19
theorem r9_10 : run 9 2112170013 = 1339411014 := run_two (d := 8) r8_20 r8_21
theorem r9_11 : run 9 1339411014 = 168944285 := run_two (d := 8) r8_22 r8_23
theorem r9_12 : run 9 168944285 = 2760716662 := run_two (d := 8) r8_24 r8_25
theorem r9_13 : run 9 2760716662 = 3377738240 := run_two (d := 8) r8_26 r8_27
theorem r9_14 : run 9 3377738240 = 856319667 := run_two (d := 8) r8_28 r8_29
theorem r9_15 : run 9 856319667 = 2448456599 := run_two (d := 8) r8_30 r8_31
theorem r9_16 : run 9 2448456599 = 2184269492 := run_two (d := 8) r8_32 r8_33
theorem r9_17 : run 9 2184269492 = 755604560 := run_two (d := 8) r8_34 r8_35
theorem r9_18 : run 9 755604560 = 492431585 := run_two (d := 8) r8_36 r8_37
theorem r9_19 : run 9 492431585 = 1549407029 := run_two (d := 8) r8_38 r8_39
theorem r9_20 : run 9 1549407029 = 145971185 := run_two (d := 8) r8_40 r8_41
theorem r9_21 : run 9 145971185 = 458622816 := run_two (d := 8) r8_42 r8_43
theorem r9_22 : run 9 458622816 = 3370689732 := run_two (d := 8) r8_44 r8_45
theorem r9_23 : run 9 3370689732 = 2293964191 := run_two (d := 8) r8_46 r8_47
theorem r9_24 : run 9 2293964191 = 2193002201 := run_two (d := 8) r8_48 r8_49
theorem r9_25 : run 9 2193002201 = 3003302137 := run_two (d := 8) r8_50 r8_51
theorem r9_26 : run 9 3003302137 = 2936350202 := run_two (d := 8) r8_52 r8_53
theorem r9_27 : run 9 2936350202 = 1024579106 := run_two (d := 8) r8_54 r8_55
theorem r9_28 : run 9 1024579106 = 1790900384 := run_two (d := 8) r8_56 r8_57
theorem r9_29 : run 9 1790900384 = 2348455407 := run_two (d := 8) r8_58 r8_59
theorem r9_30 : run 9 2348455407 = 3892659421 := run_two (d := 8) r8_60 r8_61
theorem r9_31 : run 9 3892659421 = 2850283025 := run_two (d := 8) r8_62 r8_63
theorem r10_0 : run 10 3988292384 = 4098324921 := run_two (d := 9) r9_0 r9_1
theorem r10_1 : run 10 4098324921 = 2325822405 := run_two (d := 9) r9_2 r9_3
theorem r10_2 : run 10 2325822405 = 4224357080 := run_two (d := 9) r9_4 r9_5
theorem r10_3 : run 10 4224357080 = 137981332 := run_two (d := 9) r9_6 r9_7
theorem r10_4 : run 10 137981332 = 2112170013 := run_two (d := 9) r9_8 r9_9
theorem r10_5 : run 10 2112170013 = 168944285 := run_two (d := 9) r9_10 r9_11
theorem r10_6 : run 10 168944285 = 3377738240 := run_two (d := 9) r9_12 r9_13
theorem r10_7 : run 10 3377738240 = 2448456599 := run_two (d := 9) r9_14 r9_15
theorem r10_8 : run 10 2448456599 = 755604560 := run_two (d := 9) r9_16 r9_17
theorem r10_9 : run 10 755604560 = 1549407029 := run_two (d := 9) r9_18 r9_19
theorem r10_10 : run 10 1549407029 = 458622816 := run_two (d := 9) r9_20 r9_21
theorem r10_11 : run 10 458622816 = 2293964191 := run_two (d := 9) r9_22 r9_23
theorem r10_12 : run 10 2293964191 = 3003302137 := run_two (d := 9) r9_24 r9_25
theorem r10_13 : run 10 3003302137 = 1024579106 := run_two (d := 9) r9_26 r9_27
theorem r10_14 : run 10 1024579106 = 2348455407 := run_two (d := 9) r9_28 r9_29
theorem r10_15 : run 10 2348455407 = 2850283025 := run_two (d := 9) r9_30 r9_31
theorem r11_0 : run 11 3988292384 = 2325822405 := run_two (d := 10) r10_0 r10_1
theorem r11_1 : run 11 2325822405 = 137981332 := run_two (d := 10) r10_2 r10_3
theorem r11_2 : run 11 137981332 = 168944285 := run_two (d := 10) r10_4 r10_5
theorem r11_3 : run 11 168944285 = 2448456599 := run_two (d := 10) r10_6 r10_7
theorem r11_4 : run 11 2448456599 = 1549407029 := run_two (d := 10) r10_8 r10_9
theorem r11_5 : run 11 1549407029 = 2293964191 := run_two (d := 10) r10_10 r10_11
theorem r11_6 : run 11 2293964191 = 1024579106 := run_two (d := 10) r10_12 r10_13
theorem r11_7 : run 11 1024579106 = 2850283025 := run_two (d := 10) r10_14 r10_15
theorem r12_0 : run 12 3988292384 = 137981332 := run_two (d := 11) r11_0 r11_1
theorem r12_1 : run 12 137981332 = 2448456599 := run_two (d := 11) r11_2 r11_3
theorem r12_2 : run 12 2448456599 = 2293964191 := run_two (d := 11) r11_4 r11_5
theorem r12_3 : run 12 2293964191 = 2850283025 := run_two (d := 11) r11_6 r11_7
theorem r13_0 : run 13 3988292384 = 2448456599 := run_two (d := 12) r12_0 r12_1
theorem r13_1 : run 13 2448456599 = 2850283025 := run_two (d := 12) r12_2 r12_3
theorem r14_0 : run 14 3988292384 = 2850283025 := run_two (d := 13) r13_0 r13_1
theorem run_big : Nat.beq (run 14 (st 1)) 0 = false := by
  rw [show st 1 = 3988292384 from rfl, r14_0]
  rfl
/-- The register that holds 1 doesn't hold it again for 16,384 steps. -/
theorem it_one (k : Nat) (h0 : 0 < k) (h1 : k ≤ 16384) : it k 1 ≠ 1 := by
  have h : run 14 (st 1) ≠ 0 := fun e => by have := run_big; rw [e] at this; cases this
  have := (run_spec 14 (st 1) h).2 (k - 1) (by omega)
  intro e
  apply this
  rw [show k = (k - 1) + 1 by omega] at e
  exact e
theorem it_one_inj (a b : Nat) (ha : a ≤ 16384) (hb : b ≤ 16384) (h : it a 1 = it b 1) : a = b := by
  have key : ∀ a b, b ≤ 16384 → a < b → it a 1 ≠ it b 1 := fun a b hb hlt e => by
    rw [show b = (b - a) + a by omega, it_add] at e
    exact it_one (b - a) (by omega) (by omega) (it_inj a (it_lt _ (by omega)) (by omega) e.symm)
  rcases Nat.lt_trichotomy a b with hlt | rfl | hlt
  · exact absurd h (key a b hb hlt)
  · rfl
  · exact absurd h.symm (key b a ha hlt)

/-! Bytes. -/
/-- The register behind n bytes. -/
def reg (c : Nat) (f : Nat → Nat) : Nat → Nat
  | 0 => c
  | n + 1 => it 8 (reg c f n ^^^ f n)
theorem reg_congr (c : Nat) {f g : Nat → Nat} : ∀ n, (∀ i, i < n → f i = g i) → reg c f n = reg c g n
  | 0, _ => rfl
  | n + 1, h => by
    show it 8 (reg c f n ^^^ f n) = it 8 (reg c g n ^^^ g n)
    rw [reg_congr c n fun i hi => h i (by omega), h n (by omega)]
theorem reg_lt {c : Nat} {f : Nat → Nat} (hc : c < 4294967296) (hf : ∀ i, f i < 256) : ∀ n, reg c f n < 4294967296
  | 0 => hc
  | n + 1 => it_lt 8 (xor_lt32 (reg_lt hc hf n) (by have := hf n; omega))
/-- The bit x of the bytes turned. -/
def turn (f : Nat → Nat) (x : Nat) (i : Nat) : Nat := if i = x / 8 then f i ^^^ 2 ^ (x % 8) else f i
/-- A turned bit ahead turns the register by so many steps of 1. -/
theorem reg_turn (c : Nat) (f : Nat → Nat) (x : Nat) : ∀ n, x < 8 * n → reg c (turn f x) n = reg c f n ^^^ it (8 * n - x) 1
  | 0, h => by omega
  | n + 1, h => by
    show it 8 (reg c (turn f x) n ^^^ turn f x n) = it 8 (reg c f n ^^^ f n) ^^^ it (8 * (n + 1) - x) 1
    by_cases hx : x < 8 * n
    · rw [reg_turn c f x n hx]
      have e : turn f x n = f n := by unfold turn; rw [if_neg (by omega)]
      rw [e, Nat.xor_assoc, Nat.xor_comm (it (8 * n - x) 1), ← Nat.xor_assoc, it_xor, ← it_add, show 8 * n - x + 8 = 8 * (n + 1) - x by omega]
    · have e : turn f x n = f n ^^^ 2 ^ (x % 8) := by unfold turn; rw [if_pos (by omega)]
      have e2 : reg c (turn f x) n = reg c f n := reg_congr c n fun i hi => by unfold turn; rw [if_neg (by omega)]
      rw [e, e2, ← Nat.xor_assoc, it_xor]
      congr 1
      rw [show 8 = x % 8 + (8 * (n + 1) - x) by omega, it_add]
      rw [show x % 8 + (8 * (n + 1) - x) = 8 by omega, it_pow]
/-- Four bytes from n on, the lowest first. -/
def le4 (f : Nat → Nat) (n : Nat) : Nat := f n + 256 * f (n + 1) + 65536 * f (n + 2) + 16777216 * f (n + 3)
theorem xor_add (a b j : Nat) (ha : a < 2 ^ j) : a ^^^ 2 ^ j * b = a + 2 ^ j * b := by
  rw [Nat.add_comm a]
  apply Nat.eq_of_testBit_eq
  intro i
  rw [Nat.testBit_xor, Nat.testBit_two_pow_mul, Nat.testBit_two_pow_mul_add _ ha]
  by_cases h : i < j
  · simp [h, Nat.not_le.2 h]
  · have : a.testBit i = false := Nat.testBit_lt_two_pow (Nat.lt_of_lt_of_le ha (Nat.pow_le_pow_right (by omega) (by omega)))
    simp [h, this, Nat.le_of_not_lt h]
theorem le4_xor (f : Nat → Nat) (n : Nat) (hf : ∀ i, f i < 256) : le4 f n = f n ^^^ 2 ^ 8 * (f (n + 1) ^^^ 2 ^ 8 * (f (n + 2) ^^^ 2 ^ 8 * f (n + 3))) := by
  have h0 := hf n
  have h1 := hf (n + 1)
  have h2 := hf (n + 2)
  rw [xor_add _ _ 8 h2, xor_add _ _ 8 h1, xor_add _ _ 8 h0]
  unfold le4
  omega
theorem le4_lt (f : Nat → Nat) (n : Nat) (hf : ∀ i, f i < 256) : le4 f n < 4294967296 := by
  have h0 := hf n
  have h1 := hf (n + 1)
  have h2 := hf (n + 2)
  have h3 := hf (n + 3)
  unfold le4
  omega
theorem turn_lt (f : Nat → Nat) (x : Nat) (hf : ∀ i, f i < 256) (i : Nat) : turn f x i < 256 := by
  unfold turn
  split
  · exact Nat.xor_lt_two_pow (n := 8) (hf i) (by
      have : 2 ^ (x % 8) < 2 ^ 8 := Nat.pow_lt_pow_right (by omega) (Nat.mod_lt _ (by omega))
      exact this)
  · exact hf i
theorem mul_xor (j a b : Nat) : 2 ^ j * (a ^^^ b) = 2 ^ j * a ^^^ 2 ^ j * b := by
  apply Nat.eq_of_testBit_eq
  intro i
  rw [Nat.testBit_xor, Nat.testBit_two_pow_mul, Nat.testBit_two_pow_mul, Nat.testBit_two_pow_mul, Nat.testBit_xor]
  by_cases h : j ≤ i <;> simp [h]
theorem le4_turn (f : Nat → Nat) (n x : Nat) (hf : ∀ i, f i < 256) (h0 : 8 * n ≤ x) (h1 : x < 8 * n + 32) : le4 (turn f x) n = le4 f n ^^^ 2 ^ (x - 8 * n) := by
  rw [le4_xor _ _ (turn_lt f x hf), le4_xor _ _ hf]
  have hq : x / 8 = n ∨ x / 8 = n + 1 ∨ x / 8 = n + 2 ∨ x / 8 = n + 3 := by omega
  unfold turn
  rcases hq with e | e | e | e
  · rw [e, if_pos rfl, if_neg (by omega), if_neg (by omega), if_neg (by omega), show x - 8 * n = x % 8 by omega]
    rw [Nat.xor_assoc, Nat.xor_comm (2 ^ (x % 8)), ← Nat.xor_assoc]
  · rw [e, if_neg (by omega), if_pos rfl, if_neg (by omega), if_neg (by omega), show x - 8 * n = 8 + x % 8 by omega, Nat.pow_add]
    rw [Nat.xor_assoc (f (n + 1)), Nat.xor_comm (2 ^ (x % 8)), ← Nat.xor_assoc (f (n + 1)), mul_xor 8 (f (n + 1) ^^^ _), ← Nat.xor_assoc]
  · rw [e, if_neg (by omega), if_neg (by omega), if_pos rfl, if_neg (by omega), show x - 8 * n = 8 + (8 + x % 8) by omega, Nat.pow_add, Nat.pow_add]
    rw [Nat.xor_assoc (f (n + 2)), Nat.xor_comm (2 ^ (x % 8)), ← Nat.xor_assoc (f (n + 2)), mul_xor 8 (f (n + 2) ^^^ _), ← Nat.xor_assoc (f (n + 1)), mul_xor 8 (f (n + 1) ^^^ _), ← Nat.xor_assoc]
  · rw [e, if_neg (by omega), if_neg (by omega), if_neg (by omega), if_pos rfl, show x - 8 * n = 8 + (8 + (8 + x % 8)) by omega, Nat.pow_add, Nat.pow_add, Nat.pow_add]
    rw [mul_xor 8 (f (n + 3)), ← Nat.xor_assoc (f (n + 2)), mul_xor 8 (f (n + 2) ^^^ _), ← Nat.xor_assoc (f (n + 1)), mul_xor 8 (f (n + 1) ^^^ _), ← Nat.xor_assoc]
/-- What is wrong with the sum of n bytes. -/
def syn (f : Nat → Nat) (n : Nat) : Nat := (reg 4294967295 f n ^^^ 4294967295) ^^^ le4 f n
theorem syn_ok (f : Nat → Nat) (n : Nat) : syn f n = 0 ↔ reg 4294967295 f n ^^^ 4294967295 = le4 f n :=
  ⟨fun h => xor_eq_zero h, fun h => by unfold syn; rw [h, Nat.xor_self]⟩
/-- What one turned bit leaves. -/
def one (n x : Nat) : Nat := if x < 8 * n then it (8 * n - x) 1 else 2 ^ (x - 8 * n)
theorem syn_turn (f : Nat → Nat) (n x : Nat) (hf : ∀ i, f i < 256) (hx : x < 8 * n + 32) : syn (turn f x) n = syn f n ^^^ one n x := by
  unfold syn one
  by_cases h : x < 8 * n
  · have e : le4 (turn f x) n = le4 f n := by
      unfold le4 turn
      rw [if_neg (by omega), if_neg (by omega), if_neg (by omega), if_neg (by omega)]
    rw [if_pos h, reg_turn _ _ _ _ h, e]
    rw [Nat.xor_assoc (reg _ _ _), Nat.xor_comm (it _ _), ← Nat.xor_assoc (reg _ _ _), Nat.xor_assoc _ (it _ _), Nat.xor_comm (it _ _) (le4 f n), ← Nat.xor_assoc]
  · have e : reg 4294967295 (turn f x) n = reg 4294967295 f n := reg_congr _ n fun i hi => by unfold turn; rw [if_neg (by omega)]
    rw [if_neg h, e, le4_turn f n x hf (by omega) hx, ← Nat.xor_assoc]
theorem one_it (n x : Nat) (hx : x < 8 * n + 32) : it 32 (one n x) = it (8 * n + 32 - x) 1 := by
  unfold one
  by_cases h : x < 8 * n
  · rw [if_pos h, ← it_add, show 8 * n - x + 32 = 8 * n + 32 - x by omega]
  · rw [if_neg h, show 32 = (x - 8 * n) + (8 * n + 32 - x) by omega, it_add, it_pow]
    rw [show x - 8 * n + (8 * n + 32 - x) = 32 by omega]
theorem one_lt (n x : Nat) (hx : x < 8 * n + 32) : one n x < 4294967296 := by
  unfold one
  split
  · exact it_lt _ (by omega)
  · have : 2 ^ (x - 8 * n) < 2 ^ 32 := Nat.pow_lt_pow_right (by omega) (by omega)
    exact this
theorem one_inj (n x y : Nat) (hn : 8 * n + 32 ≤ 16384) (hx : x < 8 * n + 32) (hy : y < 8 * n + 32) (h : one n x = one n y) : x = y := by
  have e := congrArg (it 32) h
  rw [one_it n x hx, one_it n y hy] at e
  have := it_one_inj _ _ (by omega) (by omega) e
  omega
theorem it_ne_zero : ∀ (n : Nat) {c : Nat}, c < 4294967296 → c ≠ 0 → it n c ≠ 0
  | 0, _, _, h => h
  | n + 1, _, hc, h => it_ne_zero n (st_lt hc) fun e => h (st_zero hc e)
theorem one_ne (n x : Nat) : one n x ≠ 0 := by
  unfold one
  split
  · exact it_ne_zero _ (by omega) (by omega)
  · exact Nat.pos_iff_ne_zero.1 (Nat.two_pow_pos _)
/-- One bit turned: the sum is wrong. -/
theorem turned_one (f : Nat → Nat) (n x : Nat) (hf : ∀ i, f i < 256) (hx : x < 8 * n + 32) (h : syn f n = 0) : syn (turn f x) n ≠ 0 := by
  rw [syn_turn f n x hf hx, h, Nat.zero_xor]
  exact one_ne n x
/-- A second one: right again just if it is the same. -/
theorem turned_two (f : Nat → Nat) (n x y : Nat) (hf : ∀ i, f i < 256) (hn : 8 * n + 32 ≤ 16384) (hx : x < 8 * n + 32) (hy : y < 8 * n + 32) (h : syn f n = 0) : syn (turn (turn f x) y) n = 0 ↔ x = y := by
  rw [syn_turn _ n y (turn_lt f x hf) hy, syn_turn f n x hf hx, h, Nat.zero_xor]
  constructor
  · intro e; exact one_inj n x y hn hx hy (xor_eq_zero e)
  · rintro rfl; exact Nat.xor_self _

/-! The sum bit by bit, and by a table. -/
/-- One bit, as the document says it. -/
theorem st_bit (c b : Nat) (hb : b < 2) : st (c ^^^ b) = c / 2 ^^^ (if (b ^^^ c) % 2 = 1 then poly else 0) := by
  unfold st
  rw [Nat.xor_div_two, show b / 2 = 0 by omega, Nat.xor_zero, Nat.xor_comm c b]
/-- The register behind k bits of the byte b. -/
def feed (c b : Nat) : Nat → Nat
  | 0 => c
  | k + 1 => st (feed c b k ^^^ (b / 2 ^ k % 2))
theorem feed_it (c b : Nat) : ∀ k, feed c b k = it k (c ^^^ (b % 2 ^ k))
  | 0 => by rw [Nat.pow_zero, Nat.mod_one, Nat.xor_zero]; rfl
  | k + 1 => by
    have e : b % 2 ^ (k + 1) = b % 2 ^ k ^^^ 2 ^ k * (b / 2 ^ k % 2) := by
      rw [xor_add _ _ k (Nat.mod_lt _ (Nat.two_pow_pos k)), Nat.pow_succ, Nat.mod_mul]
    show st (feed c b k ^^^ (b / 2 ^ k % 2)) = _
    rw [feed_it c b k, e, ← Nat.xor_assoc, it_succ, it_xor k (c ^^^ b % 2 ^ k), it_shift]
theorem feed_byte (c b : Nat) (hb : b < 256) : feed c b 8 = it 8 (c ^^^ b) := by
  rw [feed_it, show b % 2 ^ 8 = b from Nat.mod_eq_of_lt hb]
/-- A byte at once, by the table of the bytes' own sums. -/
theorem it_table (x : Nat) : it 8 x = it 8 (x % 256) ^^^ x / 256 := by
  have e : x = x % 256 ^^^ 2 ^ 8 * (x / 256) := by
    rw [xor_add _ _ 8 (Nat.mod_lt _ (by omega))]
    omega
  have h := congrArg (it 8) e
  rw [it_xor, it_shift] at h
  exact h
theorem mod_xor_byte (c b : Nat) (hb : b < 256) : (c ^^^ b) % 256 = c % 256 ^^^ b ∧ (c ^^^ b) / 256 = c / 256 := by
  have h1 : (c ^^^ b) % 2 ^ 8 = c % 2 ^ 8 ^^^ b % 2 ^ 8 := Nat.xor_mod_two_pow
  have h2 : (c ^^^ b) / 2 ^ 8 = c / 2 ^ 8 ^^^ b / 2 ^ 8 := Nat.xor_div_two_pow
  rw [show b % 2 ^ 8 = b from Nat.mod_eq_of_lt hb] at h1
  rw [show b / 2 ^ 8 = 0 from Nat.div_eq_of_lt hb, Nat.xor_zero] at h2
  exact ⟨h1, h2⟩
end Link
end Go.Proofs.YteadpnododjeaaaDoor
