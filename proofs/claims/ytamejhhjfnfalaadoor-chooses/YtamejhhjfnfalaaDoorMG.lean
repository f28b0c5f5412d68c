/- Labels; plain mathematics of garbling; what closures capture. No condition beyond those that each theorem states. -/
import Derived.Test.YtamejhhjfnfalaaDoorMV
import Derived.Test.YtamejhhjfnfalaaDoorMC
import Derived.Test.YtamejhhjfnfalaaDoorMB
import Derived.Test.YtamejhhjfnfalaaDoorMQ
/- Plain mathematics for the garbling laws: half gates over any labels that are added by exclusive or, any hash. What is evaluated of labels of bits is the labels of the wires' bits. No function of the program. -/
namespace Go.Proofs.YtamejhhjfnfalaaDoor
namespace Garb

/-- Labels that are added, each its own opposite; a colour. -/
structure Xr {L : Type} (add : L → L → L) (z : L) (col : L → Bool) : Prop where
  assoc : ∀ a b c, add (add a b) c = add a (add b c)
  comm : ∀ a b, add a b = add b a
  self : ∀ a, add a a = z
  zero : ∀ a, add a z = a
  col : ∀ a b, col (add a b) = (col a != col b)
section
variable {L T : Type} {add : L → L → L} {z : L} {col : L → Bool}
theorem Xr.lzero (X : Xr add z col) (a : L) : add z a = a := by rw [X.comm, X.zero]
theorem Xr.cancel (X : Xr add z col) (a b : L) : add a (add a b) = b := by rw [← X.assoc, X.self, X.lzero]
theorem Xr.left (X : Xr add z col) (a b c : L) : add a (add b c) = add b (add a c) := by rw [← X.assoc, X.comm a b, X.assoc]
/-- a, and b if c. -/
def plus (add : L → L → L) (a : L) (c : Bool) (b : L) : L := if c then add a b else a
/-- The label of a bit. -/
def lab (add : L → L → L) (zero delta : L) (bit : Bool) : L := plus add zero bit delta
/-- The first table of an And of the zero labels a, b, hashes at the tweaks s, t. -/
def tG (add : L → L → L) (col : L → Bool) (H : L → T → L) (delta a b : L) (s : T) : L := plus add (add (H a s) (H (add a delta) s)) (col b) delta
def tE (add : L → L → L) (H : L → T → L) (delta a b : L) (t : T) : L := add (add (H b t) (H (add b delta) t)) a
def andZ (add : L → L → L) (col : L → Bool) (H : L → T → L) (delta a b : L) (s t : T) : L := add (plus add (H a s) (col a) (tG add col H delta a b s)) (plus add (H b t) (col b) (add (tE add H delta a b t) a))
/-- What an And's evaluation makes of two labels and two tables. -/
def andE (add : L → L → L) (col : L → Bool) (H : L → T → L) (x y g e : L) (s t : T) : L := add (plus add (H x s) (col x) g) (plus add (H y t) (col y) (add e x))
/-- A half gate is right, whatever the labels, as long as delta's colour is 1. -/
theorem half_right (X : Xr add z col) (H : L → T → L) (delta a b : L) (s t : T) (p q : Bool) (hd : col delta = true) :
    andE add col H (lab add a delta p) (lab add b delta q) (tG add col H delta a b s) (tE add H delta a b t) s t = lab add (andZ add col H delta a b s t) delta (p && q) := by
  unfold andE lab andZ
  generalize hG : tG add col H delta a b s = g
  generalize hE : tE add H delta a b t = e
  have hca : col (add a delta) = !col a := by rw [X.col, hd]; cases col a <;> rfl
  have hcb : col (add b delta) = !col b := by rw [X.col, hd]; cases col b <;> rfl
  unfold tG at hG
  unfold tE at hE
  cases p <;> cases q <;> cases ca : col a <;> cases cb : col b <;> simp only [plus, ca, cb, hca, hcb, Bool.and_self, Bool.and_false, Bool.false_and, Bool.not_true, Bool.not_false, if_true, if_false, Bool.false_eq_true] at hG ⊢ <;> subst hG hE <;> simp only [X.assoc, X.left, X.comm, X.cancel, X.self, X.lzero]
/-- The wires' zero labels behind so many gates; s, t: the tweaks of the k-th And. -/
def zer (add : L → L → L) (col : L → Bool) (H : L → T → L) (delta : L) (s t : Nat → T) (N : Nat) (zin : Nat → L) (y : Nat → Nat → Int) : Nat → Nat → L
  | 0 => zin
  | i + 1 => fun q => if q = N + i then (if y i 0 = 1 then add (zer add col H delta s t N zin y i (y i 1).toNat) (zer add col H delta s t N zin y i (y i 2).toNat) else if y i 0 = 2 then andZ add col H delta (zer add col H delta s t N zin y i (y i 1).toNat) (zer add col H delta s t N zin y i (y i 2).toNat) (s (Circ.ands y i)) (t (Circ.ands y i)) else add (zer add col H delta s t N zin y i (y i 1).toNat) delta) else zer add col H delta s t N zin y i q
/-- The wires' labels that are evaluated. -/
def evl (add : L → L → L) (col : L → Bool) (H : L → T → L) (s t : Nat → T) (N : Nat) (lin : Nat → L) (tab : Nat → L) (y : Nat → Nat → Int) : Nat → Nat → L
  | 0 => lin
  | i + 1 => fun q => if q = N + i then (if y i 0 = 1 then add (evl add col H s t N lin tab y i (y i 1).toNat) (evl add col H s t N lin tab y i (y i 2).toNat) else if y i 0 = 2 then andE add col H (evl add col H s t N lin tab y i (y i 1).toNat) (evl add col H s t N lin tab y i (y i 2).toNat) (tab (2 * Circ.ands y i)) (tab (2 * Circ.ands y i + 1)) (s (Circ.ands y i)) (t (Circ.ands y i)) else evl add col H s t N lin tab y i (y i 1).toNat) else evl add col H s t N lin tab y i q
/-- The tables that garbling lays. -/
def TabOk (add : L → L → L) (col : L → Bool) (H : L → T → L) (delta : L) (s t : Nat → T) (N : Nat) (zin : Nat → L) (tab : Nat → L) (y : Nat → Nat → Int) (n : Nat) : Prop :=
  ∀ i, i < n → y i 0 = 2 → tab (2 * Circ.ands y i) = tG add col H delta (zer add col H delta s t N zin y i (y i 1).toNat) (zer add col H delta s t N zin y i (y i 2).toNat) (s (Circ.ands y i)) ∧ tab (2 * Circ.ands y i + 1) = tE add H delta (zer add col H delta s t N zin y i (y i 1).toNat) (zer add col H delta s t N zin y i (y i 2).toNat) (t (Circ.ands y i))
theorem garble_right (X : Xr add z col) (H : L → T → L) (delta : L) (hd : col delta = true) (s t : Nat → T) (N : Nat) (zin lin : Nat → L) (f : Nat → Bool) (tab : Nat → L) (y : Nat → Nat → Int) (hin : ∀ q, q < N → lin q = lab add (zin q) delta (f q)) :
    ∀ n, TabOk add col H delta s t N zin tab y n → (∀ i, i < n → Circ.FitsP (y i 0) (y i 1) (y i 2) ((N : Int) + i)) → ∀ q, q < N + n → evl add col H s t N lin tab y n q = lab add (zer add col H delta s t N zin y n q) delta (Circ.vals N f y n q)
  | 0, _, _, q, hq => hin q hq
  | n + 1, ht, hF, q, hq => by
    have ih := garble_right X H delta hd s t N zin lin f tab y hin n (fun i hi => ht i (by omega)) (fun i hi => hF i (by omega))
    show (if q = N + n then _ else evl add col H s t N lin tab y n q) = lab add (if q = N + n then _ else zer add col H delta s t N zin y n q) delta (if q = N + n then _ else Circ.vals N f y n q)
    by_cases e : q = N + n
    · rw [if_pos e, if_pos e, if_pos e]
      have h1 : (y n 1).toNat < N + n := by
        rcases hF n (by omega) with ⟨_, h⟩ | ⟨_, h⟩ <;> omega
      rw [ih _ h1]
      unfold Circ.gate
      by_cases k1 : y n 0 = 1
      · have h2 : (y n 2).toNat < N + n := by
          rcases hF n (by omega) with ⟨_, h⟩ | ⟨h0, h⟩ <;> omega
        rw [if_pos k1, if_pos k1, if_pos k1, ih _ h2]
        unfold lab
        cases Circ.vals N f y n (y n 1).toNat <;> cases Circ.vals N f y n (y n 2).toNat <;> simp only [plus, bne_self_eq_false, Bool.false_bne, Bool.bne_false, Bool.false_eq_true, if_true, if_false, X.assoc, X.left, X.comm, X.cancel]
      · rw [if_neg k1, if_neg k1, if_neg k1]
        by_cases k2 : y n 0 = 2
        · have h2 : (y n 2).toNat < N + n := by
            rcases hF n (by omega) with ⟨_, h⟩ | ⟨h0, h⟩ <;> omega
          rw [if_pos k2, if_pos k2, if_pos k2, ih _ h2, (ht n (by omega) k2).1, (ht n (by omega) k2).2]
          exact half_right X H delta _ _ _ _ _ _ hd
        · rw [if_neg k2, if_neg k2, if_neg k2]
          unfold lab
          cases Circ.vals N f y n (y n 1).toNat <;> simp only [plus, Bool.not_false, Bool.not_true, Bool.false_eq_true, if_true, if_false, X.assoc, X.self, X.zero]
    · rw [if_neg e, if_neg e, if_neg e]
      exact ih q (by omega)
end
/-- Labels as two words. -/
def wadd (a b : BitVec 64 × BitVec 64) : BitVec 64 × BitVec 64 := (a.1 ^^^ b.1, a.2 ^^^ b.2)
def wcol (a : BitVec 64 × BitVec 64) : Bool := a.1.getLsbD 0
theorem words_xr : Xr wadd (0, 0) wcol where
  assoc a b c := by simp [wadd, BitVec.xor_assoc]
  comm a b := by simp [wadd, BitVec.xor_comm]
  self a := by simp [wadd]
  zero a := by simp [wadd]
  col a b := by simp [wcol, wadd]
/-- What the receiver picks: the label of its bit; r0, r1: the sender's, c: the receiver's choice, v: its bit. -/
theorem pick_right {L : Type} {add : L → L → L} {z : L} {col : L → Bool} (X : Xr add z col) (z0 delta r0 r1 : L) (c v : Bool) :
    add (if v then add (add z0 delta) (if (v != c) then r0 else r1) else add z0 (if (v != c) then r1 else r0)) (if c then r1 else r0) = lab add z0 delta v := by
  cases v <;> cases c <;> simp only [lab, plus, bne_self_eq_false, Bool.false_bne, Bool.bne_false, Bool.false_eq_true, if_true, if_false, X.assoc, X.self, X.zero]
end Garb
end Go.Proofs.YtamejhhjfnfalaaDoor

/- Plain mathematics for the garbling laws: labels as two numbers below 2^64; bounds; a circuit without And. No function of the program. -/
namespace Go.Proofs.YtamejhhjfnfalaaDoor
namespace Garb

abbrev Lab := Nat × Nat
/-- Two words. -/
def Wd (a : Lab) : Prop := a.1 < 18446744073709551616 ∧ a.2 < 18446744073709551616
def nadd (a b : Lab) : Lab := (a.1 ^^^ b.1, a.2 ^^^ b.2)
def ncol (a : Lab) : Bool := a.1.testBit 0
theorem nat_xr : Xr nadd (0, 0) ncol where
  assoc a b c := by simp [nadd, Nat.xor_assoc]
  comm a b := by simp [nadd, Nat.xor_comm]
  self a := by simp [nadd]
  zero a := by simp [nadd]
  col a b := by
    show (a.1 ^^^ b.1).testBit 0 = _
    rw [Nat.testBit_xor]
    rfl
theorem ncol_mod (a : Lab) : ncol a = (a.1 % 2 == 1) := by
  unfold ncol
  rw [Nat.testBit_zero]
  rfl
theorem Wd.zero : Wd (0, 0) := ⟨by decide, by decide⟩
theorem Wd.add {a b : Lab} (ha : Wd a) (hb : Wd b) : Wd (nadd a b) :=
  ⟨Nat.xor_lt_two_pow (n := 64) ha.1 hb.1, Nat.xor_lt_two_pow (n := 64) ha.2 hb.2⟩
theorem Wd.plus {a b : Lab} (ha : Wd a) (c : Bool) (hb : Wd b) : Wd (plus nadd a c b) := by
  unfold Garb.plus
  split
  · exact ha.add hb
  · exact ha
theorem Wd.lab {a b : Lab} (ha : Wd a) (hb : Wd b) (c : Bool) : Wd (lab nadd a b c) := ha.plus c hb
/-- A hash that answers two words. -/
def Hw (H : Lab → Nat → Lab) : Prop := ∀ a t, Wd a → t < 18446744073709551616 → Wd (H a t)
section
variable {H : Lab → Nat → Lab} {delta : Lab} {s t : Nat → Nat}
theorem tG_wd (hH : Hw H) (hd : Wd delta) {a b : Lab} {u : Nat} (ha : Wd a) (hu : u < 18446744073709551616) : Wd (tG nadd ncol H delta a b u) :=
  ((hH _ _ ha hu).add (hH _ _ (ha.add hd) hu)).plus _ hd
theorem tE_wd (hH : Hw H) (hd : Wd delta) {a b : Lab} {u : Nat} (ha : Wd a) (hb : Wd b) (hu : u < 18446744073709551616) : Wd (tE nadd H delta a b u) :=
  ((hH _ _ hb hu).add (hH _ _ (hb.add hd) hu)).add ha
theorem andZ_wd (hH : Hw H) (hd : Wd delta) {a b : Lab} {u v : Nat} (ha : Wd a) (hb : Wd b) (hu : u < 18446744073709551616) (hv : v < 18446744073709551616) : Wd (andZ nadd ncol H delta a b u v) :=
  ((hH _ _ ha hu).plus _ (tG_wd hH hd ha hu)).add ((hH _ _ hb hv).plus _ ((tE_wd hH hd ha hb hv).add ha))
theorem andE_wd (hH : Hw H) {x y g e : Lab} {u v : Nat} (hx : Wd x) (hy : Wd y) (hg : Wd g) (he : Wd e) (hu : u < 18446744073709551616) (hv : v < 18446744073709551616) : Wd (andE nadd ncol H x y g e u v) :=
  ((hH _ _ hx hu).plus _ hg).add ((hH _ _ hy hv).plus _ (he.add hx))
theorem zer_wd (hH : Hw H) (hd : Wd delta) (hs : ∀ j, s j < 18446744073709551616) (ht : ∀ j, t j < 18446744073709551616) (N : Nat) (zin : Nat → Lab) (y : Nat → Nat → Int) (hz : ∀ q, Wd (zin q)) :
    ∀ n q, Wd (zer nadd ncol H delta s t N zin y n q)
  | 0, q => hz q
  | n + 1, q => by
    have ih := zer_wd hH hd hs ht N zin y hz n
    show Wd (if q = N + n then _ else zer nadd ncol H delta s t N zin y n q)
    split
    · split
      · exact (ih _).add (ih _)
      · split
        · exact andZ_wd hH hd (ih _) (ih _) (hs _) (ht _)
        · exact (ih _).add hd
    · exact ih _
theorem evl_wd (hH : Hw H) (hs : ∀ j, s j < 18446744073709551616) (ht : ∀ j, t j < 18446744073709551616) (N : Nat) (lin tab : Nat → Lab) (y : Nat → Nat → Int) (hl : ∀ q, Wd (lin q)) (htb : ∀ q, Wd (tab q)) :
    ∀ n q, Wd (evl nadd ncol H s t N lin tab y n q)
  | 0, q => hl q
  | n + 1, q => by
    have ih := evl_wd hH hs ht N lin tab y hl htb n
    show Wd (if q = N + n then _ else evl nadd ncol H s t N lin tab y n q)
    split
    · split
      · exact (ih _).add (ih _)
      · split
        · exact andE_wd hH (ih _) (ih _) (htb _) (htb _) (hs _) (ht _)
        · exact ih _
    · exact ih _
end
/-- The tweaks of the k-th And. -/
def tw (first k : Nat) : Nat := (first + 2 * k) % 18446744073709551616
def tw1 (first k : Nat) : Nat := (tw first k + 1) % 18446744073709551616
theorem tw_lt (first k : Nat) : tw first k < 18446744073709551616 := Nat.mod_lt _ (by decide)
theorem tw1_lt (first k : Nat) : tw1 first k < 18446744073709551616 := Nat.mod_lt _ (by decide)
/-- The tables of the Ands among the first k gates, one behind the other. -/
def tabs (H : Lab → Nat → Lab) (delta : Lab) (s t : Nat → Nat) (N : Nat) (zin : Nat → Lab) (y : Nat → Nat → Int) : Nat → Nat → Lab
  | 0 => fun _ => (0, 0)
  | k + 1 => fun q => if y k 0 = 2 then (if q = 2 * Circ.ands y k then tG nadd ncol H delta (zer nadd ncol H delta s t N zin y k (y k 1).toNat) (zer nadd ncol H delta s t N zin y k (y k 2).toNat) (s (Circ.ands y k)) else if q = 2 * Circ.ands y k + 1 then tE nadd H delta (zer nadd ncol H delta s t N zin y k (y k 1).toNat) (zer nadd ncol H delta s t N zin y k (y k 2).toNat) (t (Circ.ands y k)) else tabs H delta s t N zin y k q) else tabs H delta s t N zin y k q
section
variable {H : Lab → Nat → Lab} {delta : Lab} {s t : Nat → Nat} {N : Nat} {zin : Nat → Lab} {y : Nat → Nat → Int}
theorem tabs_wd (hH : Hw H) (hd : Wd delta) (hs : ∀ j, s j < 18446744073709551616) (ht : ∀ j, t j < 18446744073709551616) (hz : ∀ q, Wd (zin q)) : ∀ k q, Wd (tabs H delta s t N zin y k q)
  | 0, _ => Wd.zero
  | k + 1, q => by
    have ih := tabs_wd hH hd hs ht hz k
    have hw := zer_wd hH hd hs ht N zin y hz k
    show Wd (if y k 0 = 2 then _ else tabs H delta s t N zin y k q)
    split
    · split
      · exact tG_wd hH hd (hw _) (hs _)
      · split
        · exact tE_wd hH hd (hw _) (hw _) (ht _)
        · exact ih q
    · exact ih q
theorem ands_mono (y : Nat → Nat → Int) (k : Nat) : ∀ j, Circ.ands y k ≤ Circ.ands y (k + j)
  | 0 => Nat.le_refl _
  | j + 1 => by
    have := ands_mono y k j
    show _ ≤ (if y (k + j) 0 = 2 then Circ.ands y (k + j) + 1 else Circ.ands y (k + j))
    split <;> omega
theorem ands_succ (y : Nat → Nat → Int) (k : Nat) : Circ.ands y (k + 1) = if y k 0 = 2 then Circ.ands y k + 1 else Circ.ands y k := rfl
/-- What was laid stays. -/
theorem tabs_old (k : Nat) : ∀ j q, q < 2 * Circ.ands y k → tabs H delta s t N zin y (k + j) q = tabs H delta s t N zin y k q
  | 0, _, _ => rfl
  | j + 1, q, hq => by
    have hm := ands_mono y k j
    show (if y (k + j) 0 = 2 then (if q = 2 * Circ.ands y (k + j) then _ else if q = 2 * Circ.ands y (k + j) + 1 then _ else tabs H delta s t N zin y (k + j) q) else tabs H delta s t N zin y (k + j) q) = _
    split
    · rw [if_neg (by omega), if_neg (by omega)]
      exact tabs_old k j q hq
    · exact tabs_old k j q hq
theorem tabs_ok (n : Nat) : TabOk nadd ncol H delta s t N zin (tabs H delta s t N zin y n) y n := fun i hi h2 => by
  obtain ⟨j, rfl⟩ : ∃ j, n = i + 1 + j := ⟨n - (i + 1), by omega⟩
  have ha : Circ.ands y (i + 1) = Circ.ands y i + 1 := by rw [ands_succ, if_pos h2]
  rw [tabs_old (i + 1) j _ (by omega), tabs_old (i + 1) j _ (by omega)]
  refine ⟨?_, ?_⟩
  · show (if y i 0 = 2 then _ else _) = _
    rw [if_pos h2, if_pos rfl]
  · show (if y i 0 = 2 then _ else _) = _
    rw [if_pos h2, if_neg (by omega), if_pos rfl]
/-- Without And the tweaks don't matter. -/
theorem zer_free (H H' : Lab → Nat → Lab) (s' t' : Nat → Nat) : ∀ n, (∀ i, i < n → y i 0 ≠ 2) → ∀ q, zer nadd ncol H delta s t N zin y n q = zer nadd ncol H' delta s' t' N zin y n q
  | 0, _, _ => rfl
  | n + 1, h, q => by
    have ih := zer_free H H' s' t' n fun i hi => h i (by omega)
    show (if q = N + n then _ else zer nadd ncol H delta s t N zin y n q) = (if q = N + n then _ else zer nadd ncol H' delta s' t' N zin y n q)
    rw [ih, ih, ih, if_neg (h n (by omega)), if_neg (h n (by omega))]
end
theorem ands_free (y : Nat → Nat → Int) : ∀ n, (∀ i, i < n → y i 0 ≠ 2) → Circ.ands y n = 0
  | 0, _ => rfl
  | n + 1, h => by
    rw [ands_succ, if_neg (h n (by omega))]
    exact ands_free y n fun i hi => h i (by omega)
end Garb
end Go.Proofs.YtamejhhjfnfalaaDoor

/- Labels as values, lists of labels, the hash under the fixed cipher as one function. No function of garble. -/
namespace Go.Proofs.YtamejhhjfnfalaaDoor
open Go.RowKit

abbrev Lab := Garb.Lab
/-- A label's value. -/
abbrev labL (a : Lab) : Value := .agg #[.int .u64 (a.1 : Int), .int .u64 (a.2 : Int)]
/-- The cells of labels. -/
def lv (L : Nat → Lab) (q : Nat) : Value := .int .u64 ((if q % 2 = 0 then (L (q / 2)).1 else (L (q / 2)).2 : Nat) : Int)
theorem lv_one (L : Nat → Lab) (q : Nat) : (lv L q).oneCell' = true := rfl
theorem lv0 (L : Nat → Lab) (i : Nat) : lv L (i * 2) = .int .u64 ((L i).1 : Int) := by
  unfold lv
  rw [if_pos (by omega), show i * 2 / 2 = i by omega]
theorem lv1 (L : Nat → Lab) (i : Nat) : lv L (i * 2 + 1) = .int .u64 ((L i).2 : Int) := by
  unfold lv
  rw [if_neg (by omega), show (i * 2 + 1) / 2 = i by omega]
theorem lv_congr {L M : Nat → Lab} {n : Nat} (h : ∀ i, i < n → L i = M i) : ∀ q, q < n * 2 → lv L q = lv M q := fun q hq => by
  unfold lv
  rw [h (q / 2) (by omega)]
/-- Every number is another place's cell, or that of the new thing. -/
theorem lv_next {L M : Nat → Lab} {n : Nat} {x : Lab} (h : ∀ i, i < n → L i = M i) (hn : M n = x) : ∀ q, q < (n + 1) * 2 → (if q < n * 2 then lv L q else lv (fun _ => x) (q - n * 2)) = lv M q := fun q hq => by
  by_cases hlt : q < n * 2
  · rw [if_pos hlt]
    exact lv_congr h q hlt
  · rw [if_neg hlt]
    unfold lv
    rw [show q / 2 = n by omega, hn]
    rcases (show q = n * 2 ∨ q = n * 2 + 1 by omega) with rfl | rfl
    · rw [if_pos (by omega), if_pos (by omega)]
    · rw [if_neg (by omega), if_neg (by omega)]
theorem eltL : Elt 29 28 (labL (0, 0)) 2 16 := ⟨by kernel_rfl, Tryd.underlying29, info_parts (by kernel_rfl), rfl, by omega⟩
/-- A label's two cells, at its place. -/
theorem AtV.lab {w : World} {A : Option Addr} {n : Nat} {L : Nat → Lab} (h : AtV w A (n * 2) (lv L)) (i : Nat) (hi : i < n) :
    ∃ ad, A = some ad ∧ ∃ ae, ad.add (i * 2) = ae ∧ w.cell? ae = some (.int .u64 ((L i).1 : Int)) ∧ w.cell? ⟨ae.block, ae.off + 1, none⟩ = some (.int .u64 ((L i).2 : Int)) ∧ ad.block = ae.block := by
  obtain ⟨ad, rfl, h0⟩ := h (i * 2) (by omega)
  obtain ⟨ad', e, h1⟩ := h (i * 2 + 1) (by omega)
  cases e
  rw [lv0] at h0
  rw [lv1, ← add_add] at h1
  have hx : (ad.add (i * 2)).add 1 = ⟨(ad.add (i * 2)).block, (ad.add (i * 2)).off + 1, none⟩ := by
    generalize ad.add (i * 2) = ae
    unfold Addr.add
    rw [if_neg (by omega)]
  rw [hx] at h1
  exact ⟨ad, rfl, _, rfl, h0, h1, (add_block _ _).symm⟩
/-- A label in a block of its own. -/
abbrev LbB (w : World) (b : Nat) (a : Lab) : Prop := Blk w b 28 #[.int .u64 (a.1 : Int), .int .u64 (a.2 : Int)]

/-- The fixed cipher lies at g; the document's. -/
def Fx (w : World) (g : Nat) : Prop := Ae.Ciph w g (Aes.ks Ae.kf)
def Rx (w : World) (g c gb cb : Nat) : Prop := Ae.RCi w Ae.kf g c gb cb
section
variable {w w' : World} {g c gb cb : Nat}
theorem Fx.lt (h : Fx w g) : g < w.heap.size := Ae.OwnB.lt h
theorem Fx.below (h : Fx w g) (hb : Below w.heap.size w w') : Fx w' g := Ae.OwnB.below h hb (Ae.OwnB.lt h)
theorem Fx.chg {S : Nat → Prop} (h : Fx w g) (hc : Chg S w w') (hs : ¬ S g) : Fx w' g := (hc.block g h.lt hs).trans h
theorem Rx.below (h : Rx w g c gb cb) (hb : Below w.heap.size w w') : Rx w' g c gb cb := Ae.RCi.below h hb
end
theorem fixed_fx (w : World) : Calls Tryd.prog 39 #[] w fun e w' => ∃ g, e = .returned (.pointer (some ⟨g, 0, none⟩)) ∧ w.heap.size ≤ g ∧ Fx w' g ∧ Below w.heap.size w w' :=
  (Ae.fixed_any w).mono fun _ _ ⟨g, h1, h2, h3, h4⟩ => ⟨g, h1, h2, h3, h4⟩
theorem fixed_rx (w : World) : Calls Tryd.prog 46 #[] w fun e w' => ∃ g c gb cb, e = .returned (Ae.rci g c gb cb) ∧ Rx w' g c gb cb ∧ Below w.heap.size w w' := Ae.rfixed_any w
/-- The hash: of the code and of the document. -/
structure Hs (H : Lab → Nat → Lab) : Prop where
  wd : Garb.Hw H
  code : ∀ (w : World) (g : Nat) (a : Lab) (t : Nat), Fx w g → Garb.Wd a → t < 18446744073709551616 → Calls Tryd.prog 42 #[.pointer (some ⟨g, 0, none⟩), labL a, .int .u64 (t : Int)] w fun e w' => e = .returned (labL (H a t)) ∧ Below w.heap.size w w'
  doc : ∀ (w : World) (g c gb cb : Nat) (a : Lab) (t : Nat), Rx w g c gb cb → Garb.Wd a → t < 18446744073709551616 → Calls Tryd.prog 47 #[Ae.rci g c gb cb, labL a, .int .u64 (t : Int)] w fun e w' => e = .returned (labL (H a t)) ∧ Below w.heap.size w w'
theorem hs_ex : ∃ H, Hs H := by
  obtain ⟨k, hk⟩ : ∃ k, Aes.ks Ae.kf = k := ⟨_, rfl⟩
  have hl : ∀ i, k i < 256 := hk ▸ Aes.ks_lt Ae.kf Ae.kf_lt
  refine ⟨fun a t => (Ae.hashA k a.1 a.2 t, Ae.hashB k a.1 a.2 t), fun a t ha ht => ?_, fun w g a t hf ha ht => ?_, fun w g c gb cb a t hf ha ht => ?_⟩
  · refine ⟨Ae.xor_lt (Ae.psum8_lt _ _ (Ae.enc_lt hl (Aes.labB_lt _ _))) (Ae.hs0_lt ht), Ae.xor_lt (Ae.psum8_lt _ _ (Ae.enc_lt hl (Aes.labB_lt _ _))) (Ae.hs1_lt ha.1)⟩
  · unfold Fx at hf
    rw [hk] at hf
    exact Ae.hash_any g k a.1 a.2 t w hf hl ha.1 ha.2 ht
  · have := Ae.rhash_any Ae.kf g c gb cb a.1 a.2 t w hf Ae.kf_lt ha.1 ha.2 ht
    rw [hk] at this
    exact this
/-- Exclusive or, of the code. -/
theorem xor_lab (a b : Lab) (w : World) (ha : Garb.Wd a) (hb : Garb.Wd b) : Calls Tryd.prog 43 #[labL a, labL b] w fun e w' => e = .returned (labL (Garb.nadd a b)) ∧ Below w.heap.size w w' :=
  Ae.xorN_any a.1 a.2 b.1 b.2 _ _ w ha.1 ha.2 hb.1 hb.2 rfl rfl
end Go.Proofs.YtamejhhjfnfalaaDoor

/- Statements whose order is open and that lay labels into new blocks, or one into an elder block: what holds, whatever came before. No function of garble. -/
namespace Go.Proofs.YtamejhhjfnfalaaDoor
open Go.RowKit
open Rely (upd upd_at upd_ne)

abbrev zeroL : Obj := .cells #[.int .u64 0, .int .u64 0] 28
/-- A label stored. -/
abbrev stL (w : World) (b : Nat) (x : Lab) : World := (w.setCell ⟨b, 0, none⟩ (.int .u64 (x.1 : Int))).setCell ⟨b, 1, none⟩ (.int .u64 (x.2 : Int))
theorem LbB.st {w : World} {b : Nat} {y : Lab} (h : LbB w b y) (x : Lab) : LbB (stL w b x) b x := (h.set 0 _).set 1 _
theorem LbB.far {w : World} {b b' : Nat} {y : Lab} (h : LbB w b y) (hb : b ≠ b') (x : Lab) : LbB (stL w b' x) b y := (Blk.far h hb _).far hb _
theorem stL_size (w : World) (b : Nat) (x : Lab) : (stL w b x).heap.size = w.heap.size := by simp [stL, World.setCell]
theorem stL_below {B : Nat} {w w' : World} (h : Below B w w') {b : Nat} (hb : B ≤ b) (x : Lab) : Below B w (stL w' b x) := (h.setCell hb _).setCell hb _
/-- New blocks: (the operation that makes it, the one that stores into it); lb: what is stored, by the maker. -/
structure FN (w0 : World) (al : List (Nat × Nat)) (lb : Nat → Lab) (L : Nat → Bool) (γ : Nat → Nat) (w : World) : Prop where
  b : Below w0.heap.size w0 w
  new : ∀ t ∈ al, L t.1 = true → w0.heap.size ≤ γ t.1 ∧ LbB w (γ t.1) (if L t.2 then lb t.1 else (0, 0))
  ne : ∀ t ∈ al, ∀ u ∈ al, t.1 ≠ u.1 → L t.1 = true → L u.1 = true → γ t.1 ≠ γ u.1
  cl : ∀ t ∈ al, L t.2 = true → L t.1 = true
/-- The operations that make and that store are all different ones. -/
def alOk (al : List (Nat × Nat)) : Bool := al.all fun t => al.all fun u => t.1 != u.2 && ((t.1 == u.1) == (t.2 == u.2))
theorem alOk_spec {al : List (Nat × Nat)} (h : alOk al = true) {t u : Nat × Nat} (ht : t ∈ al) (hu : u ∈ al) : t.1 ≠ u.2 ∧ (t.1 = u.1 → t.2 = u.2) ∧ (t.2 = u.2 → t.1 = u.1) := by
  unfold alOk at h
  simp only [List.all_eq_true, Bool.and_eq_true, bne_iff_ne, ne_eq] at h
  have h2 := h t ht u hu
  refine ⟨h2.1, fun e => ?_, fun e => ?_⟩
  · have h3 := h2.2
    simpa [e] using h3
  · have h3 := h2.2
    simpa [e] using h3
section
variable {w0 w w' : World} {al : List (Nat × Nat)} {lb : Nat → Lab} {L : Nat → Bool} {γ : Nat → Nat}
theorem FN.start (w0 w : World) (h : Below w0.heap.size w0 w) (γ : Nat → Nat) : FN w0 al lb (fun _ => false) γ w := ⟨h, fun _ _ h => by simp at h, fun _ _ _ _ _ h => by simp at h, fun _ _ h => by simp at h⟩
/-- An operation that makes nothing and stores nothing of these. -/
theorem FN.val (h : FN w0 al lb L γ w) (i g : Nat) (hi : (al.all fun t => t.1 != i && t.2 != i) = true) (hb : Below w.heap.size w w') : FN w0 al lb (upd L i true) (upd γ i g) w' := by
  simp only [List.all_eq_true, Bool.and_eq_true, bne_iff_ne, ne_eq] at hi
  refine ⟨h.b.trans (hb.mono h.b.size), fun t ht hL => ?_, fun t ht u hu hne h1 h2 => ?_, fun t ht hL => ?_⟩
  · rw [upd_ne _ _ _ (hi t ht).1] at hL ⊢
    rw [upd_ne _ _ _ (hi t ht).2]
    obtain ⟨h1, h2⟩ := h.new t ht hL
    exact ⟨h1, Blk.below h2 hb (Blk.lt h2)⟩
  · rw [upd_ne _ _ _ (hi t ht).1] at h1 ⊢
    rw [upd_ne _ _ _ (hi u hu).1] at h2 ⊢
    exact h.ne t ht u hu hne h1 h2
  · rw [upd_ne _ _ _ (hi t ht).2] at hL
    rw [upd_ne _ _ _ (hi t ht).1]
    exact h.cl t ht hL
theorem FN.same (h : FN w0 al lb L γ w) (i g : Nat) (hi : (al.all fun t => t.1 != i && t.2 != i) = true) : FN w0 al lb (upd L i true) (upd γ i g) w := h.val i g hi (Below.refl _ _)
/-- A block is made. -/
theorem FN.alloc (h : FN w0 al lb L γ w) (hok : alOk al = true) {i s : Nat} (hm : (i, s) ∈ al) (hi0 : L i = false) : FN w0 al lb (upd L i true) (upd γ i w.heap.size) (w.alloc zeroL) := by
  have hs : L s = false := by
    cases e : L s
    · rfl
    · rw [h.cl (i, s) hm e] at hi0; cases hi0
  have hb := (Below.refl w.heap.size w).alloc (Nat.le_refl _) zeroL
  refine ⟨h.b.trans (hb.mono h.b.size), fun t ht hL => ?_, fun t ht u hu hne h1 h2 => ?_, fun t ht hL => ?_⟩
  · have hti := (alOk_spec hok hm ht).1
    by_cases e : t.1 = i
    · have e2 : t.2 = s := (alOk_spec hok ht hm).2.1 e
      rw [e, upd_at, upd_ne _ _ _ (fun e3 => hti e3.symm), e2, hs]
      exact ⟨h.b.size, Blk.new w _ _⟩
    · rw [upd_ne _ _ _ e] at hL ⊢
      rw [upd_ne _ _ _ (fun e3 => hti e3.symm)]
      obtain ⟨h1, h2⟩ := h.new t ht hL
      exact ⟨h1, Blk.below h2 hb (Blk.lt h2)⟩
  · by_cases e1 : t.1 = i
    · have e2 : u.1 ≠ i := fun e2 => hne (e1.trans e2.symm)
      rw [e1, upd_at, upd_ne _ _ _ e2]
      rw [upd_ne _ _ _ e2] at h2
      have := Blk.lt (h.new u hu h2).2
      omega
    · rw [upd_ne _ _ _ e1] at h1 ⊢
      by_cases e2 : u.1 = i
      · rw [e2, upd_at]
        have := Blk.lt (h.new t ht h1).2
        omega
      · rw [upd_ne _ _ _ e2] at h2 ⊢
        exact h.ne t ht u hu hne h1 h2
  · have hti := (alOk_spec hok hm ht).1
    rw [upd_ne _ _ _ (fun e3 => hti e3.symm)] at hL
    unfold upd
    split
    · rfl
    · exact h.cl t ht hL
/-- A label is stored in a block that was made. -/
theorem FN.put (h : FN w0 al lb L γ w) (hok : alOk al = true) {i s : Nat} (g : Nat) (hm : (i, s) ∈ al) (hi : L i = true) : FN w0 al lb (upd L s true) (upd γ s g) (stL w (γ i) (lb i)) := by
  obtain ⟨hB, hblk⟩ := h.new (i, s) hm hi
  refine ⟨stL_below h.b hB _, fun t ht hL => ?_, fun t ht u hu hne h1 h2 => ?_, fun t ht hL => ?_⟩
  · have hts := (alOk_spec hok ht hm).1
    rw [upd_ne _ _ _ hts] at hL ⊢
    obtain ⟨h1, h2⟩ := h.new t ht hL
    by_cases e : t.1 = i
    · have e2 : t.2 = s := (alOk_spec hok ht hm).2.1 e
      rw [e] at h1 h2 ⊢
      rw [e2, upd_at, if_pos rfl]
      exact ⟨h1, LbB.st h2 _⟩
    · have e2 : t.2 ≠ s := fun e2 => e ((alOk_spec hok ht hm).2.2 e2)
      rw [upd_ne _ _ _ e2]
      exact ⟨h1, LbB.far h2 (h.ne t ht (i, s) hm e hL hi) _⟩
  · rw [upd_ne _ _ _ (alOk_spec hok ht hm).1] at h1 ⊢
    rw [upd_ne _ _ _ (alOk_spec hok hu hm).1] at h2 ⊢
    exact h.ne t ht u hu hne h1 h2
  · rw [upd_ne _ _ _ (alOk_spec hok ht hm).1]
    by_cases e : t.2 = s
    · rw [(alOk_spec hok ht hm).2.2 e]; exact hi
    · rw [upd_ne _ _ _ e] at hL
      exact h.cl t ht hL
theorem FN.ready (h : FN w0 al lb L γ w) {i s : Nat} (hm : (i, s) ∈ al) (hi : L i = true) : ∃ y, LbB w (γ i) y := ⟨_, (h.new (i, s) hm hi).2⟩
end
/-- A label is stored in an elder block b by operation s. -/
structure FO (w0 : World) (b s : Nat) (x x0 : Lab) (L : Nat → Bool) (w : World) : Prop where
  c : Chg (fun q => q = b) w0 w
  lt : b < w0.heap.size
  l : LbB w b (if L s then x else x0)
section
variable {w0 w w' : World} {b s : Nat} {x x0 : Lab} {L : Nat → Bool}
theorem FO.start (w0 w : World) (h : Below w0.heap.size w0 w) (hb : LbB w0 b x0) : FO w0 b s x x0 (fun _ => false) w :=
  ⟨Chg.of_below h fun k h1 h2 => by omega, Blk.lt hb, Blk.below hb h (Blk.lt hb)⟩
theorem FO.val (h : FO w0 b s x x0 L w) (i : Nat) (hi : s ≠ i) (hb : Below w.heap.size w w') : FO w0 b s x x0 (upd L i true) w' := by
  refine ⟨h.c.trans (Chg.of_below hb fun k h1 h2 => by omega), h.lt, ?_⟩
  rw [upd_ne _ _ _ hi]
  exact Blk.below h.l hb (Blk.lt h.l)
theorem FO.same (h : FO w0 b s x x0 L w) (i : Nat) (hi : s ≠ i) : FO w0 b s x x0 (upd L i true) w := h.val i hi (Below.refl _ _)
theorem FO.put (h : FO w0 b s x x0 L w) : FO w0 b s x x0 (upd L s true) (stL w b x) := by
  refine ⟨(h.c.set (p := ⟨b, 0, none⟩) (.inr rfl) _).set (p := ⟨b, 1, none⟩) (.inr rfl) _, h.lt, ?_⟩
  rw [upd_at, if_pos rfl]
  exact LbB.st h.l x
end
end Go.Proofs.YtamejhhjfnfalaaDoor

/- Contracts of garble's coloured, Label. -/
namespace Go.Proofs.YtamejhhjfnfalaaDoor
open Go.RowKit

theorem ncol_int (a : Lab) : (bits .and .u64 (a.1 : Int) 1 == 1) = Garb.ncol a := by
  rw [Ae.and_one, Garb.ncol_mod]
  by_cases e : a.1 % 2 = 1
  · have : (a.1 : Int) % 2 = 1 := by omega
    simp [e, this]
  · have : (a.1 : Int) % 2 = 0 := by omega
    simp [e, this]
set_option maxHeartbeats 400000 in
theorem coloured_any (a : Lab) (w : World) : Calls Tryd.prog 37 #[labL a] w fun e w' => e = .returned (.bool (Garb.ncol a)) ∧ Below w.heap.size w w' := by
  have h1 := ncol_int a
  have HB := Lib.hid ((Below.refl w.heap.size w).alloc (Nat.le_refl _) (.cells #[.int .u64 (a.1 : Int), .int .u64 (a.2 : Int)] 28))
  go_enter Tryd.func37, Tryd.ntmps37
  go_wp2
  go_ret
  exact ⟨rfl, HB.out⟩
/-- A label that a call answers, out of its block. -/
theorem res_labL {fn : Func} {p : Tmp} (hr : fn.results = #[.cell p 28]) (tmps : Array Value) (w : World) (g : Nat) {x : Lab} (hp : tmps.getD p undef = .pointer (some ⟨g, 0, none⟩)) (h : LbB w g x) : (results fn tmps).run Tryd.prog w = .ok (labL x) w :=
  results_cell_row hr tmps w g _ _ _ _ hp h Tryd.underlying28 rfl Ae.infoLab
set_option maxHeartbeats 1000000 in
set_option maxRecDepth 100000 in
theorem label_any (z d : Lab) (b : Bool) (w : World) (hz : Garb.Wd z) (hd : Garb.Wd d) : Calls Tryd.prog 20 #[labL z, labL d, .bool b] w fun e w' => e = .returned (labL (Garb.lab Garb.nadd z d b)) ∧ Below w.heap.size w w' := by
  have X1 := Blk.new w 28 #[.int .u64 (z.1 : Int), .int .u64 (z.2 : Int)]
  have b1 := (Below.refl w.heap.size w).alloc (Nat.le_refl _) (.cells #[.int .u64 (z.1 : Int), .int .u64 (z.2 : Int)] 28)
  have X2 := Blk.new (w.alloc (.cells #[.int .u64 (z.1 : Int), .int .u64 (z.2 : Int)] 28)) 28 #[.int .u64 (d.1 : Int), .int .u64 (d.2 : Int)]
  have b2 := b1.alloc b1.size (.cells #[.int .u64 (d.1 : Int), .int .u64 (d.2 : Int)] 28)
  have X3 := Blk.new ((w.alloc (.cells #[.int .u64 (z.1 : Int), .int .u64 (z.2 : Int)] 28)).alloc (.cells #[.int .u64 (d.1 : Int), .int .u64 (d.2 : Int)] 28)) 28 #[.int .u64 0, .int .u64 0]
  have b3 := b2.alloc b2.size zeroL
  have X4 := Blk.new ((w.alloc (.cells #[.int .u64 (z.1 : Int), .int .u64 (z.2 : Int)] 28)).alloc (.cells #[.int .u64 (d.1 : Int), .int .u64 (d.2 : Int)] 28)) 28 #[.int .u64 (z.1 : Int), .int .u64 (z.2 : Int)]
  simp only [World.size_alloc] at X2 X3 X4
  have HZ := Lib.hid (And.intro X4 (b2.alloc b2.size (.cells #[.int .u64 (z.1 : Int), .int .u64 (z.2 : Int)] 28)))
  have Y1 := (X1.alloc (.cells #[.int .u64 (d.1 : Int), .int .u64 (d.2 : Int)] 28)).alloc zeroL
  have Y2 := X2.alloc zeroL
  have H3 := Lib.hid (And.intro b3 (show LbB _ (w.heap.size + 1 + 1) (0, 0) from X3))
  have y10 := Y1.cell 0 (v := .int .u64 (z.1 : Int)) rfl
  have y11 := Y1.cell 1 (v := .int .u64 (z.2 : Int)) rfl
  have y20 := Y2.cell 0 (v := .int .u64 (d.1 : Int)) rfl
  have y21 := Y2.cell 1 (v := .int .u64 (d.2 : Int)) rfl
  have y30 := X3.cell 0 (v := .int .u64 0) rfl
  have y31 := X3.cell 1 (v := .int .u64 0) rfl
  have yf := X3.frozen
  have HW := Lib.hid (And.intro hz hd)
  clear X1 X2 X3 X4 b1 b2 b3 Y1 Y2 hz hd
  cases b with
  | false =>
    go_enter Tryd.func20, Tryd.ntmps20
    go_wp2
    exact bodyPost_ret (v := labL z) (res_labL rfl _ _ _ rfl HZ.out.1) rfl ⟨rfl, HZ.out.2⟩
  | true =>
    go_enter Tryd.func20, Tryd.ntmps20
    go_wp2_with fail
    refine (xor_lab z d _ HW.out.1 HW.out.2).mono ?_
    rintro e w1 ⟨rfl, hb1⟩
    have HX : LbB w1 (w.heap.size + 1 + 1) (0, 0) := Blk.below H3.out.2 hb1 (Blk.lt H3.out.2)
    have q0 := Blk.cell HX 0 rfl
    have q1 := Blk.cell HX 1 rfl
    have qf := Blk.frozen HX
    have HF := Lib.hid (And.intro HX (H3.out.1.trans (hb1.mono H3.out.1.size)))
    clear HX hb1
    go_wp2
    exact bodyPost_ret (v := labL (Garb.nadd z d)) (res_labL rfl _ _ _ rfl (LbB.st HF.out.1 (Garb.nadd z d))) rfl ⟨rfl, stL_below HF.out.2 (by omega) _⟩
end Go.Proofs.YtamejhhjfnfalaaDoor

/- append of two labels; blocks of different kinds; what garble's closures capture. -/
namespace Go.Proofs.YtamejhhjfnfalaaDoor
open Go.RowKit

theorem Blk.ne {w : World} {b b' t t' : Nat} {cs cs' : Array Value} (h : Blk w b t cs) (h' : Blk w b' t' cs') (ht : t ≠ t') : b ≠ b' := by
  rintro rfl
  unfold Blk at h h'
  rw [h] at h'
  injection h' with h'
  injection h' with _ h2
  exact ht h2
theorem Row.ne {w : World} {B e s n b t : Nat} {v : Value} {F : Nat → Value} {cs : Array Value} (h : Row w B e s v n F) (h' : Blk w b t cs) (ht : e ≠ t) : v.ownBlock ≠ some b := fun hq => by
  obtain ⟨_, _, cur, hc⟩ := h.own b hq
  exact Blk.ne hc h' ht rfl
theorem Chg.trans2 {S S' : Nat → Prop} {a b c : World} (h : Chg S a b) (h' : Chg S' b c) (hs : ∀ q, q < a.heap.size → S' q → S q) : Chg S a c :=
  ⟨h'.os.trans h.os, h'.tape.trans h.tape, h'.output.trans h.output, Nat.le_trans h.size h'.size, fun k hk hg => (h'.block k (Nat.lt_of_lt_of_le hk h.size) fun e => hg (hs k hk e)).trans (h.block k hk hg)⟩
theorem Chg.ofBelow {S : Nat → Prop} {a b : World} (h : Below a.heap.size a b) : Chg S a b := Chg.of_below h fun k h1 h2 => by omega
/-- append(x, y, z) of labels. -/
theorem append_two (w : World) (B : Nat) (v : Value) (n : Nat) (L M : Nat → Lab) (x y : Lab) (hown : Row w B 28 2 v n (lv L)) (hL : ∀ i, i < n → L i = M i) (hx : M n = x) (hy : M (n + 1) = y) (hn : n + 2 ≤ 1000000) (hB : B ≤ w.heap.size) :
    ∃ g k w', (∀ ty, (Builtin.append_ #[29, 29] ty #[v, .slice (some ⟨w.heap.size, 0, none⟩) 2 2]).run Tryd.prog (w.alloc (.cells #[.int .u64 (x.1 : Int), .int .u64 (x.2 : Int), .int .u64 (y.1 : Int), .int .u64 (y.2 : Int)] 28)) = .ok (.slice (some ⟨g, 0, none⟩) (n + 2) k) w') ∧ B ≤ g ∧ Row w' B 28 2 (.slice (some ⟨g, 0, none⟩) (n + 2) k) (n + 2) (lv M) ∧ (w.alloc (.cells #[.int .u64 (x.1 : Int), .int .u64 (x.2 : Int), .int .u64 (y.1 : Int), .int .u64 (y.2 : Int)] 28)).grownBy w' v.ownBlock ∧ (v.ownBlock = some g ∨ w.heap.size ≤ g) := by
  have hA : AtV (w.alloc (.cells #[.int .u64 (x.1 : Int), .int .u64 (x.2 : Int), .int .u64 (y.1 : Int), .int .u64 (y.2 : Int)] 28)) (some ⟨w.heap.size, 0, none⟩) (2 * 2) (lv fun q => if q = 0 then x else y) := fun i hi => ⟨_, rfl, by
    rw [Addr.add_mid, Nat.zero_add]
    refine (Blk.new w 28 _).cell i ?_
    rcases (show i = 0 ∨ i = 1 ∨ i = 2 ∨ i = 3 by omega) with rfl | rfl | rfl | rfl <;> rfl⟩
  obtain ⟨v', w', hr, hR, hg, hnil, hob⟩ := append_row eltL _ B v n 2 (lv L) (lv fun q => if q = 0 then x else y) (some ⟨w.heap.size, 0, none⟩) 2 (hown.alloc _) hA (fun h => by cases h) (lv_one _) (by unfold maxLen; omega) (by omega) (by simp; omega)
  rcases hR.2 with ⟨e1, e2⟩ | ⟨g, k, cur, rfl, hgB, hG', hmk, _⟩
  · omega
  · refine ⟨g, k, w', hr, hgB, hR.congr (fun i hi => ?_), hg, ?_⟩
    · by_cases h1 : i < n * 2
      · rw [if_pos h1]
        exact lv_congr hL i h1
      · rw [if_neg h1]
        unfold lv
        by_cases h2 : i < (n + 1) * 2
        · have e1 : (i - n * 2) / 2 = 0 := by omega
          have e2 : i / 2 = n := by omega
          have e3 : (i - n * 2) % 2 = i % 2 := by omega
          rw [e1, e2, e3, hx]
          rfl
        · have e1 : (i - n * 2) / 2 = 1 := by omega
          have e2 : i / 2 = n + 1 := by omega
          have e3 : (i - n * 2) % 2 = i % 2 := by omega
          rw [e1, e2, e3, hy]
          rfl
    · rcases hob with h | h
      · exact .inl (by rw [← h]; rfl)
      · right
        have : (some g : Option Nat) = some (w.alloc (.cells #[.int .u64 (x.1 : Int), .int .u64 (x.2 : Int), .int .u64 (y.1 : Int), .int .u64 (y.2 : Int)] 28)).heap.size := h
        injection this with this
        rw [this]; simp
/-- What garbling's closure captures: where the tweaks begin, the tables, the cipher, delta. -/
structure Gc (w : World) (bf bt bc bd g first : Nat) (tv : Value) (delta : Lab) : Prop where
  f : Blk w bf 26 #[.int .u64 (first : Int)]
  t : Blk w bt 29 #[tv]
  c : Blk w bc 88 #[.pointer (some ⟨g, 0, none⟩)]
  d : LbB w bd delta
  x : Fx w g
theorem Gc.below {w w' : World} {bf bt bc bd g first : Nat} {tv : Value} {delta : Lab} (h : Gc w bf bt bc bd g first tv delta) (hb : Below w.heap.size w w') : Gc w' bf bt bc bd g first tv delta :=
  ⟨h.f.below hb h.f.lt, h.t.below hb h.t.lt, h.c.below hb h.c.lt, Blk.below h.d hb (Blk.lt h.d), h.x.below hb⟩
/-- Nothing that is captured changes but the tables' variable. -/
theorem Gc.chg {w w' : World} {bf bt bc bd g first : Nat} {tv tv' : Value} {delta : Lab} {S : Nat → Prop} (h : Gc w bf bt bc bd g first tv delta) (hc : Chg S w w') (ht : Blk w' bt 29 #[tv']) (h1 : ¬ S bf) (h2 : ¬ S bc) (h3 : ¬ S bd) (h4 : ¬ S g) : Gc w' bf bt bc bd g first tv' delta :=
  ⟨h.f.chg hc h1, ht, h.c.chg hc h2, Blk.chg h.d hc h3, h.x.chg hc h4⟩
theorem Row.neFx {w : World} {B e s n g : Nat} {v : Value} {F : Nat → Value} (h : Row w B e s v n F) (hx : Fx w g) (ht : e ≠ 176) : v.ownBlock ≠ some g := fun hq => by
  obtain ⟨_, _, cur, hc⟩ := h.own g hq
  unfold Blk at hc
  have hx' : w.heap[g]? = some (.cells _ 176 (0, 0)) := hx
  rw [hc] at hx'
  injection hx' with hx'
  injection hx' with _ h2
  exact ht h2
end Go.Proofs.YtamejhhjfnfalaaDoor

/- Lists of labels of the call's own: a cell written, copy; what is asked of a function that makes an And's label. -/
namespace Go.Proofs.YtamejhhjfnfalaaDoor
open Go.RowKit

/-- A cell of a list of the call's own is written. -/
theorem Row.setAt {w : World} {base e s : Nat} {g n c : Nat} {F : Nat → Value} (h : Row w base e s (.slice (some ⟨g, 0, none⟩) n c) n F) (i : Nat) (hi : i < n * s) (v : Value) : Row (w.setCell ⟨g, i, none⟩ v) base e s (.slice (some ⟨g, 0, none⟩) n c) n (fun q => if q = i then v else F q) := by
  refine ⟨by rw [flat_length], ?_⟩
  rcases h.2 with ⟨e1, _⟩ | ⟨g', cap, cur, e1, hb, hg, hnc, hm, hsz, ht⟩
  · cases e1
  · injection e1 with e1 _ e3
    injection e1 with e1
    injection e1 with e1
    subst e1 e3
    have hle : n * s ≤ c * s := Nat.mul_le_mul_right s hnc
    refine .inr ⟨g, c, cur.setIfInBounds i v, rfl, hb, Blk.set hg i v, hnc, hm, by simpa using hsz, ?_⟩
    apply List.ext_getElem?
    intro j
    rw [List.getElem?_take]
    by_cases hj : j < n * s
    · rw [if_pos hj, flat_get _ _ _ hj, Array.getElem?_toList, Array.getElem?_setIfInBounds]
      have h2 : (cur.toList.take (n * s))[j]? = some (F j) := by rw [ht, flat_get _ _ _ hj]
      rw [List.getElem?_take, if_pos hj, Array.getElem?_toList] at h2
      by_cases e2 : i = j
      · subst e2
        rw [if_pos rfl, if_pos (by omega), if_pos rfl]
      · rw [if_neg e2, if_neg (fun e => e2 e.symm)]
        exact h2
    · rw [if_neg hj, flat_none _ _ _ (by omega)]
/-- A label of such a list is written. -/
theorem Row.setL {w : World} {base e : Nat} {g n c : Nat} {L M : Nat → Lab} (h : Row w base e 2 (.slice (some ⟨g, 0, none⟩) n c) n (lv L)) (i : Nat) (hi : i < n) (x : Lab) (hM : ∀ q, q < n → M q = if q = i then x else L q) :
    Row ((w.setCell ⟨g, i * 2, none⟩ (.int .u64 (x.1 : Int))).setCell ⟨g, i * 2 + 1, none⟩ (.int .u64 (x.2 : Int))) base e 2 (.slice (some ⟨g, 0, none⟩) n c) n (lv M) :=
  ((h.setAt (i * 2) (by omega) _).setAt (i * 2 + 1) (by omega) _).congr fun q hq => by
    unfold lv
    rw [hM (q / 2) (by omega)]
    by_cases e1 : q = i * 2 + 1
    · subst e1
      rw [if_pos rfl, if_neg (by omega), if_pos (by omega)]
    · rw [if_neg e1]
      by_cases e2 : q = i * 2
      · subst e2
        rw [if_pos rfl, if_pos (by omega), if_pos (by omega)]
      · rw [if_neg e2, if_neg (show ¬ q / 2 = i by omega)]
theorem run_copy_rowS (P : Program) (w : World) (dT sT ty elem : TypeId) (g o dLen dCap : Nat) (a : Addr) (sLen sCap s : Nat) (cur : Array Value) (t : TypeId) (cs : List Value)
    (hu : P.underlying dT = some (.slice elem)) (hs : (P.info? elem).map (·.size) = some s)
    (hg : w.heap[g]? = some (.cells cur t (0, 0))) (hn : cs.length = Nat.min sLen dLen * s)
    (hsrc : ∀ j v, cs[j]? = some v → w.cell? (a.add j) = some v) (hfit : o + cs.length ≤ cur.size) (h1 : ∀ v ∈ cs, v.oneCell' = true) :
    (Builtin.copy_ #[dT, sT] ty #[.slice (some ⟨g, o, none⟩) dLen dCap, .slice (some a) sLen sCap]).run P w =
      .ok (goInt (Nat.min sLen dLen)) (w.setRow g (cur.toList.take o ++ cs ++ cur.toList.drop (o + cs.length)).toArray) := by
  have hl := run_loadCells_list (P := P) w a cs hsrc
  have hst := run_storeCells_at P g o t cs 0 cur w hg (by simpa using hfit) h1
  cases hq : P.info? elem with
  | none => simp [hq] at hs
  | some i =>
    have hi : i.size = s := by simpa [hq] using hs
    simp [Builtin.copy_, run_underlying hu, Builtin.lenOf, Builtin.firstCells, sizeOf, typeInfo, hq, hi, ← hn, hl, hst]
/-- copy of all labels onto a list of the call's own of that length. -/
theorem copy_labs (w : World) (B g N C : Nat) (F : Nat → Value) (A : Option Addr) (c : Nat) (L : Nat → Lab) (hR : Row w B 28 2 (.slice (some ⟨g, 0, none⟩) N C) N F) (hA : AtV w A (N * 2) (lv L)) (h0 : A = none → N = 0 ∧ c = 0) :
    ∃ k w', (∀ ty, (Builtin.copy_ #[29, 29] ty #[.slice (some ⟨g, 0, none⟩) N C, .slice A N c]).run Tryd.prog w = .ok (goInt k) w') ∧ Row w' B 28 2 (.slice (some ⟨g, 0, none⟩) N C) N (lv L) ∧ Chg (fun q => q = g) w w' := by
  rcases A with _ | ad
  · obtain ⟨rfl, rfl⟩ := h0 rfl
    exact ⟨0, w, fun ty => run_copy_nil Tryd.prog w 29 29 ty 28 _ _ _ eltL.und (by rw [eltL.size1]; rfl), hR.congr fun i hi => by omega, Chg.refl _ _⟩
  · obtain ⟨hl, h⟩ := hR
    rcases h with ⟨e1, _⟩ | ⟨g', cap, cur, e1, hb, hg, hnc, hm, hsz, ht⟩
    · cases e1
    · injection e1 with e1 _ e3
      injection e1 with e1
      injection e1 with e1
      subst e1 e3
      have hcl : (flat (N * 2) (lv L)).length = Nat.min N N * 2 := by rw [flat_length, show Nat.min N N = N from Nat.min_self N]
      have hfit : 0 + (flat (N * 2) (lv L)).length ≤ cur.size := by rw [flat_length]; omega
      refine ⟨_, _, fun ty => run_copy_rowS Tryd.prog w 29 29 ty 28 g 0 N C ad N c 2 cur 28 (flat (N * 2) (lv L)) eltL.und eltL.size1 hg hcl (fun j v hj => hA.news j v hj) hfit (flat_one (lv_one L)), ⟨by rw [flat_length], .inr ⟨g, C, _, rfl, hb, setRow_heap _ _ _ _ _ _ hg, hnc, hm, ?_, ?_⟩⟩, ?_⟩
      · simp [flat_length]
        omega
      · apply List.ext_getElem?
        intro j
        rw [List.getElem?_take]
        by_cases hj : j < N * 2
        · rw [if_pos hj, flat_get _ _ _ hj]
          simp only [List.take_zero, List.nil_append, Nat.zero_add]
          rw [List.getElem?_append_left (by rw [flat_length]; exact hj), flat_get _ _ _ hj]
        · rw [if_neg hj, flat_none _ _ _ (by omega)]
      · exact ⟨rfl, rfl, rfl, by simp [World.setRow], fun k _ hs => setRow_other w g k _ hs⟩
/-- So many zero labels. -/
theorem made_labs0 (w : World) (N c : Nat) (hN : N ≤ c) (hc : c ≤ maxLen) : Row (w.alloc (.cells (madeCells (labL (0, 0)).cells (c * 2)) 28)) w.heap.size 28 2 (.slice (some ⟨w.heap.size, 0, none⟩) N c) N (lv fun _ => (0, 0)) := by
  refine ⟨by rw [flat_length], .inr ⟨w.heap.size, c, _, rfl, Nat.le_refl _, heap_alloc_new w _, hN, hc, by rw [made_size], ?_⟩⟩
  apply List.ext_getElem?
  intro i
  rw [List.getElem?_take]
  by_cases hi : i < N * 2
  · rw [if_pos hi, flat_get _ _ _ hi, Array.getElem?_toList]
    have hr : (Array.range (c * 2))[i]? = some i := by
      rw [Array.getElem?_eq_some_iff]
      exact ⟨by simp; omega, by simp⟩
    simp only [madeCells, Value.cells]
    rw [Array.getElem?_map, hr]
    unfold lv
    rcases (show i % 2 = 0 ∨ i % 2 = 1 by omega) with e | e
    · simp [e]
    · simp [e]
  · rw [if_neg hi, flat_none _ _ _ (by omega)]
theorem made_labs (w : World) (N c : Nat) (hN : N ≤ c) (hc : c ≤ maxLen) : Row (w.alloc (.cells (madeCells #[Value.int .u64 0, Value.int .u64 0] (c * 2)) 28)) w.heap.size 28 2 (.slice (some ⟨w.heap.size, 0, none⟩) N c) N (lv fun _ => (0, 0)) := made_labs0 w N c hN hc
theorem run_makeL (w : World) (l c : Nat) (hlc : l ≤ c) (hc : c ≤ 100000) : (Instr.makeSlice 29 (.int .i64 (l : Int)) (.int .i64 (c : Int))).run Tryd.prog w = .ok (.slice (some ⟨w.heap.size, 0, none⟩) l c) (w.alloc (.cells (madeCells #[Value.int .u64 0, Value.int .u64 0] (c * 2)) 28)) :=
  run_make_row eltL w l c hlc (by omega) (by omega)
/-- A function that makes the label of each And (number k of the gates) of two wires' labels V: what it keeps (Inv), what it changes (its own block g, T). -/
structure Clo (K : Nat) (cap : Array Value) (n : Nat) (y : Nat → Nat → Int) (V : Nat → Nat → Lab) (R : Nat → Lab) (B0 : Nat) (T : Nat → Prop) (Inv : World → Nat → Nat → Prop) : Prop where
  call : ∀ (k : Nat) (w : World) (g a b : Nat), k < n → y k 0 = 2 → y k 1 = (a : Int) → y k 2 = (b : Int) → B0 ≤ w.heap.size → Inv w k g → Calls Tryd.prog K (#[labL (V k a), labL (V k b)] ++ cap) w fun e w' => ∃ g', e = .returned (labL (R k)) ∧ Inv w' (k + 1) g' ∧ (g' = g ∨ w.heap.size ≤ g') ∧ Chg (fun q => q = g ∨ T q) w w'
  enter : ∀ (args : Array Value) (w : World), (callFunc K args).run Tryd.prog w = .ok (.enter K args) w
  skip : ∀ (k : Nat) (w : World) (g : Nat), k < n → y k 0 ≠ 2 → Inv w k g → Inv w (k + 1) g
  keep : ∀ (k : Nat) (w w' : World) (g : Nat) (S : Nat → Prop), Inv w k g → Chg S w w' → (∀ q, S q → B0 ≤ q ∧ q ≠ g) → Inv w' k g
  low : ∀ q, T q → q < B0
  lt : ∀ (k : Nat) (w : World) (g : Nat), Inv w k g → g < w.heap.size
end Go.Proofs.YtamejhhjfnfalaaDoor
