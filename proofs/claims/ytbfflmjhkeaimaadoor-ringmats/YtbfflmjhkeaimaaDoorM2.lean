/- The contract of ring's Mat where the sizes fit. -/
import Derived.Test.YtbfflmjhkeaimaaDoorM1
import Derived.Test.YtbfflmjhkeaimaaDoorL1
import Derived.BigQuiet
import Derived.Deep.QuietTactic
namespace Go.Proofs.YtbfflmjhkeaimaaDoor
open Go.RowKit

def side3 (m k n : Nat) (i : Nat) : Nat := if i = 0 then m else if i = 1 then k else n
set_option maxHeartbeats 1000000 in
theorem check_ok (m k n : Nat) (w : World) (hm : 1 ≤ m ∧ m ≤ 1024) (hk : 1 ≤ k ∧ k ≤ 1024) (hn : 1 ≤ n ∧ n ≤ 1024) :
    Calls Tryd.prog 29 #[.int .i64 ((m * k : Nat) : Int), .int .i64 ((k * n : Nat) : Int), .int .i64 m, .int .i64 k, .int .i64 n] w fun e w' => e = .returned .nilIface ∧ Below w.heap.size w w' ∧ w'.heap.size = w.heap.size + 1 := by
  have b1 : m * k ≤ 1024 * 1024 := Nat.mul_le_mul hm.2 hk.2
  have b2 : k * n ≤ 1024 * 1024 := Nat.mul_le_mul hk.2 hn.2
  generalize hA : m * k = A at b1 ⊢
  generalize hB : k * n = B at b2 ⊢
  go_enter Tryd.func29, Tryd.ntmps29
  go_wp2
  go_loop [17] (fun t => ∃ i : Nat, i ≤ 3 ∧ t = .int .i64 i) (fun t => 3 - (intOf t).toNat)
  case atStart => exact ⟨0, by omega, rfl⟩
  case round =>
    obtain ⟨i, hi, rfl⟩ := hrel
    by_cases hlt : i < 3
    · rcases (show i = 0 ∨ i = 1 ∨ i = 2 by omega) with rfl | rfl | rfl
      · go_wp2
        go_round
        case rel => exact ⟨1, by omega, rfl⟩
        case measure => simp [intOf]
      · go_wp2
        go_round
        case rel => exact ⟨2, by omega, rfl⟩
        case measure => simp [intOf]
      · go_wp2
        go_round
        case rel => exact ⟨3, by omega, rfl⟩
        case measure => simp [intOf]
    · go_wp2
      go_ret
      exact ⟨rfl, (Below.refl _ _).alloc (Nat.le_refl _) _, by simp⟩

theorem made_words (n : Nat) : madeCells (Value.int .u64 0).cells (n * 1) = (wordsOf n fun _ => 0).toArray := by
  rw [Nat.mul_one]
  apply Array.ext
  · simp [madeCells, wordsOf]
  · intro i h1 h2
    simp [madeCells, wordsOf, Value.cells, Nat.mod_one]
theorem run_makeWords (w : World) (n : Nat) (h : n ≤ 1000000000000) :
    (Instr.makeSlice 28 (.int .i64 (n : Int)) (.int .i64 (n : Int))).run Tryd.prog w = .ok (.slice (some ⟨w.heap.size, 0, none⟩) n n) (w.alloc (.cells (wordsOf n fun _ => 0).toArray 22)) := by
  obtain ⟨i0, hi, hz0, hz1, hz2⟩ := info_parts Tryd.info22
  have := run_make (P := Tryd.prog) w 28 22 i0 (.int .u64 0) Tryd.underlying28 hi hz0 .i64 .i64 n n (by omega) (by omega) (by rw [hz2]; omega) (by omega)
  rw [hz1, Int.toNat_natCast, made_words] at this
  exact this

/-- A row of a matrix, cut out of its list. -/
theorem run_rowSlice (w : World) (ad : Addr) (m n i c : Nat) (hn : 1 ≤ n) (hi : i < m) (hc : m * n ≤ c) :
    (Instr.slice 28 (.slice (some ad) (m * n) c) (some (.int .i64 (i * n : Int))) (some (.int .i64 ((i + 1) * n : Int))) none).run Tryd.prog w = .ok (.slice (some (ad.add (i * n))) n (c - i * n)) w := by
  have h1 : (i + 1) * n ≤ m * n := Nat.mul_le_mul_right n hi
  have h2 : (i + 1) * n = i * n + n := Nat.succ_mul i n
  have e1 : (i * n : Int) = ((i * n : Nat) : Int) := by rw [Int.natCast_mul]
  have e2 : ((i + 1) * n : Int) = (((i + 1) * n : Nat) : Int) := by rw [Int.natCast_mul]; rfl
  rw [e1, e2]
  have hs : (sizeOf (Tryd.prog.elem 28)).run Tryd.prog w = .ok 1 w := by
    obtain ⟨i0, hi, _, hz1, _⟩ := info_parts Tryd.info22
    have he : Tryd.prog.elem 28 = 22 := by kernel_rfl
    rw [he]
    simp [sizeOf, typeInfo, hi, hz1]
  have hu : Tryd.prog.underlying 28 = some (.slice (Tryd.prog.elem 28)) := by rw [show Tryd.prog.elem 28 = 22 by kernel_rfl]; exact Tryd.underlying28
  have hr := run_slice_lh w 28 (some ad) (m * n) c hu .i64 .i64 ((i * n : Nat) : Int) (((i + 1) * n : Nat) : Int) (by omega) (by omega) (by omega)
  rw [hs] at hr
  rw [hr]
  simp only [Result.andThen, sliced, Int.toNat_natCast, Nat.mul_one]
  have hx : (i + 1) * n - i * n = n := by omega
  have hy : ¬ c = i * n := by omega
  rw [hx]
  simp only [hy, if_false, Option.map_some]
theorem sumTo_congr {f g : Nat → Int} : ∀ n, (∀ t, t < n → f t = g t) → sumTo f n = sumTo g n
  | 0, _ => rfl
  | n + 1, h => by
    show sumTo f n + f n = sumTo g n + g n
    rw [sumTo_congr n (fun t ht => h t (by omega)), h n (by omega)]
/-- The product's word at place q. -/
def prodF (α β : Nat → Int) (k n q : Nat) : Int := U (sumTo (fun t => α (q / n * k + t) * β (t * n + q % n)) k)
/-- .. while i rows are done. -/
def partF (α β : Nat → Int) (k n i q : Nat) : Int := if q < i * n then prodF α β k n q else 0
theorem partF_bd (α β : Nat → Int) (k n i q : Nat) : 0 ≤ partF α β k n i q ∧ partF α β k n i q < 18446744073709551616 := by
  unfold partF prodF; split
  · exact U_bd _
  · omega
theorem partF_step (α β : Nat → Int) (k n i q : Nat) (hn : 1 ≤ n) :
    rowF (partF α β k n i) (fun t => α (i * k + t)) β (i * n) n k q = partF α β k n (i + 1) q := by
  have h2 : (i + 1) * n = i * n + n := Nat.succ_mul i n
  unfold rowF
  by_cases h : i * n ≤ q ∧ q < i * n + n
  · rw [if_pos h]
    unfold partF
    rw [if_neg (by omega), if_pos (by omega)]
    unfold prodF
    have hd : q / n = i := by
      rw [Nat.div_eq_iff (by omega)]; omega
    have hm : q % n = q - i * n := by
      have := Nat.div_add_mod q n
      rw [hd, Nat.mul_comm] at this
      omega
    rw [hd, hm, Int.zero_add]
  · rw [if_neg h]
    unfold partF
    by_cases h' : q < i * n
    · rw [if_pos h', if_pos (by omega)]
    · rw [if_neg h', if_neg (by omega)]
theorem At.sub {w : World} {a : Addr} {N n o : Nat} {f : Nat → Int} (h : At w a N f) (ho : o + n ≤ N) : At w (a.add o) n (fun t => f (o + t)) := by
  intro i hi
  have e : (a.add o).add i = a.add (o + i) := by
    unfold Addr.add
    by_cases h1 : o = 0
    · subst h1; simp
    · by_cases h2 : i = 0
      · subst h2; simp
      · rw [if_neg h1, if_neg h2, if_neg (by omega)]
        simp [Nat.add_assoc]
  rw [e]
  exact h _ (by omega)
/-- What Mat hands back where the sizes fit. -/
def MatOk (m k n : Nat) (α β : Nat → Int) (w : World) (e : Ending) (w' : World) : Prop :=
  ∃ g, w.heap.size ≤ g ∧ e = .returned (.tuple #[.slice (some ⟨g, 0, none⟩) (m * n) (m * n), .nilIface]) ∧ Own w' g (m * n) (prodF α β k n) ∧ Below w.heap.size w w'
set_option maxHeartbeats 1000000 in
set_option maxRecDepth 100000 in
theorem mat_ok (m k n ca cb : Nat) (α β : Nat → Int) (aa ba : Addr) (w : World) (hm : 1 ≤ m ∧ m ≤ 1024) (hk : 1 ≤ k ∧ k ≤ 1024) (hn : 1 ≤ n ∧ n ≤ 1024)
    (hA : At w aa (m * k) α) (hB : At w ba (k * n) β) (hag : aa.block < w.heap.size) (hbg : ba.block < w.heap.size) (hca : m * k ≤ ca) :
    Calls Tryd.prog 18 #[.slice (some aa) (m * k) ca, .slice (some ba) (k * n) cb, .int .i64 m, .int .i64 k, .int .i64 n] w (MatOk m k n α β w) := by
  have b1 : m * k ≤ 1024 * 1024 := Nat.mul_le_mul hm.2 hk.2
  have b2 : k * n ≤ 1024 * 1024 := Nat.mul_le_mul hk.2 hn.2
  have b3 : m * n ≤ 1024 * 1024 := Nat.mul_le_mul hm.2 hn.2
  have HA := Lib.hid hA
  have HB := Lib.hid hB
  clear hA hB
  go_enter Tryd.func18, Tryd.ntmps18
  go_wp2_with fail
  refine (check_ok m k n _ hm hk hn).mono ?_
  rintro e w1 ⟨rfl, hb1, hz1⟩
  have HB1 := Lib.hid hb1
  have HZ1 := Lib.hid hz1
  clear hb1 hz1
  have hmk : (Instr.makeSlice 28 (.int .i64 ((m : Int) * n)) (.int .i64 ((m : Int) * n))).run Tryd.prog w1 = .ok (.slice (some ⟨w1.heap.size, 0, none⟩) (m * n) (m * n)) (w1.alloc (.cells (wordsOf (m * n) fun _ => 0).toArray 22)) := by
    rw [← Int.natCast_mul]; exact run_makeWords w1 (m * n) (by omega)
  go_wp2
  clear hmk
  have HS : w.heap.size ≤ w1.heap.size := HB1.out.size
  have HO : Own (w1.alloc (.cells (wordsOf (m * n) fun _ => 0).toArray 22)) w1.heap.size (m * n) (fun _ => 0) ∧ Below w.heap.size w (w1.alloc (.cells (wordsOf (m * n) fun _ => 0).toArray 22)) :=
    ⟨heap_alloc_new w1 _, HB1.out.alloc HS _⟩
  have HI := Lib.hid HO
  clear HO HZ1
  generalize w1.alloc (.cells (wordsOf (m * n) fun _ => 0).toArray 22) = w2 at HI ⊢
  generalize w1.heap.size = g at HI HS ⊢
  clear HB1
  go_loopw [31] (fun t wr => ∃ i : Nat, i ≤ m ∧ t = .int .i64 i ∧ Hid (Own wr g (m * n) (partF α β k n i)) ∧ Hid (Below w.heap.size w wr)) (fun t _ => m - (intOf t).toNat)
  case atStart => exact ⟨0, by omega, rfl, HI.out.1.congr fun q _ => by simp [partF], HI.out.2⟩
  case round =>
    clear HI
    obtain ⟨i, hi, rfl, HO, HW⟩ := hrel
    by_cases hlt : i < m
    · have q1 : (i + 1) * n ≤ m * n := Nat.mul_le_mul_right n hlt
      have q2 : (i + 1) * k ≤ m * k := Nat.mul_le_mul_right k hlt
      have q3 : (i + 1) * n = i * n + n := Nat.succ_mul i n
      have q4 : (i + 1) * k = i * k + k := Nat.succ_mul i k
      have c1 : (i : Int) * n = ((i * n : Nat) : Int) := (Int.natCast_mul _ _).symm
      have c2 : (i : Int) * k = ((i * k : Nat) : Int) := (Int.natCast_mul _ _).symm
      have c3 : ((i : Int) + 1) * n = (((i + 1) * n : Nat) : Int) := (Int.natCast_mul _ _).symm
      have c4 : ((i : Int) + 1) * k = (((i + 1) * k : Nat) : Int) := (Int.natCast_mul _ _).symm
      have e1 : IntKind.i64.wrap ((i : Int) * n) = (i : Int) * n := i64_nat _ (by omega) (by omega)
      have e2 : IntKind.i64.wrap ((i : Int) + 1) = (i : Int) + 1 := i64_nat _ (by omega) (by omega)
      have e3 : IntKind.i64.wrap (((i : Int) + 1) * n) = ((i : Int) + 1) * n := i64_nat _ (by omega) (by omega)
      have e4 : IntKind.i64.wrap ((i : Int) * k) = (i : Int) * k := i64_nat _ (by omega) (by omega)
      have e5 : IntKind.i64.wrap (((i : Int) + 1) * k) = ((i : Int) + 1) * k := i64_nat _ (by omega) (by omega)
      have r1 := fun wx => run_rowSlice wx ⟨g, 0, none⟩ m n i (m * n) hn.1 hlt (Nat.le_refl _)
      have r2 := fun wx => run_rowSlice wx aa m k i ca hk.1 hlt hca
      have Q := Lib.hid (And.intro q1 (And.intro q2 (And.intro q3 q4)))
      clear c1 c2 c3 c4 q1 q2 q3 q4
      go_wp2
      go_still_tail 19, (by kernel_rfl)
      change wpList _ _ _ _ _ wr.drew
      go_wp2_with fail
      clear e1 e2 e3 e4 e5 r1 r2
      have q := Q.out
      refine (addRow_any g (m * n) (i * n) n k (k * n) (ca - i * k) cb (m * n - i * n) (partF α β k n i) (fun t => α (i * k + t)) β (aa.add (i * k)) ba wr.drew HO.out.drew
        ((HA.out.below (HW.out.drew) hag).sub (by omega)) (HB.out.below HW.out.drew hbg) (fun q _ => partF_bd _ _ _ _ _ _) (by rw [block_add]; omega) (by omega) (by omega) (by unfold maxLen; omega) (by unfold maxLen; omega) (by unfold maxLen; omega) (Nat.le_refl _)).mono ?_
      rintro e w3 ⟨rfl, hO3, hB3⟩
      have H3 := Lib.hid (And.intro hO3 (HW.out.drew.trans (hB3.mono HS)))
      clear hO3 hB3 q
      go_wp2
      go_roundw
      case rel => exact ⟨i + 1, by omega, by go_num, H3.out.1.congr fun q _ => partF_step α β k n i q hn.1, H3.out.2⟩
      case measure => simp [intOf]; omega
    · go_wp2
      go_ret2
      refine ⟨g, HS, rfl, HO.out.congr fun q hq => ?_, HW.out⟩
      unfold partF
      rw [show i = m by omega, if_pos hq]
end Go.Proofs.YtbfflmjhkeaimaaDoor
