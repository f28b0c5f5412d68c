/- The contract of ring's Mat where the sizes do not fit. -/
import Derived.Test.YtbfflmjhkeaimaaDoorE5
import Derived.Test.YtbfflmjhkeaimaaDoorM2
namespace Go.Proofs.YtbfflmjhkeaimaaDoor
open Go.RowKit

/-- An error of the project's own with this number, wrapped in one place. -/
def Failed (c : Int) (w : World) (e : Ending) (w' : World) : Prop := ∃ p a, e = .returned (chain [(p, a)] c) ∧ Below w.heap.size w w'
def okSide (s : Int) : Prop := 1 ≤ s ∧ s ≤ 1024
set_option maxHeartbeats 2000000 in
set_option maxRecDepth 100000 in
theorem check_err (la lb : Nat) (m k n : Int) (w : World) (hg : Handle w)
    (h : ¬ (okSide m ∧ okSide k ∧ okSide n ∧ (la : Int) = m * k ∧ (lb : Int) = k * n)) :
    Calls Tryd.prog 29 #[.int .i64 la, .int .i64 lb, .int .i64 m, .int .i64 k, .int .i64 n] w (Failed 1 w) := by
  have hb0 := (Below.refl w.heap.size w).alloc (Nat.le_refl _) (.cells #[.int .i64 m, .int .i64 k, .int .i64 n] 32)
  have hg1 := hg.below hb0 hg.pos
  have HW := Lib.hid (fun p a => wrap_bare 1 a p _ hg1)
  have HB := Lib.hid hb0
  have HN := Lib.hid h
  clear hb0 hg1 hg h
  go_enter Tryd.func29, Tryd.ntmps29
  go_wp2
  go_loop [17] (fun t => ∃ i : Nat, i ≤ 3 ∧ t = .int .i64 i ∧ Hid ((1 ≤ i → okSide m) ∧ (2 ≤ i → okSide k) ∧ (3 ≤ i → okSide n))) (fun t => 3 - (intOf t).toNat)
  case atStart => exact ⟨0, by omega, rfl, fun h => absurd h (by omega), fun h => absurd h (by omega), fun h => absurd h (by omega)⟩
  case round =>
    obtain ⟨i, hi, rfl, HS⟩ := hrel
    rcases (show i = 0 ∨ i = 1 ∨ i = 2 ∨ i = 3 by omega) with rfl | rfl | rfl | rfl
    · by_cases h1 : m < 1
      · go_wp2_with (go_at_call 32; refine (HW.out _ _).mono ?_; rintro e w1 ⟨rfl, hb1⟩; have HB1 := Lib.hid hb1; clear hb1)
        go_ret
        exact ⟨_, _, rfl, HB.out.trans (HB1.out.mono (by simp))⟩
      · by_cases h2 : 1024 < m
        · go_wp2_with (go_at_call 32; refine (HW.out _ _).mono ?_; rintro e w1 ⟨rfl, hb1⟩; have HB1 := Lib.hid hb1; clear hb1)
          go_ret
          exact ⟨_, _, rfl, HB.out.trans (HB1.out.mono (by simp))⟩
        · go_wp2
          go_round
          case rel => exact ⟨1, by omega, rfl, fun _ => ⟨by omega, by omega⟩, fun h => absurd h (by omega), fun h => absurd h (by omega)⟩
          case measure => simp [intOf]
    · by_cases h1 : k < 1
      · go_wp2_with (go_at_call 32; refine (HW.out _ _).mono ?_; rintro e w1 ⟨rfl, hb1⟩; have HB1 := Lib.hid hb1; clear hb1)
        go_ret
        exact ⟨_, _, rfl, HB.out.trans (HB1.out.mono (by simp))⟩
      · by_cases h2 : 1024 < k
        · go_wp2_with (go_at_call 32; refine (HW.out _ _).mono ?_; rintro e w1 ⟨rfl, hb1⟩; have HB1 := Lib.hid hb1; clear hb1)
          go_ret
          exact ⟨_, _, rfl, HB.out.trans (HB1.out.mono (by simp))⟩
        · go_wp2
          go_round
          case rel => exact ⟨2, by omega, rfl, fun _ => HS.out.1 (by omega), fun _ => ⟨by omega, by omega⟩, fun h => absurd h (by omega)⟩
          case measure => simp [intOf]
    · by_cases h1 : n < 1
      · go_wp2_with (go_at_call 32; refine (HW.out _ _).mono ?_; rintro e w1 ⟨rfl, hb1⟩; have HB1 := Lib.hid hb1; clear hb1)
        go_ret
        exact ⟨_, _, rfl, HB.out.trans (HB1.out.mono (by simp))⟩
      · by_cases h2 : 1024 < n
        · go_wp2_with (go_at_call 32; refine (HW.out _ _).mono ?_; rintro e w1 ⟨rfl, hb1⟩; have HB1 := Lib.hid hb1; clear hb1)
          go_ret
          exact ⟨_, _, rfl, HB.out.trans (HB1.out.mono (by simp))⟩
        · go_wp2
          go_round
          case rel => exact ⟨3, by omega, rfl, fun _ => HS.out.1 (by omega), fun _ => HS.out.2.1 (by omega), fun _ => ⟨by omega, by omega⟩⟩
          case measure => simp [intOf]
    · have hm := HS.out.1 (by omega)
      have hk := HS.out.2.1 (by omega)
      have hn := HS.out.2.2 (by omega)
      have p0 : 0 ≤ m * k := Int.mul_nonneg (by have := hm.1; omega) (by have := hk.1; omega)
      have p1 : m * k ≤ 1024 * 1024 := Int.mul_le_mul hm.2 hk.2 (by have := hk.1; omega) (by omega)
      have q0 : 0 ≤ k * n := Int.mul_nonneg (by have := hk.1; omega) (by have := hn.1; omega)
      have q1 : k * n ≤ 1024 * 1024 := Int.mul_le_mul hk.2 hn.2 (by have := hn.1; omega) (by omega)
      have e1 : IntKind.i64.wrap (m * k) = m * k := i64_nat _ (by omega) (by omega)
      have e2 : IntKind.i64.wrap (k * n) = k * n := i64_nat _ (by omega) (by omega)
      have hx : ¬ (la : Int) = m * k ∨ ((la : Int) = m * k ∧ ¬ (lb : Int) = k * n) := by
        by_cases h : (la : Int) = m * k
        · exact .inr ⟨h, fun h' => HN.out ⟨hm, hk, hn, h, h'⟩⟩
        · exact .inl h
      clear hm hk hn HN HS
      rcases hx with hx | ⟨hx, hy⟩
      · have t1 : ((la : Int) != m * k) = true := by simpa using hx
        have t2 : ((la : Int) == m * k) = false := by simpa using hx
        clear hx
        go_wp2_with (go_at_call 32; refine (HW.out _ _).mono ?_; rintro e w1 ⟨rfl, hb1⟩; have HB1 := Lib.hid hb1; clear hb1)
        go_ret
        exact ⟨_, _, rfl, HB.out.trans (HB1.out.mono (by simp))⟩
      · have t1 : ((la : Int) != m * k) = false := by simpa using hx
        have t2 : ((la : Int) == m * k) = true := by simpa using hx
        have u1 : ((lb : Int) != k * n) = true := by simpa using hy
        have u2 : ((lb : Int) == k * n) = false := by simpa using hy
        clear hx hy
        go_wp2_with (go_at_call 32; refine (HW.out _ _).mono ?_; rintro e w1 ⟨rfl, hb1⟩; have HB1 := Lib.hid hb1; clear hb1)
        go_ret
        exact ⟨_, _, rfl, HB.out.trans (HB1.out.mono (by simp))⟩

/-- What Mat hands back where the sizes do not fit. -/
def MatErr (w : World) (e : Ending) (w' : World) : Prop := ∃ p a, e = .returned (.tuple #[.slice none 0 0, chain [(p, a)] 1]) ∧ Below w.heap.size w w'
set_option maxHeartbeats 2000000 in
set_option maxRecDepth 100000 in
theorem mat_err (A B : Option Addr) (la lb ca cb : Nat) (m k n : Int) (w : World) (hg : Handle w)
    (h : ¬ (okSide m ∧ okSide k ∧ okSide n ∧ (la : Int) = m * k ∧ (lb : Int) = k * n)) :
    Calls Tryd.prog 18 #[.slice A la ca, .slice B lb cb, .int .i64 m, .int .i64 k, .int .i64 n] w (MatErr w) := by
  have HC := Lib.hid (check_err la lb m k n w hg h)
  clear hg h
  go_enter Tryd.func18, Tryd.ntmps18
  go_wp2_with fail
  refine HC.out.mono ?_
  rintro e w1 ⟨p, a, rfl, hb⟩
  have HB := Lib.hid hb
  clear hb
  obtain ⟨T, v, hT⟩ := chain_iface [(p, a)] 1
  rw [hT]
  have HT := Lib.hid hT
  clear hT
  go_wp2
  go_ret2
  exact ⟨p, a, by rw [HT.out]; rfl, HB.out⟩
end Go.Proofs.YtbfflmjhkeaimaaDoor
