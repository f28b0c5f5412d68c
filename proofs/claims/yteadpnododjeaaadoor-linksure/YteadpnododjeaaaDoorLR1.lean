/- Texts as bytes; the document's Sum, four. -/
import Derived.Test.YteadpnododjeaaaDoorLX1
namespace Go.Proofs.YteadpnododjeaaaDoor
open Go.RowKit

theorem strB_size (n : Nat) (f : Nat → Nat) : (strB n f).size = n := by simp [strB, ByteArray.size]
theorem strB_get (n : Nat) (f : Nat → Nat) (i : Nat) (hi : i < n) : (strB n f)[i]? = some (UInt8.ofNat (f i)) := by
  have h : i < (strB n f).size := by rw [strB_size]; exact hi
  rw [getElem?_pos (strB n f) i h]
  congr 1
  show (strB n f).data[i]'_ = _
  simp [strB]
theorem run_idx (n : Nat) (f : Nat → Nat) (hf : ∀ i, f i < 256) (i : Nat) (hi : i < n) (w : World) : (Instr.index 9 (.string (strB n f)) (.int .i64 (i : Int))).run Tryd.prog w = .ok (.int .u8 (f i : Int)) w := by
  have hu : Tryd.prog.underlying 9 = some .string := by kernel_rfl
  have hg := strB_get n f i hi
  have := hf i
  simp [Instr.index, run_underlying hu, asIntOf, hg]
  omega
theorem strB_append (n m : Nat) (f g : Nat → Nat) : strB n f ++ strB m g = strB (n + m) (thenB n f g) := by
  apply ByteArray.ext
  simp only [strB, ByteArray.data_append]
  apply Array.ext'
  simp only [Array.toList_append, List.range_add, List.map_append]
  congr 1
  · apply List.map_congr_left
    intro i hi
    unfold thenB
    rw [if_pos (List.mem_range.1 hi)]
  · rw [List.map_map]
    apply List.map_congr_left
    intro i _
    unfold thenB
    show _ = UInt8.ofNat (if n + i < n then f (n + i) else g (n + i - n))
    rw [if_neg (by omega), Nat.add_sub_cancel_left]
theorem feed_succ (c b k : Nat) : Link.feed c b (k + 1) = Link.feed c b k / 2 ^^^ (if (b / 2 ^ k ^^^ Link.feed c b k) % 2 = 1 then Link.poly else 0) := by
  show Link.st (Link.feed c b k ^^^ (b / 2 ^ k % 2)) = _
  rw [Link.st_bit _ _ (Nat.mod_lt _ (by omega))]
  have e : (b / 2 ^ k % 2 ^^^ Link.feed c b k) % 2 = (b / 2 ^ k ^^^ Link.feed c b k) % 2 := by
    have h1 : ∀ x y : Nat, (x ^^^ y) % 2 = (x % 2 ^^^ y % 2) % 2 := fun x y => by
      have := @Nat.xor_mod_two_pow x y 1
      rw [Nat.pow_one] at this
      rw [this]
      exact (Nat.mod_eq_of_lt (by rw [← this]; exact Nat.mod_lt _ (by omega))).symm
    rw [h1, h1 (b / 2 ^ k), Nat.mod_mod]
  rw [e]
theorem feed_lt {c b : Nat} (hc : c < 4294967296) (hb : b < 256) (k : Nat) : Link.feed c b k < 4294967296 := by
  rw [Link.feed_it]
  exact Link.it_lt k (Link.xor_lt32 hc (Nat.lt_of_le_of_lt (Nat.mod_le _ _) (by omega)))
set_option maxHeartbeats 1000000 in
set_option maxRecDepth 100000 in
theorem rsum_any (n : Nat) (f : Nat → Nat) (w : World) (hf : ∀ i, f i < 256) (hn : n ≤ 150000000000000) :
    Calls Tryd.prog 31 #[.string (strB n f)] w fun e w' => e = .returned (.int .u32 ((Link.reg 4294967295 f n ^^^ 4294967295 : Nat) : Int)) ∧ w = w' := by
  have HX := Lib.hid (fun i hi wx => run_idx n f hf i hi wx)
  have hsz := strB_size n f
  have HN := Lib.hid (And.intro trivial (And.intro hf hn))
  generalize strB n f = t at HX hsz ⊢
  clear hf hn
  go_enter Tryd.func31, Tryd.ntmps31
  go_wp2
  go_loop [3, 4] (fun s q => ∃ i R : Nat, q = .int .i64 i ∧ s = .int .u32 R ∧ Hid (True ∧ i ≤ n) ∧ Hid (R = Link.reg 4294967295 f i)) (fun _ q => n - (intOf q).toNat)
  case atStart => exact ⟨0, 4294967295, rfl, rfl, ⟨trivial, by omega⟩, rfl⟩
  case round =>
    obtain ⟨i, R, rfl, rfl, HI, HR⟩ := hrel
    have hR : R < 4294967296 := by rw [HR.out]; exact Link.reg_lt (by omega) HN.out.2.1 _
    by_cases hlt : i < n
    · have hx := HX.out i hlt
      have hlt2 : (i : Int) < (n : Int) := by omega
      have e0 : IntKind.i64.wrap ((i : Int) + 1) = (i : Int) + 1 := i64_nat _ (by omega) (by have := HN.out.2.2; omega)
      have ht : decide ((i : Int) < (n : Int)) = true := decide_eq_true hlt2
      obtain ⟨b, hb⟩ : ∃ b, b = f i := ⟨_, rfl⟩
      have hb8 : b < 256 := by rw [hb]; exact HN.out.2.1 i
      rw [← hb] at hx
      have HB := Lib.hid (And.intro trivial (And.intro hb (And.intro hb8 (And.intro hlt hR))))
      have e1 : IntKind.u32.wrap (b : Int) = (b : Int) := u32n _ (by omega)
      clear hb hb8 hlt hR
      go_wp2
      go_loop [3, 5] (fun s q => ∃ k C : Nat, q = .int .i64 k ∧ s = .int .u32 C ∧ Hid (True ∧ k ≤ 8) ∧ Hid (C = Link.feed R b k)) (fun _ q => 8 - (intOf q).toNat)
      case atStart => exact ⟨0, R, rfl, rfl, ⟨trivial, by omega⟩, rfl⟩
      case round =>
        obtain ⟨k, C, rfl, rfl, HK, HC⟩ := hrel
        have hC : C < 4294967296 := by rw [HC.out]; exact feed_lt HB.out.2.2.2.2 HB.out.2.2.1 k
        by_cases hk : k < 8
        · have hk2 : (k : Int) < 8 := by omega
          have e2 : IntKind.i64.wrap ((k : Int) + 1) = (k : Int) + 1 := i64_nat _ (by omega) (by omega)
          obtain ⟨s, hs⟩ : ∃ s, s = b / 2 ^ k := ⟨_, rfl⟩
          have hs8 : s < 256 := by rw [hs]; exact Nat.lt_of_le_of_lt (Nat.div_le_self _ _) HB.out.2.2.1
          have e3 : (b : Int) / 2 ^ k = (s : Int) := by
            rw [hs]
            generalize hp : (2 : Nat) ^ k = p
            have hp2 : (2 : Int) ^ k = (p : Int) := by rw [← hp]; simp
            rw [hp2]
            omega
          have e4 := bits32_xor s C (by omega) hC
          obtain ⟨X, hX⟩ : ∃ X, X = s ^^^ C := ⟨_, rfl⟩
          rw [← hX] at e4
          have e5 : (C : Int) / 2 = ((C / 2 : Nat) : Int) := by omega
          have e6 : (C : Int).tdiv 2 = ((C / 2 : Nat) : Int) := by rw [Int.tdiv_eq_ediv_of_nonneg (by omega)]; omega
          have HS := Lib.hid (feed_succ R b k)
          rw [← HC.out, ← hs, ← hX] at HS
          obtain ⟨D, hD⟩ : ∃ D, D = C / 2 := ⟨_, rfl⟩
          rw [← hD] at e5 e6 HS
          have e10 : (D : Int) % 4294967296 = (D : Int) := by omega
          have HK2 := Lib.hid (And.intro trivial hk)
          by_cases hodd : X % 2 = 1
          · have e7 : (X : Int) % 2 = 1 := by omega
            have e8 : (X : Int).tmod 2 = 1 := by rw [Int.tmod_eq_emod_of_nonneg (by omega)]; omega
            have e9 : bits .xor .u32 (D : Int) 3988292384 = ((D ^^^ 3988292384 : Nat) : Int) := bits32_xor D 3988292384 (by omega) (by omega)
            obtain ⟨Y, hY⟩ : ∃ Y, Y = D ^^^ 3988292384 := ⟨_, rfl⟩
            rw [← hY] at e9
            have HY := Lib.hid (show Y = Link.feed R b (k + 1) by rw [HS.out, if_pos hodd, hY]; rfl)
            clear hs hs8 hX hD hodd hY HS HC hC HK hk
            go_wp2
            go_round
            case rel => exact ⟨k + 1, Y, by go_num, rfl, ⟨trivial, HK2.out.2⟩, HY⟩
            case measure => have := HK2.out.2; simp [intOf]; omega
          · have e7 : (X : Int) % 2 = 0 := by omega
            have e8 : (X : Int).tmod 2 = 0 := by rw [Int.tmod_eq_emod_of_nonneg (by omega)]; omega
            have HY := Lib.hid (show D = Link.feed R b (k + 1) by rw [HS.out, if_neg hodd, Nat.xor_zero])
            clear hs hs8 hX hD hodd HS HC hC HK hk
            go_wp2
            go_round
            case rel => exact ⟨k + 1, D, by go_num, rfl, ⟨trivial, HK2.out.2⟩, HY⟩
            case measure => have := HK2.out.2; simp [intOf]; omega
        · obtain rfl : k = 8 := by have := HK.out.2; omega
          have HY := Lib.hid (show C = Link.reg 4294967295 f (i + 1) by rw [HC.out, Link.feed_byte _ _ HB.out.2.2.1, HB.out.2.1, HR.out]; rfl)
          clear hk HC hC
          go_wp2
          go_round
          case rel => exact ⟨i + 1, C, by go_num, rfl, ⟨trivial, HB.out.2.2.2.1⟩, HY⟩
          case measure => have := HB.out.2.2.2.1; simp [intOf]; omega
    · obtain rfl : i = n := by have := HI.out.2; omega
      have e1 := bits32_xor R 4294967295 hR (by omega)
      rw [HR.out] at e1
      have HR2 := Lib.hid (show R = Link.reg 4294967295 f i from HR.out)
      clear hR HR hlt
      have e2 : bits .xor .u32 (R : Int) 4294967295 = ((Link.reg 4294967295 f i ^^^ 4294967295 : Nat) : Int) := by rw [HR2.out]; exact e1
      clear e1
      go_wp2
      go_ret
      exact ⟨rfl, rfl⟩
theorem four_at (w : World) (a b c d : Nat) : AtBO (w.alloc (.cells #[.int .u8 (a : Int), .int .u8 (b : Int), .int .u8 (c : Int), .int .u8 (d : Int)] 5)) (some ⟨w.heap.size, 0, none⟩) 4 (fun i => if i = 0 then a else if i = 1 then b else if i = 2 then c else d) := fun i hi => by
  rcases (show i = 0 ∨ i = 1 ∨ i = 2 ∨ i = 3 by omega) with rfl | rfl | rfl | rfl
  · exact ⟨_, rfl, by simp [Addr.add]⟩
  · exact ⟨_, rfl, by simp [Addr.add]⟩
  · exact ⟨_, rfl, by simp [Addr.add]⟩
  · exact ⟨_, rfl, by simp [Addr.add]⟩
set_option maxHeartbeats 1000000 in
set_option maxRecDepth 100000 in
theorem four_any (x : Nat) (w : World) (hx : x < 4294967296) :
    Calls Tryd.prog 30 #[.int .u32 (x : Int)] w fun e w' => e = .returned (.string (strB 4 (Link.by4 x))) ∧ Below w.heap.size w w' := by
  obtain ⟨a, ha⟩ : ∃ a, a = Link.by4 x 0 := ⟨_, rfl⟩
  obtain ⟨b, hb⟩ : ∃ a, a = Link.by4 x 1 := ⟨_, rfl⟩
  obtain ⟨c, hc⟩ : ∃ a, a = Link.by4 x 2 := ⟨_, rfl⟩
  obtain ⟨d, hd⟩ : ∃ a, a = Link.by4 x 3 := ⟨_, rfl⟩
  have hA := four_at w a b c d
  have hbw : Below w.heap.size w (w.alloc (.cells #[.int .u8 (a : Int), .int .u8 (b : Int), .int .u8 (c : Int), .int .u8 (d : Int)] 5)) := (Below.refl _ _).alloc (Nat.le_refl _) _
  have hf : ∀ i, (if i = 0 then a else if i = 1 then b else if i = 2 then c else d) < 256 := fun i => by
    rw [ha, hb, hc, hd]
    have := Link.by4_lt x
    split
    · exact this 0
    · split
      · exact this 1
      · split
        · exact this 2
        · exact this 3
  have hcv := conv_B _ ⟨w.heap.size, 0, none⟩ 4 4 _ (fun i hi => by obtain ⟨ad, e, h⟩ := hA i hi; cases e; exact h) hf
  have hst : strB 4 (fun i => if i = 0 then a else if i = 1 then b else if i = 2 then c else d) = strB 4 (Link.by4 x) := strB_congr fun i hi => by
    rcases (show i = 0 ∨ i = 1 ∨ i = 2 ∨ i = 3 by omega) with rfl | rfl | rfl | rfl
    · exact ha
    · exact hb
    · exact hc
    · exact hd
  rw [hst] at hcv
  unfold Link.by4 at ha hb hc hd
  have a1 : (x : Int).tmod 256 = (a : Int) := by rw [Int.tmod_eq_emod_of_nonneg (by omega)]; omega
  have a2 : (x : Int).tdiv 256 = ((x / 256 : Nat) : Int) := by rw [Int.tdiv_eq_ediv_of_nonneg (by omega)]; omega
  have a3 : (x : Int).tdiv 65536 = ((x / 65536 : Nat) : Int) := by rw [Int.tdiv_eq_ediv_of_nonneg (by omega)]; omega
  have a4 : (x : Int).tdiv 16777216 = (d : Int) := by rw [Int.tdiv_eq_ediv_of_nonneg (by omega)]; omega
  obtain ⟨y, hy⟩ : ∃ y, y = x / 256 := ⟨_, rfl⟩
  obtain ⟨z, hz⟩ : ∃ y, y = x / 65536 := ⟨_, rfl⟩
  rw [← hy] at a2
  rw [← hz] at a3
  have b1 : (y : Int).tmod 256 = (b : Int) := by rw [Int.tmod_eq_emod_of_nonneg (by omega)]; omega
  have b2 : (z : Int).tmod 256 = (c : Int) := by rw [Int.tmod_eq_emod_of_nonneg (by omega)]; omega
  have c1 : (a : Int) % 256 = (a : Int) := by omega
  have c2 : (b : Int) % 256 = (b : Int) := by omega
  have c3 : (c : Int) % 256 = (c : Int) := by omega
  have c4 : (d : Int) % 256 = (d : Int) := by omega
  have d1 : (x : Int) % 256 = (a : Int) := by omega
  have d2 : (y : Int) % 256 = (b : Int) := by omega
  have d3 : (z : Int) % 256 = (c : Int) := by omega
  have d4 : (x : Int) / 256 = (y : Int) := by omega
  have d5 : (x : Int) / 65536 = (z : Int) := by omega
  have d6 : (x : Int) / 16777216 = (d : Int) := by omega
  have f1 : (y : Int) % 4294967296 = (y : Int) := by omega
  have f2 : (z : Int) % 4294967296 = (z : Int) := by omega
  have f3 : (d : Int) % 4294967296 = (d : Int) := by omega
  have HB := Lib.hid hbw
  clear hx ha hb hc hd hA hf hst hy hz hbw
  generalize strB 4 (Link.by4 x) = t at *
  go_enter Tryd.func30, Tryd.ntmps30
  go_wp2
  go_ret
  exact ⟨rfl, HB.out⟩
end Go.Proofs.YteadpnododjeaaaDoor
