/- The walk of the law AesFixedKey: it answers true, and makes new memory alone. -/
import Derived.Test.YtngghmjjeckmpaaAB9
import Derived.Test.YtngghmjjeckmpaaAQ0
import Derived.Test.YtngghmjjeckmpaaAL4
namespace Go.Proofs.Ytngghmjjeckmpaa
open Go.RowKit

theorem quiet_ne16 {C : World → Prop} {a : Act} {o : Oper} {K : Act → Prop} (x y : Operand) (ty : TypeId) (ho : o.op = .binOp .neq 22 x y ty) {f g : Nat → Nat} (hx : a.eval x = .agg (bys 16 f)) (hy : a.eval y = .agg (bys 16 g)) (hk : K (a.put o.dst (.bool (!eqB 16 f g)))) : o.quiet Try.prog a C K :=
  quiet_val _ (fun w _ => by
    unfold execOp
    have := run_eqlB w f g
    simp only [ho, hx, hy]
    simp [go_sem, this]) hk
/-- The law's arguments, and the key that it makes. -/
def F1 (w : World) (a b : Nat) (blk : Nat → Nat) (i : Nat) (wr : World) : Prop := Below w.heap.size w wr ∧ Lbl wr w.heap.size a b ∧ OwnB wr (w.heap.size + 1) 16 22 blk ∧ OwnB wr (w.heap.size + 2) 16 22 (upTo i (fun q => q) fun _ => 0)
theorem F1.start (w : World) (a b : Nat) (blk : Nat → Nat) : F1 w a b blk 0 (((w.alloc (.cells #[.int .u64 (a : Int), .int .u64 (b : Int)] 38)).alloc (.cells (bys 16 blk) 22)).alloc (.cells (bys 16 fun _ => 0) 22)) := by
  refine ⟨(((Below.refl _ _).alloc (Nat.le_refl _) _).alloc (by simp) _).alloc (by simp; omega) _, ((Lbl.new w a b).alloc _).alloc _, ?_, ?_⟩
  · have := OwnB.new (w.alloc (.cells #[.int .u64 (a : Int), .int .u64 (b : Int)] 38)) 16 22 blk
    simp only [World.size_alloc] at this
    exact this.alloc _
  · have := OwnB.new ((w.alloc (.cells #[.int .u64 (a : Int), .int .u64 (b : Int)] 38)).alloc (.cells (bys 16 blk) 22)) 16 22 fun _ => 0
    simp only [World.size_alloc] at this
    exact this
theorem F1.next {w w1 w2 : World} {a b i : Nat} {blk : Nat → Nat} (h : F1 w a b blk i w1) (hb : Below w1.heap.size w1 w2) : F1 w a b blk i w2 :=
  ⟨h.1.trans (hb.mono h.1.size), (hb.block _ h.2.1.lt).trans h.2.1, h.2.2.1.below hb h.2.2.1.lt, h.2.2.2.below hb h.2.2.2.lt⟩
/-- .. and two ciphers of the key 0 to 15. -/
def F2 (w : World) (a b : Nat) (blk k : Nat → Nat) (c d : Nat) (w' : World) : Prop := F1 w a b blk 16 w' ∧ Ciph w' c k ∧ Ciph w' d k
theorem F2.next {w w1 w2 : World} {a b : Nat} {blk k : Nat → Nat} {c d : Nat} (h : F2 w a b blk k c d w1) (hb : Below w1.heap.size w1 w2) : F2 w a b blk k c d w2 :=
  ⟨h.1.next hb, OwnB.below h.2.1 hb (OwnB.lt h.2.1), OwnB.below h.2.2 hb (OwnB.lt h.2.2)⟩
theorem F2.drawn {w w1 : World} {a b : Nat} {blk k : Nat → Nat} {c d : Nat} (h : F2 w a b blk k c d w1) : F2 w a b blk k c d { w1 with drawn := w1.drawn + 1 } := ⟨⟨h.1.1.drew, h.1.2⟩, h.2.1, h.2.2⟩
/-- .. and the doubled label with the tweak, and its block so far. -/
def F3 (w : World) (a b : Nat) (blk k : Nat → Nat) (c d x y g h : Nat) (f : Nat → Nat) (w' : World) : Prop := F2 w a b blk k c d w' ∧ Lbl w' g x y ∧ OwnB w' h 16 22 f ∧ w.heap.size + 2 < g ∧ g < h ∧ c < g ∧ d < g
theorem F3.next {w w1 w2 : World} {a b : Nat} {blk k : Nat → Nat} {c d x y g h : Nat} {f : Nat → Nat} (hh : F3 w a b blk k c d x y g h f w1) (hb : Below w1.heap.size w1 w2) : F3 w a b blk k c d x y g h f w2 :=
  ⟨hh.1.next hb, (hb.block _ hh.2.1.lt).trans hh.2.1, hh.2.2.1.below hb hh.2.2.1.lt, hh.2.2.2⟩
theorem F2.far {w w1 : World} {a b : Nat} {blk k : Nat → Nat} {c d : Nat} (h : F2 w a b blk k c d w1) {p : Addr} (hp : w.heap.size + 2 < p.block) (hc : c ≠ p.block) (hd : d ≠ p.block) (u : Value) : F2 w a b blk k c d (w1.setCell p u) :=
  ⟨⟨h.1.1.setCell (by omega) _, h.1.2.1.far (by omega) _, h.1.2.2.1.far (by omega) _, h.1.2.2.2.far (by omega) _⟩, OwnB.far h.2.1 hc _, OwnB.far h.2.2 hd _⟩
theorem F3.set {w wr : World} {a b : Nat} {blk k : Nat → Nat} {c d x y g h i : Nat} {v : Int} (hh : F3 w a b blk k c d x y g h (upTo i (Aes.labB x y) fun _ => 0) wr) (hx : v = (Aes.labB x y i : Int)) : F3 w a b blk k c d x y g h (upTo (i + 1) (Aes.labB x y) fun _ => 0) (wr.setCell ⟨h, i, none⟩ (.int .u8 v)) := by
  obtain ⟨h0, h1, h2, h3⟩ := hh
  subst hx
  exact ⟨h0.far (by simp; omega) (by simp; omega) (by simp; omega) _, h1.far (by simp; omega) _, (h2.set i _).congr fun q _ => upTo_step i (Aes.labB x y) (fun _ => 0) q, h3⟩
theorem F3.row {w wr : World} {a b : Nat} {blk k : Nat → Nat} {c d x y g h : Nat} {f : Nat → Nat} (hh : F3 w a b blk k c d x y g h f wr) (f' : Nat → Nat) : F3 w a b blk k c d x y g h f' (wr.setRow h (bys 16 f')) := by
  obtain ⟨⟨⟨h0, h1, h2, h3⟩, h4, h5⟩, h6, h7, h8⟩ := hh
  exact ⟨⟨⟨Below.row h0 (by omega) _, (setRow_other _ _ _ _ (by omega)).trans h1, h2.farRow (by omega) _, h3.farRow (by omega) _⟩, OwnB.farRow h4 (by omega) _, OwnB.farRow h5 (by omega) _⟩, (setRow_other _ _ _ _ (by omega)).trans h6, h7.setRow _, h8⟩
def F4 (w : World) (a b : Nat) (blk k : Nat → Nat) (c d x y g h : Nat) (f : Nat → Nat) (g14 p q : Nat) (w' : World) : Prop := F3 w a b blk k c d x y g h f w' ∧ Lbl w' g14 p q
theorem F4.drewN {w wr : World} {a b : Nat} {blk k : Nat → Nat} {c d x y g h : Nat} {f : Nat → Nat} {g14 p q : Nat} (hh : F4 w a b blk k c d x y g h f g14 p q wr) (n : Nat) : F4 w a b blk k c d x y g h f g14 p q (wr.drewN n) := by
  obtain ⟨⟨⟨⟨h0, h1⟩, h2⟩, h3⟩, h4⟩ := hh
  exact ⟨⟨⟨⟨⟨h0.os, h0.tape, h0.output, h0.size, h0.block⟩, h1⟩, h2⟩, h3⟩, h4⟩
theorem psum_byte (f : Nat → Nat) (o : Nat) (hf : ∀ i, f i < 256) : Aes.psum f o 8 / 1 % 256 = f o ∧ Aes.psum f o 8 / 256 % 256 = f (o + 1) ∧ Aes.psum f o 8 / 65536 % 256 = f (o + 2) ∧ Aes.psum f o 8 / 16777216 % 256 = f (o + 3) ∧ Aes.psum f o 8 / 4294967296 % 256 = f (o + 4) ∧ Aes.psum f o 8 / 1099511627776 % 256 = f (o + 5) ∧ Aes.psum f o 8 / 281474976710656 % 256 = f (o + 6) ∧ Aes.psum f o 8 / 72057594037927936 % 256 = f (o + 7) := by
  rw [Aes.psum8]
  have h0 := hf o
  have h1 := hf (o + 1)
  have h2 := hf (o + 2)
  have h3 := hf (o + 3)
  have h4 := hf (o + 4)
  have h5 := hf (o + 5)
  have h6 := hf (o + 6)
  have h7 := hf (o + 7)
  omega
theorem fk_words (k : Nat → Nat) (a b t x y : Nat) (E : Nat → Nat) (hxy : hs0 a b t = x ∧ hs1 a b = y) (hE : Aes.enc k (Aes.labB x y) = E) (p q : Nat) (hp : hashA k a b t = p) (hq : hashB k a b t = q) (hl : ∀ i, E i < 256) (b0 : x < 18446744073709551616) (b1 : y < 18446744073709551616) :
    bits .xor .u64 (p : Int) (x : Int) = (Aes.psum E 0 8 : Int) ∧ bits .xor .u64 (q : Int) (y : Int) = (Aes.psum E 8 8 : Int) := by
  obtain ⟨rfl, rfl⟩ := hxy
  subst hE hp hq
  have l0 := psum8_lt _ 0 hl
  have l1 := psum8_lt _ 8 hl
  unfold hashA hashB
  rw [bits_xor _ _ (xor_lt l0 b0) b0, bits_xor _ _ (xor_lt l1 b1) b1, Nat.xor_assoc, Nat.xor_assoc, Nat.xor_self, Nat.xor_self, Nat.xor_zero, Nat.xor_zero]
  exact ⟨rfl, rfl⟩
set_option maxHeartbeats 8000000 in
set_option maxRecDepth 100000 in
theorem fixedKey_walk (a b t : Nat) (blk : Nat → Nat) (w : World) (ha : a < 18446744073709551616) (hb : b < 18446744073709551616) (ht : t < 18446744073709551616) (hblk : ∀ i, blk i < 256) :
    Calls Try.prog 7 #[labN a b, .int .u64 (t : Int), .agg (bys 16 blk)] w fun e w' => e = .returned (.bool true) ∧ Below w.heap.size w w' := by
  have HB := Lib.hid (And.intro hblk (And.intro ha (And.intro hb ht)))
  clear hblk ha hb ht
  go_enter Try.func7, Try.ntmps7
  go_wp2
  go_loopw [16] (fun t' wr => ∃ i : Nat, i ≤ 16 ∧ t' = .int .i64 i ∧ Hid (F1 w a b blk i wr)) (fun t' _ => 16 - (intOf t').toNat)
  case atStart => exact ⟨0, by omega, rfl, F1.start w a b blk⟩
  case round =>
    obtain ⟨i, hi, rfl, HH⟩ := hrel
    by_cases hlt : i < 16
    · have c1 : wr.cell? ⟨w.heap.size + 2, i, none⟩ = some (.int .u8 0) := by rw [HH.out.2.2.2.cell i hlt, upTo_at]; rfl
      have c2 := HH.out.2.2.2.frozen i
      go_wp2
      go_roundw
      case rel =>
        obtain ⟨h0, h1, h2, h3⟩ := HH.out
        exact ⟨i + 1, by omega, by go_num, h0.setCell (by simp; omega) _, h1.far (by simp; omega) _, h2.far (by simp) _, (h3.set i i).congr fun q _ => upTo_step i (fun q => q) (fun _ => 0) q⟩
      case measure => simp [intOf]; omega
    · obtain rfl : i = 16 := by omega
      have h3 := HH.out.2.2.2
      go_wp2_with (refine ld_row 22 16 _ Try.underlying22 Try.info22 rfl _ rfl _ rfl h3 ?_)
      clear h3
      refine (new_made kf _ kf_lt).mono ?_
      rintro e wA ⟨gA, rfl, hm⟩
      have HA := Lib.hid (And.intro (HH.out.next hm.2.2) hm)
      clear HH hm
      go_wp2_with fail
      refine (fixed_any _).mono ?_
      rintro e wB ⟨gB, rfl, hm⟩
      obtain ⟨k, hk⟩ : ∃ k, Aes.ks kf = k := ⟨_, rfl⟩
      have HK := Lib.hid (show ∀ i, k i < 256 by rw [← hk]; exact Aes.ks_lt kf kf_lt)
      have H2 := Lib.hid (show F2 w a b blk k gA gB wB by rw [← hk]; exact ⟨HA.out.1.next hm.2.2, OwnB.below HA.out.2.2.1 hm.2.2 (OwnB.lt HA.out.2.2.1), hm.2.1⟩)
      clear HA hm hk
      go_wp2
      have q2 := eqB_self 16 (Aes.enc k blk)
      refine region_quiet (C := F2 w a b blk k gA gB) (by kernel_rfl) (by kernel_rfl) H2.out.drawn ?_
      go_big_quiet_want; refine quiet_call _ _ (.bool true) (fun w => by go_simp) (fun w' h => (awake_any w').mono fun _ _ ⟨he, hb⟩ => ⟨he, h.next hb⟩) ?_; (simp only [Act.put, List.setIfInBounds_toArray, List.set_cons_zero, List.set_cons_succ]); go_big_quiet_on
      go_big_quiet_want; refine quiet_val (.bool false) (fun w' h => by go_simp) ?_; (simp only [Act.put, List.setIfInBounds_toArray, List.set_cons_zero, List.set_cons_succ]); go_big_quiet_on
      go_big_quiet_want; go_big_quiet_op; go_big_quiet_on
      go_big_quiet_want; go_big_quiet_op; go_big_quiet_on
      go_big_quiet_want; refine quiet_val (.bool false) (fun w' h => by go_simp) ?_; (simp only [Act.put, List.setIfInBounds_toArray, List.set_cons_zero, List.set_cons_succ]); go_big_quiet_on
      go_big_quiet_want; refine quiet_val (.bool false) (fun w' h => by go_simp) ?_; (simp only [Act.put, List.setIfInBounds_toArray, List.set_cons_zero, List.set_cons_succ]); go_big_quiet_on
      go_big_quiet_want; go_big_quiet_op; go_big_quiet_on
      go_big_quiet_want; go_big_quiet_op; go_big_quiet_on
      go_big_quiet_want; refine quiet_val (.bool false) (fun w' h => by go_simp) ?_; (simp only [Act.put, List.setIfInBounds_toArray, List.set_cons_zero, List.set_cons_succ]); go_big_quiet_on
      go_big_quiet_want; refine quiet_val (.bool false) (fun w' h => by go_simp) ?_; (simp only [Act.put, List.setIfInBounds_toArray, List.set_cons_zero, List.set_cons_succ]); go_big_quiet_on
      go_big_quiet_want; go_big_quiet_op; go_big_quiet_on
      go_big_quiet_want; go_big_quiet_op; go_big_quiet_on
      go_big_quiet_want; refine quiet_ld 22 16 _ Try.underlying22 Try.info22 _ rfl _ rfl (fun w' h => h.1.2.2.1) ?_; (simp only [Act.put, List.setIfInBounds_toArray, List.set_cons_zero, List.set_cons_succ]); go_big_quiet_on
      go_big_quiet_want; refine quiet_call _ _ (.agg (bys 16 (Aes.enc k blk))) (fun w => by go_simp) (fun w' h => (encrypt_any gA k blk w' h.2.1 HB.out.1 HK.out).mono fun _ _ ⟨he, hb⟩ => ⟨he, h.next hb⟩) ?_; (simp only [Act.put, List.setIfInBounds_toArray, List.set_cons_zero, List.set_cons_succ]); go_big_quiet_on
      go_big_quiet_want; go_big_quiet_op; go_big_quiet_on
      go_big_quiet_want; refine quiet_ld 22 16 _ Try.underlying22 Try.info22 _ rfl _ rfl (fun w' h => h.1.2.2.1) ?_; (simp only [Act.put, List.setIfInBounds_toArray, List.set_cons_zero, List.set_cons_succ]); go_big_quiet_on
      go_big_quiet_want; refine quiet_call _ _ (.agg (bys 16 (Aes.enc k blk))) (fun w => by go_simp) (fun w' h => (encrypt_any gB k blk w' h.2.2 HB.out.1 HK.out).mono fun _ _ ⟨he, hb⟩ => ⟨he, h.next hb⟩) ?_; (simp only [Act.put, List.setIfInBounds_toArray, List.set_cons_zero, List.set_cons_succ]); go_big_quiet_on
      go_big_quiet_want; refine quiet_ne16 _ _ _ rfl rfl rfl ?_; (simp only [Act.put, List.setIfInBounds_toArray, List.set_cons_zero, List.set_cons_succ]); go_big_quiet_on
      go_big_quiet_want; refine quiet_val (.bool false) (fun w' h => by go_simp) ?_; (simp only [Act.put, List.setIfInBounds_toArray, List.set_cons_zero, List.set_cons_succ]); go_big_quiet_on
      refine wpQuiet_nil ?_
      intro w1 hw1
      have H3 := Lib.hid hw1
      clear q2 hw1 H2
      have cl0 := H3.out.1.2.1.cell0
      have cl1 := H3.out.1.2.1.cell1
      go_wp2_with fail
      refine (doubleN_any a b (dloN a b) (hs1 a b) _ HB.out.2.1 HB.out.2.2.1 rfl rfl).mono ?_
      rintro e w2 ⟨rfl, hb2⟩
      have H4 := Lib.hid (H3.out.next hb2)
      clear cl0 cl1 H3 hb2
      go_wp2
      have hX := bits_xor (dloN a b) t (dloN_lt a b) HB.out.2.2.2
      have gl := OwnB.lt H4.out.2.1
      have gl2 := OwnB.lt H4.out.2.2
      have gl3 := OwnB.lt H4.out.1.2.2.2
      have H5 := Lib.hid (show F3 w a b blk k gA gB (hs0 a b t) (hs1 a b) w2.heap.size (w2.heap.size + 1) (upTo 0 (Aes.labB (hs0 a b t) (hs1 a b)) fun _ => 0)
          ((w2.alloc (.cells #[.int .u64 (bits .xor .u64 (dloN a b : Int) (t : Int)), .int .u64 (hs1 a b : Int)] 38)).alloc (.cells (bys 16 fun _ => 0) 22)) by
        rw [hX]
        have o1 := OwnB.new (w2.alloc (.cells #[.int .u64 ((dloN a b ^^^ t : Nat) : Int), .int .u64 (hs1 a b : Int)] 38)) 16 22 fun _ => 0
        simp only [World.size_alloc] at o1
        exact ⟨(H4.out.next ((Below.refl _ _).alloc (Nat.le_refl _) _)).next ((Below.refl _ _).alloc (Nat.le_refl _) _), (Lbl.new w2 _ _).alloc _, o1, by omega, by omega, by omega, by omega⟩)
      clear H4 hX gl gl2 gl3
      generalize w2.heap.size = g11 at H5 ⊢
      obtain ⟨g12, hg12⟩ : ∃ g12, g11 + 1 = g12 := ⟨_, rfl⟩
      rw [hg12] at H5 ⊢
      clear hg12
      go_loopw [53] (fun t' wr => ∃ i : Nat, i ≤ 16 ∧ t' = .int .i64 i ∧ Hid (F3 w a b blk k gA gB (hs0 a b t) (hs1 a b) g11 g12 (upTo i (Aes.labB (hs0 a b t) (hs1 a b)) fun _ => 0) wr)) (fun t' _ => 16 - (intOf t').toNat)
      case atStart => exact ⟨0, by omega, rfl, H5⟩
      case round =>
        clear H5
        obtain ⟨i, hi, rfl, HH⟩ := hrel
        have b0 : hs0 a b t < 18446744073709551616 := hs0_lt HB.out.2.2.2
        have b1 : hs1 a b < 18446744073709551616 := hs1_lt HB.out.2.1
        obtain ⟨x, hx⟩ : ∃ x, hs0 a b t = x := ⟨_, rfl⟩
        obtain ⟨y, hy⟩ : ∃ y, hs1 a b = y := ⟨_, rfl⟩
        rw [hx] at b0 HH
        rw [hy] at b1 HH
        have HXY := Lib.hid (And.intro hx hy)
        by_cases hlt : i < 16
        · have c0 := HH.out.2.1.cell0
          have c1 := HH.out.2.1.cell1
          have c2 : wr.cell? ⟨g12, i, none⟩ = some (.int .u8 0) := by rw [HH.out.2.2.1.cell i hlt, upTo_at]; rfl
          have c3 := HH.out.2.2.1.frozen i
          rw [hx, hy]
          clear hx hy
          rcases (show i = 0 ∨ i = 1 ∨ i = 2 ∨ i = 3 ∨ i = 4 ∨ i = 5 ∨ i = 6 ∨ i = 7 ∨ i = 8 ∨ i = 9 ∨ i = 10 ∨ i = 11 ∨ i = 12 ∨ i = 13 ∨ i = 14 ∨ i = 15 by omega) with rfl | rfl | rfl | rfl | rfl | rfl | rfl | rfl | rfl | rfl | rfl | rfl | rfl | rfl | rfl | rfl
          · go_wp2
            go_roundw
            case rel => exact ⟨1, by omega, rfl, F3.set HH.out (by show _ = ((x / 1 % 256 : Nat) : Int); omega)⟩
            case measure => simp [intOf]
          · go_wp2
            go_roundw
            case rel => exact ⟨2, by omega, rfl, F3.set HH.out (by show _ = ((x / 256 % 256 : Nat) : Int); omega)⟩
            case measure => simp [intOf]
          · go_wp2
            go_roundw
            case rel => exact ⟨3, by omega, rfl, F3.set HH.out (by show _ = ((x / 65536 % 256 : Nat) : Int); omega)⟩
            case measure => simp [intOf]
          · go_wp2
            go_roundw
            case rel => exact ⟨4, by omega, rfl, F3.set HH.out (by show _ = ((x / 16777216 % 256 : Nat) : Int); omega)⟩
            case measure => simp [intOf]
          · go_wp2
            go_roundw
            case rel => exact ⟨5, by omega, rfl, F3.set HH.out (by show _ = ((x / 4294967296 % 256 : Nat) : Int); omega)⟩
            case measure => simp [intOf]
          · go_wp2
            go_roundw
            case rel => exact ⟨6, by omega, rfl, F3.set HH.out (by show _ = ((x / 1099511627776 % 256 : Nat) : Int); omega)⟩
            case measure => simp [intOf]
          · go_wp2
            go_roundw
            case rel => exact ⟨7, by omega, rfl, F3.set HH.out (by show _ = ((x / 281474976710656 % 256 : Nat) : Int); omega)⟩
            case measure => simp [intOf]
          · go_wp2
            go_roundw
            case rel => exact ⟨8, by omega, rfl, F3.set HH.out (by show _ = ((x / 72057594037927936 % 256 : Nat) : Int); omega)⟩
            case measure => simp [intOf]
          · go_wp2
            go_roundw
            case rel => exact ⟨9, by omega, rfl, F3.set HH.out (by show _ = ((y / 1 % 256 : Nat) : Int); omega)⟩
            case measure => simp [intOf]
          · go_wp2
            go_roundw
            case rel => exact ⟨10, by omega, rfl, F3.set HH.out (by show _ = ((y / 256 % 256 : Nat) : Int); omega)⟩
            case measure => simp [intOf]
          · go_wp2
            go_roundw
            case rel => exact ⟨11, by omega, rfl, F3.set HH.out (by show _ = ((y / 65536 % 256 : Nat) : Int); omega)⟩
            case measure => simp [intOf]
          · go_wp2
            go_roundw
            case rel => exact ⟨12, by omega, rfl, F3.set HH.out (by show _ = ((y / 16777216 % 256 : Nat) : Int); omega)⟩
            case measure => simp [intOf]
          · go_wp2
            go_roundw
            case rel => exact ⟨13, by omega, rfl, F3.set HH.out (by show _ = ((y / 4294967296 % 256 : Nat) : Int); omega)⟩
            case measure => simp [intOf]
          · go_wp2
            go_roundw
            case rel => exact ⟨14, by omega, rfl, F3.set HH.out (by show _ = ((y / 1099511627776 % 256 : Nat) : Int); omega)⟩
            case measure => simp [intOf]
          · go_wp2
            go_roundw
            case rel => exact ⟨15, by omega, rfl, F3.set HH.out (by show _ = ((y / 281474976710656 % 256 : Nat) : Int); omega)⟩
            case measure => simp [intOf]
          · go_wp2
            go_roundw
            case rel => exact ⟨16, by omega, rfl, F3.set HH.out (by show _ = ((y / 72057594037927936 % 256 : Nat) : Int); omega)⟩
            case measure => simp [intOf]
        · obtain rfl : i = 16 := by omega
          have h3 := HH.out.2.2.1
          rw [hx, hy]
          clear hx hy
          go_wp2_with (refine ld_row 22 16 _ Try.underlying22 Try.info22 rfl _ rfl _ rfl h3 ?_)
          clear h3
          rw [show (bys 16 (upTo 16 (Aes.labB x y) fun _ => 0)) = bys 16 (Aes.labB x y) from bys_congr fun q hq => upTo_full 16 _ _ q hq]
          refine (encrypt_any gA k (Aes.labB x y) _ HH.out.1.2.1 (Aes.labB_lt x y) HK.out).mono ?_
          rintro e w4 ⟨rfl, hb4⟩
          have H6 := HH.out.next hb4
          have h4 := H6.2.2.1
          obtain ⟨E, hE⟩ : ∃ E, Aes.enc k (Aes.labB x y) = E := ⟨_, rfl⟩
          rw [hE]
          have HEL := Lib.hid (show ∀ i, E i < 256 by rw [← hE]; exact enc_lt HK.out (Aes.labB_lt x y))
          have H7 := Lib.hid (show F3 w a b blk k gA gB x y g11 g12 E (w4.setRow g12 (bys 16 E)) from F3.row H6 E)
          have HEQ := Lib.hid hE
          clear HH hb4 H6 hE
          have cl0 := H7.out.1.1.2.1.cell0
          have cl1 := H7.out.1.1.2.1.cell1
          go_wp2_with (refine st_row 22 16 Try.info22 rfl _ _ rfl _ rfl rfl h4 ?_)
          clear h4
          refine (hash_any gB k a b t _ H7.out.1.2.2 HK.out HB.out.2.1 HB.out.2.2.1 HB.out.2.2.2).mono ?_
          rintro e w6 ⟨rfl, hb6⟩
          have H8 := Lib.hid (H7.out.next hb6)
          clear H7 hb6 cl0 cl1
          obtain ⟨p, hp⟩ : ∃ p, hashA k a b t = p := ⟨_, rfl⟩
          obtain ⟨q, hq⟩ : ∃ q, hashB k a b t = q := ⟨_, rfl⟩
          have HP := Lib.hid (fk_words k a b t x y E HXY.out HEQ.out p q hp hq HEL.out b0 b1)
          rw [hp, hq]
          clear hp hq HEQ
          go_wp2
          have H9 := Lib.hid (show F4 w a b blk k gA gB x y g11 g12 E w6.heap.size p q (w6.alloc (.cells #[.int .u64 (p : Int), .int .u64 (q : Int)] 38)) from
            ⟨H8.out.next ((Below.refl _ _).alloc (Nat.le_refl _) _), Lbl.new w6 _ _⟩)
          clear H8
          generalize (w6.alloc (.cells #[.int .u64 (p : Int), .int .u64 (q : Int)] 38)) = w7 at H9 ⊢
          generalize w6.heap.size = g14 at H9 ⊢
          go_loopw [75] (fun t' wr => ∃ i : Nat, i ≤ 16 ∧ t' = .int .i64 i ∧ Hid (F4 w a b blk k gA gB x y g11 g12 E g14 p q wr)) (fun t' _ => 16 - (intOf t').toNat)
          case atStart => exact ⟨0, by omega, rfl, H9⟩
          case round =>
            clear H9
            obtain ⟨i, hi, rfl, HH⟩ := hrel
            have d0 := HH.out.2.cell0
            have d1 := HH.out.2.cell1
            have c0 := HH.out.1.2.1.cell0
            have c1 := HH.out.1.2.1.cell1
            have x0 := HP.out.1
            have x1 := HP.out.2
            by_cases hlt : i < 16
            · have c2 := HH.out.1.2.2.1.cell i hlt
              rcases (show i = 0 ∨ i = 1 ∨ i = 2 ∨ i = 3 ∨ i = 4 ∨ i = 5 ∨ i = 6 ∨ i = 7 ∨ i = 8 ∨ i = 9 ∨ i = 10 ∨ i = 11 ∨ i = 12 ∨ i = 13 ∨ i = 14 ∨ i = 15 by omega) with rfl | rfl | rfl | rfl | rfl | rfl | rfl | rfl | rfl | rfl | rfl | rfl | rfl | rfl | rfl | rfl
              · have z0 : IntKind.i64.wrap 0 = 0 := rfl
                have z1 : IntKind.i64.wrap 0 = 0 := rfl
                have yb : ((Aes.psum E 0 8 : Int) % 256 != (E 0 : Int)) = false := by
                  have h : Aes.psum E 0 8 / 1 % 256 = E 0 := (psum_byte E 0 HEL.out).1
                  rw [← h]; simp
                go_wp2
                go_quiet (fail)
                go_wp2
                go_roundw
                case rel => exact ⟨1, by omega, rfl, F4.drewN HH.out nq⟩
                case measure => simp [intOf]
              · have z0 : IntKind.i64.wrap 0 = 0 := rfl
                have z1 : IntKind.i64.wrap 8 = 8 := rfl
                have yb : ((Aes.psum E 0 8 : Int) / 256 % 256 != (E 1 : Int)) = false := by
                  have h : Aes.psum E 0 8 / 256 % 256 = E 1 := (psum_byte E 0 HEL.out).2.1
                  rw [← h]; simp
                go_wp2
                go_quiet (fail)
                go_wp2
                go_roundw
                case rel => exact ⟨2, by omega, rfl, F4.drewN HH.out nq⟩
                case measure => simp [intOf]
              · have z0 : IntKind.i64.wrap 0 = 0 := rfl
                have z1 : IntKind.i64.wrap 16 = 16 := rfl
                have yb : ((Aes.psum E 0 8 : Int) / 65536 % 256 != (E 2 : Int)) = false := by
                  have h : Aes.psum E 0 8 / 65536 % 256 = E 2 := (psum_byte E 0 HEL.out).2.2.1
                  rw [← h]; simp
                go_wp2
                go_quiet (fail)
                go_wp2
                go_roundw
                case rel => exact ⟨3, by omega, rfl, F4.drewN HH.out nq⟩
                case measure => simp [intOf]
              · have z0 : IntKind.i64.wrap 0 = 0 := rfl
                have z1 : IntKind.i64.wrap 24 = 24 := rfl
                have yb : ((Aes.psum E 0 8 : Int) / 16777216 % 256 != (E 3 : Int)) = false := by
                  have h : Aes.psum E 0 8 / 16777216 % 256 = E 3 := (psum_byte E 0 HEL.out).2.2.2.1
                  rw [← h]; simp
                go_wp2
                go_quiet (fail)
                go_wp2
                go_roundw
                case rel => exact ⟨4, by omega, rfl, F4.drewN HH.out nq⟩
                case measure => simp [intOf]
              · have z0 : IntKind.i64.wrap 0 = 0 := rfl
                have z1 : IntKind.i64.wrap 32 = 32 := rfl
                have yb : ((Aes.psum E 0 8 : Int) / 4294967296 % 256 != (E 4 : Int)) = false := by
                  have h : Aes.psum E 0 8 / 4294967296 % 256 = E 4 := (psum_byte E 0 HEL.out).2.2.2.2.1
                  rw [← h]; simp
                go_wp2
                go_quiet (fail)
                go_wp2
                go_roundw
                case rel => exact ⟨5, by omega, rfl, F4.drewN HH.out nq⟩
                case measure => simp [intOf]
              · have z0 : IntKind.i64.wrap 0 = 0 := rfl
                have z1 : IntKind.i64.wrap 40 = 40 := rfl
                have yb : ((Aes.psum E 0 8 : Int) / 1099511627776 % 256 != (E 5 : Int)) = false := by
                  have h : Aes.psum E 0 8 / 1099511627776 % 256 = E 5 := (psum_byte E 0 HEL.out).2.2.2.2.2.1
                  rw [← h]; simp
                go_wp2
                go_quiet (fail)
                go_wp2
                go_roundw
                case rel => exact ⟨6, by omega, rfl, F4.drewN HH.out nq⟩
                case measure => simp [intOf]
              · have z0 : IntKind.i64.wrap 0 = 0 := rfl
                have z1 : IntKind.i64.wrap 48 = 48 := rfl
                have yb : ((Aes.psum E 0 8 : Int) / 281474976710656 % 256 != (E 6 : Int)) = false := by
                  have h : Aes.psum E 0 8 / 281474976710656 % 256 = E 6 := (psum_byte E 0 HEL.out).2.2.2.2.2.2.1
                  rw [← h]; simp
                go_wp2
                go_quiet (fail)
                go_wp2
                go_roundw
                case rel => exact ⟨7, by omega, rfl, F4.drewN HH.out nq⟩
                case measure => simp [intOf]
              · have z0 : IntKind.i64.wrap 0 = 0 := rfl
                have z1 : IntKind.i64.wrap 56 = 56 := rfl
                have yb : ((Aes.psum E 0 8 : Int) / 72057594037927936 % 256 != (E 7 : Int)) = false := by
                  have h : Aes.psum E 0 8 / 72057594037927936 % 256 = E 7 := (psum_byte E 0 HEL.out).2.2.2.2.2.2.2
                  rw [← h]; simp
                go_wp2
                go_quiet (fail)
                go_wp2
                go_roundw
                case rel => exact ⟨8, by omega, rfl, F4.drewN HH.out nq⟩
                case measure => simp [intOf]
              · have z0 : IntKind.i64.wrap 1 = 1 := rfl
                have z1 : IntKind.i64.wrap 0 = 0 := rfl
                have yb : ((Aes.psum E 8 8 : Int) % 256 != (E 8 : Int)) = false := by
                  have h : Aes.psum E 8 8 / 1 % 256 = E 8 := (psum_byte E 8 HEL.out).1
                  rw [← h]; simp
                go_wp2
                go_quiet (fail)
                go_wp2
                go_roundw
                case rel => exact ⟨9, by omega, rfl, F4.drewN HH.out nq⟩
                case measure => simp [intOf]
              · have z0 : IntKind.i64.wrap 1 = 1 := rfl
                have z1 : IntKind.i64.wrap 8 = 8 := rfl
                have yb : ((Aes.psum E 8 8 : Int) / 256 % 256 != (E 9 : Int)) = false := by
                  have h : Aes.psum E 8 8 / 256 % 256 = E 9 := (psum_byte E 8 HEL.out).2.1
                  rw [← h]; simp
                go_wp2
                go_quiet (fail)
                go_wp2
                go_roundw
                case rel => exact ⟨10, by omega, rfl, F4.drewN HH.out nq⟩
                case measure => simp [intOf]
              · have z0 : IntKind.i64.wrap 1 = 1 := rfl
                have z1 : IntKind.i64.wrap 16 = 16 := rfl
                have yb : ((Aes.psum E 8 8 : Int) / 65536 % 256 != (E 10 : Int)) = false := by
                  have h : Aes.psum E 8 8 / 65536 % 256 = E 10 := (psum_byte E 8 HEL.out).2.2.1
                  rw [← h]; simp
                go_wp2
                go_quiet (fail)
                go_wp2
                go_roundw
                case rel => exact ⟨11, by omega, rfl, F4.drewN HH.out nq⟩
                case measure => simp [intOf]
              · have z0 : IntKind.i64.wrap 1 = 1 := rfl
                have z1 : IntKind.i64.wrap 24 = 24 := rfl
                have yb : ((Aes.psum E 8 8 : Int) / 16777216 % 256 != (E 11 : Int)) = false := by
                  have h : Aes.psum E 8 8 / 16777216 % 256 = E 11 := (psum_byte E 8 HEL.out).2.2.2.1
                  rw [← h]; simp
                go_wp2
                go_quiet (fail)
                go_wp2
                go_roundw
                case rel => exact ⟨12, by omega, rfl, F4.drewN HH.out nq⟩
                case measure => simp [intOf]
              · have z0 : IntKind.i64.wrap 1 = 1 := rfl
                have z1 : IntKind.i64.wrap 32 = 32 := rfl
                have yb : ((Aes.psum E 8 8 : Int) / 4294967296 % 256 != (E 12 : Int)) = false := by
                  have h : Aes.psum E 8 8 / 4294967296 % 256 = E 12 := (psum_byte E 8 HEL.out).2.2.2.2.1
                  rw [← h]; simp
                go_wp2
                go_quiet (fail)
                go_wp2
                go_roundw
                case rel => exact ⟨13, by omega, rfl, F4.drewN HH.out nq⟩
                case measure => simp [intOf]
              · have z0 : IntKind.i64.wrap 1 = 1 := rfl
                have z1 : IntKind.i64.wrap 40 = 40 := rfl
                have yb : ((Aes.psum E 8 8 : Int) / 1099511627776 % 256 != (E 13 : Int)) = false := by
                  have h : Aes.psum E 8 8 / 1099511627776 % 256 = E 13 := (psum_byte E 8 HEL.out).2.2.2.2.2.1
                  rw [← h]; simp
                go_wp2
                go_quiet (fail)
                go_wp2
                go_roundw
                case rel => exact ⟨14, by omega, rfl, F4.drewN HH.out nq⟩
                case measure => simp [intOf]
              · have z0 : IntKind.i64.wrap 1 = 1 := rfl
                have z1 : IntKind.i64.wrap 48 = 48 := rfl
                have yb : ((Aes.psum E 8 8 : Int) / 281474976710656 % 256 != (E 14 : Int)) = false := by
                  have h : Aes.psum E 8 8 / 281474976710656 % 256 = E 14 := (psum_byte E 8 HEL.out).2.2.2.2.2.2.1
                  rw [← h]; simp
                go_wp2
                go_quiet (fail)
                go_wp2
                go_roundw
                case rel => exact ⟨15, by omega, rfl, F4.drewN HH.out nq⟩
                case measure => simp [intOf]
              · have z0 : IntKind.i64.wrap 1 = 1 := rfl
                have z1 : IntKind.i64.wrap 56 = 56 := rfl
                have yb : ((Aes.psum E 8 8 : Int) / 72057594037927936 % 256 != (E 15 : Int)) = false := by
                  have h : Aes.psum E 8 8 / 72057594037927936 % 256 = E 15 := (psum_byte E 8 HEL.out).2.2.2.2.2.2.2
                  rw [← h]; simp
                go_wp2
                go_quiet (fail)
                go_wp2
                go_roundw
                case rel => exact ⟨16, by omega, rfl, F4.drewN HH.out nq⟩
                case measure => simp [intOf]
            · have HW := Lib.hid HH.out.1.1.1.1
              clear HH d0 d1 c0 c1 x0 x1
              go_wp2
              go_ret
              exact ⟨rfl, HW.out⟩
end Go.Proofs.Ytngghmjjeckmpaa
