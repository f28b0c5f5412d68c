/- Contracts of Digest: the program's and the document's. -/
import Derived.Test.YtoeohodajoibjaaDoorBL1
import Derived.Test.YtoeohodajoibjaaDoorWireMath
import Derived.Deep.LoopGhost
namespace Go.Proofs.YtoeohodajoibjaaDoor
open Go.RowKit

/-- Bytes that are read from where a list begins, if it has any. -/
def AtBO (w : World) (A : Option Addr) (n : Nat) (f : Nat → Nat) : Prop := ∀ i, i < n → ∃ ad, A = some ad ∧ w.cell? (ad.add i) = some (.int .u8 (f i : Int))
theorem AtB.opt {w : World} {ad : Addr} {n : Nat} {f : Nat → Nat} (h : AtB w ad n f) : AtBO w (some ad) n f := fun i hi => ⟨ad, rfl, h i hi⟩
theorem AtBO.none {w : World} {A : Option Addr} {f : Nat → Nat} : AtBO w A 0 f := fun i hi => absurd hi (by omega)
theorem AtBO.below {w w' : World} {A : Option Addr} {n : Nat} {f : Nat → Nat} (h : AtBO w A n f) (hb : Below w.heap.size w w') : AtBO w' A n f := fun i hi => by
  obtain ⟨ad, e, hc⟩ := h i hi
  exact ⟨ad, e, (hb.cell (World.block_lt_of_cell? _ _ hc)).trans hc⟩
theorem AtBO.congr {w : World} {A : Option Addr} {n : Nat} {f g : Nat → Nat} (h : AtBO w A n f) (hf : ∀ i, i < n → f i = g i) : AtBO w A n g := fun i hi => by
  obtain ⟨ad, e, hc⟩ := h i hi
  exact ⟨ad, e, by rw [← hf i hi]; exact hc⟩
/-- Block g is an array of two words. -/
def Arr (w : World) (g : Nat) (a : Nat → Nat) : Prop := w.heap[g]? = some (.cells #[.int .u64 (a 0 : Int), .int .u64 (a 1 : Int)] 47 (0, 0))
section
variable {w w' : World} {g : Nat} {a b : Nat → Nat}
theorem Arr.lt (h : Arr w g a) : g < w.heap.size := (Array.getElem?_eq_some_iff.1 h).1
theorem Arr.cell (h : Arr w g a) (k : Nat) (hk : k < 2) : w.cell? ⟨g, k, none⟩ = some (.int .u64 (a k : Int)) := by
  rw [cell_of_row w g k _ 47 (0, 0) h]
  rcases k with _ | _ | k
  · rfl
  · rfl
  · omega
theorem Arr.frozen (h : Arr w g a) (i : Nat) : w.frozen? ⟨g, i, none⟩ = false := by unfold Arr at h; simp [World.frozen?, h]
theorem Arr.set (h : Arr w g a) (k x : Nat) (hk : k < 2) : Arr (w.setCell ⟨g, k, none⟩ (.int .u64 (x : Int))) g (fun q => if q = k then x else a q) := by
  unfold Arr at h ⊢
  rcases k with _ | _ | k
  · simp [World.setCell, Array.getElem?_modify, h]
  · simp [World.setCell, Array.getElem?_modify, h]
  · omega
theorem Arr.congr (h : Arr w g a) (hab : ∀ q, q < 2 → a q = b q) : Arr w g b := by
  unfold Arr at h ⊢
  rw [h, hab 0 (by omega), hab 1 (by omega)]
theorem Arr.far (h : Arr w g a) {p : Addr} (hp : g ≠ p.block) (u : Value) : Arr (w.setCell p u) g a := (Below.heap_setCell w p u g hp).trans h
theorem Arr.alloc (h : Arr w g a) (o : Obj) : Arr (w.alloc o) g a := (Below.heap_alloc w o g h.lt).trans h
theorem Arr.below {B : Nat} (h : Arr w g a) (hb : Below B w w') (hg : g < B) : Arr w' g a := (hb.block g hg).trans h
theorem Arr.new (w : World) (a : Nat → Nat) : Arr (w.alloc (.cells #[.int .u64 (a 0 : Int), .int .u64 (a 1 : Int)] 47)) w.heap.size a := heap_alloc_new w _
end
/-- What a digest begins with. -/
def st (k : Nat) : Nat := 14695981039346656037 + k
theorem st_lt (k : Nat) (h : k < 2) : st k < 18446744073709551616 := by unfold st; omega
theorem st_wrap (k : Nat) (h : k < 2) : IntKind.u64.wrap (14695981039346656037 + (k : Int)) = (st k : Int) := by rw [u64w]; unfold st; omega
def dg (f : Nat → Nat) (n k : Nat) : Nat := Wire.fnv (st k) f n
/-- The loops' memory: the answer's cells are still 0, those of the digests are a. -/
def DgI (w : World) (a : Nat → Nat) (wr : World) : Prop := Below w.heap.size w wr ∧ Arr wr w.heap.size (fun _ => 0) ∧ Arr wr (w.heap.size + 1) a
theorem DgI.set {w wr : World} {a : Nat → Nat} (h : DgI w a wr) (k x : Nat) (hk : k < 2) : DgI w (fun q => if q = k then x else a q) (wr.setCell ⟨w.heap.size + 1, k, none⟩ (.int .u64 (x : Int))) :=
  ⟨h.1.setCell (p := ⟨w.heap.size + 1, k, none⟩) (Nat.le_succ _) _, h.2.1.far (by simp) _, h.2.2.set k x hk⟩
theorem DgI.congr {w wr : World} {a b : Nat → Nat} (h : DgI w a wr) (hab : ∀ q, q < 2 → a q = b q) : DgI w b wr := ⟨h.1, h.2.1, h.2.2.congr hab⟩
theorem DgI.start (w : World) : DgI w (fun _ => 0) ((w.alloc (.cells #[.int .u64 0, .int .u64 0] 47)).alloc (.cells #[.int .u64 0, .int .u64 0] 47)) := by
  have h0 : Arr (w.alloc (.cells #[.int .u64 0, .int .u64 0] 47)) w.heap.size (fun _ => 0) := Arr.new w (fun _ => 0)
  have h1 := Arr.new (w.alloc (.cells #[.int .u64 0, .int .u64 0] 47)) (fun _ => 0)
  simp only [World.size_alloc] at h1
  exact ⟨((Below.refl w.heap.size w).alloc (Nat.le_refl _) _).alloc (by simp) _, h0.alloc _, h1⟩
theorem fstep_word (d c : Nat) (hd : d < 18446744073709551616) (hc : c < 256) : IntKind.u64.wrap (bits .xor .u64 (d : Int) (c : Int) * 1099511628211) = (Wire.fstep d c : Int) := by
  rw [bits_xor d c hd (by omega), u64w]
  unfold Wire.fstep
  rw [Int.natCast_emod, Int.natCast_mul]
  rfl
set_option maxHeartbeats 2000000 in
set_option maxRecDepth 100000 in
theorem digest_any (A : Option Addr) (n c : Nat) (f : Nat → Nat) (w : World) (hA : AtBO w A n f) (hn : n ≤ maxLen) (hf : ∀ i, f i < 256) :
    Calls Tryd.prog 21 #[.slice A n c] w fun e w' => e = .returned (lab (dg f n 0) (dg f n 1)) ∧ Below w.heap.size w w' := by
  have HA := Lib.hid (And.intro hA hf)
  have hm : (n : Int) < 9223372036854775808 := by unfold maxLen at hn; omega
  clear hA hf hn
  have HI := Lib.hid (DgI.start w)
  go_enter Tryd.func21, Tryd.ntmps21
  go_wp2
  generalize ((w.alloc (.cells #[.int .u64 0, .int .u64 0] 47)).alloc (.cells #[.int .u64 0, .int .u64 0] 47)) = w0 at HI ⊢
  go_loopw [7] (fun p wr => ∃ k : Nat, k ≤ 2 ∧ p = .int .i64 k ∧ Hid (DgI w (fun q => if q < k then dg f n q else 0) wr)) (fun p _ => 2 - (intOf p).toNat)
  case atStart => exact ⟨0, by omega, rfl, HI.out⟩
  case round =>
    clear HI
    obtain ⟨k, hk, rfl, HK⟩ := hrel
    by_cases hlt : k < 2
    · have ew := st_wrap k hlt
      have e0 : IntKind.u64.wrap (k : Int) = (k : Int) := by rw [u64w]; omega
      have c1 := HK.out.2.2.cell k hlt
      have z1 := HK.out.2.2.frozen k
      have HS := Lib.hid (HK.out.set k (st k) hlt)
      have hk2 : (k : Int) < 2 := by omega
      go_wp2
      clear c1 z1 HK
      generalize hwo : wr.setCell ⟨w.heap.size + 1, k, none⟩ (.int .u64 (st k : Int)) = wo at HS ⊢
      clear hwo
      go_loopw [17] (fun p wr => ∃ i : Nat, i ≤ n ∧ p = .int .i64 i ∧ Hid (DgI w (fun q => if q = k then dg f i k else if q < k then dg f n q else 0) wr)) (fun p _ => n - (intOf p).toNat)
      case atStart => exact ⟨0, by omega, rfl, HS.out⟩
      case round =>
        clear HS
        obtain ⟨i, hi, rfl, HK⟩ := hrel
        by_cases hin : i < n
        · obtain ⟨ad, rfl, hc⟩ := (HA.out.1.below HK.out.1) i hin
          have hfi := HA.out.2 i
          have hd : dg f i k < 18446744073709551616 := Wire.fnv_lt _ _ (st_lt k hlt) i
          have c1 := HK.out.2.2.cell k hlt
          simp only [if_pos] at c1
          have z1 := HK.out.2.2.frozen k
          have e1 : IntKind.u64.wrap (f i : Int) = (f i : Int) := by rw [u64w]; omega
          have e2 := fstep_word (dg f i k) (f i) hd hfi
          have e3 : IntKind.i64.wrap ((i : Int) + 1) = (i : Int) + 1 := i64_nat _ (by omega) (by omega)
          have hin2 : (i : Int) < (n : Int) := by omega
          have HS := Lib.hid ((HK.out.set k (Wire.fstep (dg f i k) (f i)) hlt).congr (b := fun q => if q = k then dg f (i + 1) k else if q < k then dg f n q else 0) (fun q _ => by
            by_cases e : q = k
            · rw [if_pos e, if_pos e]; rfl
            · rw [if_neg e, if_neg e, if_neg e]))
          clear HK hfi hd
          go_wp2
          go_roundw
          case rel => exact ⟨i + 1, by omega, by go_num, HS.out⟩
          case measure => simp [intOf]; omega
        · obtain rfl : i = n := by omega
          have e3 : IntKind.i64.wrap ((k : Int) + 1) = (k : Int) + 1 := i64_nat _ (by omega) (by omega)
          go_wp2
          go_roundw
          case rel => exact ⟨k + 1, by omega, by go_num, HK.out.congr fun q _ => by
            by_cases e : q = k
            · subst e; rw [if_pos rfl, if_pos (by omega)]
            · rw [if_neg e]
              by_cases e2 : q < k
              · rw [if_pos e2, if_pos (by omega)]
              · rw [if_neg e2, if_neg (by omega)]⟩
          case measure => simp [intOf]; omega
    · obtain rfl : k = 2 := by omega
      have hN := HK.out.congr (b := dg f n) (fun q hq => by rw [if_pos hq])
      have a0 := hN.2.2.cell 0 (by omega)
      have a1 := hN.2.2.cell 1 (by omega)
      have r0 := hN.2.1.cell 0 (by omega)
      have r1 := hN.2.1.cell 1 (by omega)
      have z0 := hN.2.1.frozen 0
      have z1 := hN.2.1.frozen 1
      have HN := Lib.hid hN
      clear hN HK
      go_wp2
      have hs := (HN.out.2.1.set 0 (dg f n 0) (by omega)).set 1 (dg f n 1) (by omega)
      have s0 := hs.cell 0 (by omega)
      have s1 := hs.cell 1 (by omega)
      simp only [Nat.zero_ne_one, if_false, if_true] at s0 s1
      exact bodyPost_ret (v := lab (dg f n 0) (dg f n 1)) (by simp [results, Tryd.results21, go_sem, s0, s1]) rfl
        ⟨rfl, (HN.out.1.setCell (p := ⟨w.heap.size, 0, none⟩) (Nat.le_refl _) _).setCell (p := ⟨w.heap.size, 1, none⟩) (Nat.le_refl _) _⟩
end Go.Proofs.YtoeohodajoibjaaDoor
