/- Texts of bytes; the laws' common beginning (awake). -/
import Derived.Test.YtoeohodajoibjaaDoorWN3
import Derived.Test.YtoeohodajoibjaaDoorWD2
import Derived.Laws.IdiomStrings
namespace Go.Proofs.YtoeohodajoibjaaDoor
open Go.RowKit

/-- The first n bytes as a text. -/
def strB (n : Nat) (f : Nat → Nat) : ByteArray := ⟨((List.range n).map fun i => UInt8.ofNat (f i)).toArray⟩
theorem strB_congr {n : Nat} {f g : Nat → Nat} (h : ∀ i, i < n → f i = g i) : strB n f = strB n g := by
  unfold strB
  congr 2
  apply List.map_congr_left
  intro q hq
  rw [h q (List.mem_range.1 hq)]
theorem strB_inj {n m : Nat} {f g : Nat → Nat} (hf : ∀ i, f i < 256) (hg : ∀ i, g i < 256) (h : strB n f = strB m g) : n = m ∧ ∀ i, i < n → f i = g i := by
  have h1 : ((List.range n).map fun i => UInt8.ofNat (f i)) = ((List.range m).map fun i => UInt8.ofNat (g i)) := by
    have := congrArg (fun b : ByteArray => b.data.toList) h
    simpa [strB] using this
  have hl : n = m := by have := congrArg List.length h1; simpa using this
  subst hl
  refine ⟨rfl, fun i hi => ?_⟩
  have := congrArg (fun l => l[i]?) h1
  simp [hi] at this
  have h2 := congrArg UInt8.toNat this
  have := hf i
  have := hg i
  simp at h2
  omega
theorem conv_B (w : World) (ad : Addr) (n cap : Nat) (f : Nat → Nat) (h : AtB w ad n f) (hf : ∀ i, f i < 256) : (convert 22 9 (.slice (some ad) n cap)).run Tryd.prog w = .ok (.string (strB n f)) w := by
  have := run_convert_bytes_back (P := Tryd.prog) w 22 9 5 ad cap ((List.range n).map fun i => UInt8.ofNat (f i)) Tryd.underlying22 (by kernel_rfl) (by kernel_rfl) (fun j hj => by
    have hj' : j < n := by simpa using hj
    rw [h j hj']
    have := hf j
    simp only [List.getElem_map, List.getElem_range]
    rw [show (UInt8.ofNat (f j)).toNat = f j by simp; omega])
  simp only [List.length_map, List.length_range] at this
  exact this
/-- The document's example. -/
def sExample : ByteArray := { data := #[172, 2, 1, 5, 0, 0, 0, 0, 0, 0, 0] }
theorem nlen300 : Wire.nlen 300 = 2 := by rw [Wire.nlen_big _ (by omega), Wire.nlen_small _ (by omega)]
theorem nlen1 : Wire.nlen 1 = 1 := Wire.nlen_small _ (by omega)
theorem len300 : Wire.encLen 300 1 = 11 := by unfold Wire.encLen; rw [nlen300, nlen1]
def exB (i : Nat) : Nat := if i < 2 then 300 / 128 ^ i % 128 + (if i + 1 < 2 then 128 else 0) else if i < 3 then 1 / 128 ^ (i - 2) % 128 + (if i - 2 + 1 < 1 then 128 else 0) else 5 / 256 ^ ((i - 3) % 8) % 256
theorem enc300 (i : Nat) : Wire.encB 300 1 (fun _ => 5) i = exB i := by
  unfold Wire.encB Wire.nat7 Wire.wby Wire.byt exB
  rw [nlen300, nlen1]
theorem ex_str : strB 11 (Wire.encB 300 1 (fun _ => 5)) = sExample := by
  rw [strB_congr fun i _ => enc300 i]
  rfl
theorem encB_lt' (r n : Nat) (ws : Nat → Nat) : ∀ i, Wire.encB r n ws i < 256 := Wire.encB_lt r n ws
theorem five_at (w : World) : AtO (w.alloc (.cells #[.int .u64 5] 46)) (some ⟨w.heap.size, 0, none⟩) 1 (fun _ => ((5 : Nat) : Int)) := fun i hi => by
  obtain rfl : i = 0 := by omega
  exact ⟨_, rfl, by simp [Addr.add]⟩
set_option maxHeartbeats 2000000 in
set_option maxRecDepth 100000 in
theorem awake_any (w : World) : Calls Tryd.prog 10 #[] w fun e w' => e = .returned (.bool true) ∧ Below w.heap.size w w' := by
  have HE := Lib.hid (encode_ok 300 _ 1 1 (fun _ => 5) _ (five_at w) (by omega) (by omega))
  have hb0 : Below w.heap.size w (w.alloc (.cells #[.int .u64 5] 46)) := (Below.refl _ _).alloc (Nat.le_refl _) _
  go_enter Tryd.func10, Tryd.ntmps10
  go_wp2_with fail
  refine HE.out.mono ?_
  rintro e w1 ⟨b, c, rfl, ho, hb1⟩
  rw [len300] at ho ⊢
  have hcv := conv_B w1 ⟨b, 0, none⟩ 11 c _ ho.lt.2.2.2.2 (encB_lt' 300 1 _)
  rw [ex_str] at hcv
  have HB := Lib.hid (hb0.trans (hb1.mono hb0.size))
  clear hb0 hb1 ho HE
  have f5 := fun w => run_eql_lab w 14695981039346656037 14695981039346656038 14695981039346656037 14695981039346656038
  have hsx : sExample.toList = [172, 2, 1, 5, 0, 0, 0, 0, 0, 0, 0] := by kernel_rfl
  go_wp2_with fail
  refine (digest_any none 0 0 (fun _ => 0) w1 AtBO.none (by omega) (fun _ => by omega)).mono ?_
  rintro e w2 ⟨rfl, hb2⟩
  have HB2 := Lib.hid (HB.out.trans (hb2.mono HB.out.size))
  clear hb2 HB hcv
  rw [show (dg (fun _ => 0) 0 0 : Int) = 14695981039346656037 from rfl, show (dg (fun _ => 0) 0 1 : Int) = 14695981039346656038 from rfl]
  go_wp2
  go_ret
  exact ⟨rfl, HB2.out⟩
end Go.Proofs.YtoeohodajoibjaaDoor
