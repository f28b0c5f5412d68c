/- The laws' common beginning (awake). -/
import Derived.Test.YtfilhlilagmhlaaDoorNN7
namespace Go.Proofs.YtfilhlilagmhlaaDoor
open Go.RowKit

theorem bytes2_at (w : World) (x y : Nat) : AtBO (w.alloc (.cells #[.int .u8 (x : Int), .int .u8 (y : Int)] 5)) (some ⟨w.heap.size, 0, none⟩) 2 (fun i => if i = 0 then x else y) := fun i hi => by
  rcases (show i = 0 ∨ i = 1 by omega) with rfl | rfl
  · exact ⟨_, rfl, by simp [Addr.add]⟩
  · exact ⟨_, rfl, by simp [Addr.add]⟩
theorem bytes1_at (w : World) (x : Nat) : AtBO (w.alloc (.cells #[.int .u8 (x : Int)] 5)) (some ⟨w.heap.size, 0, none⟩) 1 (fun _ => x) := fun i hi => by
  obtain rfl : i = 0 := by omega
  exact ⟨_, rfl, by simp [Addr.add]⟩
def sOne3 : ByteArray := { data := #[1, 3] }
theorem awake_txt : flipT (strB 2 (fun i => if i = 0 then 1 else 2)) 8 = sOne3 := by
  rw [flipT_strB _ _ _ (fun i => by split <;> omega)]
  rfl
set_option maxHeartbeats 4000000 in
set_option maxRecDepth 100000 in
theorem awake_any (w : World) (hg : Handle w) : Calls Tryd.prog 8 #[] w fun e w' => e = .returned (.bool true) ∧ Below w.heap.size w w' := by
  have HG := Lib.hid hg
  clear hg
  go_enter Tryd.func8, Tryd.ntmps8
  go_wp2_with fail
  refine (new_any w).mono ?_
  rintro e w1 ⟨rfl, hw1⟩
  have hN := net_new w
  have hB : Below w.heap.size w (w.alloc (.cells #[.slice none 0 0, .slice none 0 0] 55)) := (Below.refl _ _).alloc (Nat.le_refl _) _
  rw [← hw1] at hN hB
  have H1 := Lib.hid (And.intro hN hB)
  clear hw1 hN hB
  go_wp2_with fail
  have hA := bytes2_at w1 1 2
  have hb : Below w1.heap.size w1 (w1.alloc (.cells #[.int .u8 ((1 : Nat) : Int), .int .u8 ((2 : Nat) : Int)] 5)) := (Below.refl _ _).alloc (Nat.le_refl _) _
  have hs := (H1.out.2.trans (hb.mono H1.out.2.size)).size
  refine (nsend_ok (k := 0) _ 2 2 _ (H1.out.1.below hb) (by omega) (by simp) hA (fun i => by split <;> omega) (by omega) hs).mono ?_
  rintro e w2 ⟨rfl, hN, hst⟩
  have H2 := Lib.hid (And.intro hN ((H1.out.2.trans (hb.mono H1.out.2.size)).trans hst.below))
  clear H1 hA hb hs hN hst
  go_wp2_with fail
  have hA := bytes1_at w2 3
  have hb : Below w2.heap.size w2 (w2.alloc (.cells #[.int .u8 ((3 : Nat) : Int)] 5)) := (Below.refl _ _).alloc (Nat.le_refl _) _
  have hs := (H2.out.2.trans (hb.mono H2.out.2.size)).size
  refine (nsend_ok (k := 0) _ 1 1 _ (H2.out.1.below hb) (by omega) (by simp [upd]) hA (fun i => by omega) (by omega) hs).mono ?_
  rintro e w3 ⟨rfl, hN, hst⟩
  have H3 := Lib.hid (And.intro hN ((H2.out.2.trans (hb.mono H2.out.2.size)).trans hst.below))
  clear H2 hA hb hs hN hst
  go_wp2_with fail
  refine (nflip_ok (k := 0) (i := 0) (B := 8) (t := strB 2 (fun i => if i = 0 then 1 else 2)) H3.out.1 (by omega) (by simp [upd]) (by rw [strB_size]; omega) H3.out.2.size).mono ?_
  rintro e w4 ⟨rfl, hN, hst⟩
  rw [awake_txt] at hN
  have H4 := Lib.hid (And.intro hN (H3.out.2.trans hst.below))
  clear H3 hN hst
  go_wp2_with fail
  refine (nat_ok (k := 0) (i := 0) (t := sOne3) H4.out.1 (by omega) (by simp [upd])).mono ?_
  rintro e w5 ⟨b, n, f, rfl, hT, hb5⟩
  have H5 := Lib.hid (And.intro (H4.out.1.below hb5) (H4.out.2.trans (hb5.mono H4.out.2.size)))
  have hcv := hT.conv n
  have hsx : sOne3.toList = [1, 3] := by kernel_rfl
  clear H4 hT hb5
  go_wp2_with fail
  refine (nlen_ok (k := 0) H5.out.1 (by omega)).mono ?_
  rintro e w6 ⟨rfl, rfl⟩
  rw [show ((upd (upd (upd (fun _ => []) 0 ([] ++ [strB 2 fun i => if i = 0 then 1 else 2])) 0 (upd (fun _ => []) 0 ([] ++ [strB 2 fun i => if i = 0 then 1 else 2]) 0 ++ [strB 1 fun _ => 3])) 0 ((upd (upd (fun _ => []) 0 ([] ++ [strB 2 fun i => if i = 0 then 1 else 2])) 0 (upd (fun _ => []) 0 ([] ++ [strB 2 fun i => if i = 0 then 1 else 2]) 0 ++ [strB 1 fun _ => 3]) 0).set 0 sOne3) 0).length : Int) = 2 from by simp [upd]]
  go_wp2_with fail
  refine (send_way _ 2 none 0 0 _ (HG.out.below H5.out.2 HG.out.pos) (by omega)).mono ?_
  rintro e w6 ⟨ps, rfl, hb6⟩
  have H6 := Lib.hid (H5.out.2.trans (hb6.mono H5.out.2.size))
  clear H5 hb6 hcv
  have hfi := fis_chain ps 1 1 w6
  obtain ⟨T, u, hT⟩ := chain_iface ps 1
  rw [hT] at hfi ⊢
  have HFI := Lib.hid hfi
  clear hfi hT
  go_wp2_with fail
  refine HFI.out.mono ?_
  rintro e w7 ⟨rfl, hb7⟩
  have H7 := Lib.hid (H6.out.trans (hb7.mono H6.out.size))
  clear H6 hb7
  go_wp2
  go_ret
  exact ⟨rfl, H7.out⟩
end Go.Proofs.YtfilhlilagmhlaaDoor
