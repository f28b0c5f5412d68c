/- The document's Seal. -/
import Derived.Test.YteadpnododjeaaaDoorLR1
import Derived.Deep.RegionHeld
namespace Go.Proofs.YteadpnododjeaaaDoor
open Go.RowKit

theorem rseal_str (kind num n : Nat) (f : Nat → Nat) : strB 1 (fun _ => kind) ++ strB 4 (Link.by4 num) ++ strB n f = strB (n + 5) (Link.ahead kind num f) := by
  rw [strB_append, strB_append, show 1 + 4 + n = n + 5 by omega]
  exact strB_congr fun i _ => ahead_bytes kind num f i
theorem rseal_str2 (kind num n : Nat) (f : Nat → Nat) : strB (n + 5) (Link.ahead kind num f) ++ strB 4 (Link.by4 (Link.sum kind num n f)) = strB (n + 9) (Link.sealB kind num n f) := by
  rw [strB_append]
  rfl
set_option maxHeartbeats 4000000 in
set_option maxRecDepth 100000 in
theorem rseal_any (kind num n : Nat) (f : Nat → Nat) (w : World) (hf : ∀ i, f i < 256) (hk : kind < 256) (hm : num < 4294967296) (hn : n ≤ 140737488355328) :
    Calls Tryd.prog 12 #[.int .u8 (kind : Int), .int .u32 (num : Int), .string (strB n f)] w fun e w' => e = .returned (.string (strB (n + 9) (Link.sealB kind num n f))) ∧ Below w.heap.size w w' := by
  have HI := Lib.hid (And.intro hf (And.intro hk (And.intro hm hn)))
  have hcat := rseal_str kind num n f
  have HS := Lib.hid (rseal_str2 kind num n f)
  obtain ⟨tk, htk⟩ : ∃ t, t = strB 1 (fun _ => kind) := ⟨_, rfl⟩
  obtain ⟨tn, htn⟩ : ∃ t, t = strB 4 (Link.by4 num) := ⟨_, rfl⟩
  obtain ⟨tp, htp⟩ : ∃ t, t = strB n f := ⟨_, rfl⟩
  obtain ⟨ta, hta⟩ : ∃ t, t = strB (n + 5) (Link.ahead kind num f) := ⟨_, rfl⟩
  rw [← htk, ← htn, ← htp, ← hta] at hcat
  rw [← htp]
  have q1 : tk.size + tn.size ≤ 9223372036854775807 := by rw [htk, htn, strB_size, strB_size]; omega
  have q2 : tk.size + tn.size + tp.size ≤ 9223372036854775807 := by rw [htk, htn, htp, strB_size, strB_size, strB_size]; omega
  have HQ3 := Lib.hid (show ta.size + 4 ≤ 9223372036854775807 by rw [hta, strB_size]; omega)
  have HT := Lib.hid (And.intro htk (And.intro htn hta))
  clear hf hk hm hn htk htn htp hta
  go_enter Tryd.func12, Tryd.ntmps12
  go_wp2
  refine wp_region_held_drew (S := fun w' => Below w.heap.size w w') (by kernel_rfl) ((Below.refl _ _).drew) (fun hHeld => ?_)
  generalize w.drew = wd at hHeld ⊢
  refine ht (i := 0) rfl (.int .u8 (kind : Int)) (by kernel_rfl) (by kernel_rfl) (by kernel_rfl) (fun _ _ _ h => h) hHeld (fun w' hw' => by go_simp) ?_
  try simp only [Act.put, List.setIfInBounds_toArray, List.set_cons_zero, List.set_cons_succ]
  refine ht (i := 3) rfl (.int .u32 (num : Int)) (by kernel_rfl) (by kernel_rfl) (by kernel_rfl) (fun _ _ _ h => h) hHeld (fun w' hw' => by go_simp) ?_
  try simp only [Act.put, List.setIfInBounds_toArray, List.set_cons_zero, List.set_cons_succ]
  refine ht (i := 6) rfl (.string tp) (by kernel_rfl) (by kernel_rfl) (by kernel_rfl) (fun _ _ _ h => h) hHeld (fun w' hw' => by go_simp) ?_
  try simp only [Act.put, List.setIfInBounds_toArray, List.set_cons_zero, List.set_cons_succ]
  refine h2 (i := 1) (i' := 4) (by kernel_rfl) rfl rfl (fun K hK => ?_) (fun K hK => ?_)
  · have ha : Below w.heap.size w (wd.alloc (.cells #[.int .u8 (kind : Int)] 5)) := hHeld.alloc hHeld.size _
    have hAt : AtB (wd.alloc (.cells #[.int .u8 (kind : Int)] 5)) ⟨wd.heap.size, 0, none⟩ 1 (fun _ => kind) := OR.one wd kind
    go_simp
    refine hK.out _ _ ha ?_
    clear hK K
    try simp only [Act.put, List.setIfInBounds_toArray, List.set_cons_zero, List.set_cons_succ]
    obtain ⟨ga, hga⟩ : ∃ g, g = wd.heap.size := ⟨_, rfl⟩
    rw [← hga] at hAt ⊢
    clear hga
    generalize wd.alloc (.cells #[.int .u8 (kind : Int)] 5) = wa at ha hAt ⊢
    clear hHeld
    refine h2 (i := 2) (i' := 4) (by kernel_rfl) rfl rfl (fun K hK => ?_) (fun K hK => ?_)
    · have hcv : (convert 23 9 (.slice (some ⟨ga, 0, none⟩) 1 1)).run Tryd.prog wa = .ok (.string tk) wa := by rw [HT.out.1]; exact conv_B wa ⟨ga, 0, none⟩ 1 1 _ hAt (fun _ => HI.out.2.1)
      go_simp
      refine hK.out _ _ ha ?_
      clear hK K hcv
      try simp only [Act.put, List.setIfInBounds_toArray, List.set_cons_zero, List.set_cons_succ]
      refine h1 (i := 4) (by kernel_rfl) rfl (fun K hK => ?_)
      go_simp
      refine (four_any num wa HI.out.2.2.1).mono ?_
      rintro e wb ⟨rfl, hb4⟩
      have hb := ha.trans (hb4.mono ha.size)
      rw [← HT.out.2.1]
      refine hK.out _ _ hb ?_
      clear hK K
      clear hb4
      try simp only [Act.put, List.setIfInBounds_toArray, List.set_cons_zero, List.set_cons_succ]
      refine ht (i := 5) rfl (.string (tk ++ tn)) (by kernel_rfl) (by kernel_rfl) (by kernel_rfl) (fun _ _ _ h => h) hb (fun w' hw' => by go_simp) ?_
      try simp only [Act.put, List.setIfInBounds_toArray, List.set_cons_zero, List.set_cons_succ]
      refine ht (i := 7) rfl (.string ta) (by kernel_rfl) (by kernel_rfl) (by kernel_rfl) (fun _ _ _ h => h) hb (fun w' hw' => by go_simp) ?_
      try simp only [Act.put, List.setIfInBounds_toArray, List.set_cons_zero, List.set_cons_succ]
      refine ht (i := 8) rfl (.string ta) (by kernel_rfl) (by kernel_rfl) (by kernel_rfl) (fun _ _ _ h => h) hb (fun w' hw' => by go_simp) ?_
      try simp only [Act.put, List.setIfInBounds_toArray, List.set_cons_zero, List.set_cons_succ]
      refine wpAnyH_done (by kernel_rfl) ?_ _
      have HB := Lib.hid hb
      clear hb hcat
      go_wp2_with fail
      rw [HT.out.2.2]
      refine (rsum_any (n + 5) (Link.ahead kind num f) _ (Link.ahead_lt kind num f HI.out.2.1 HI.out.1) (by have := HI.out.2.2.2; omega)).mono ?_
      rintro e w5 ⟨rfl, rfl⟩
      rw [← HT.out.2.2]
      go_wp2_with fail
      refine (four_any (Link.sum kind num n f) _ (Link.sum_lt kind num n f HI.out.2.1 HI.out.1)).mono ?_
      rintro e w6 ⟨rfl, hb6⟩
      have HB6 := Lib.hid (HB.out.trans (hb6.mono HB.out.size))
      have hs := HS.out
      rw [← HT.out.2.2] at hs
      have q3 : ta.size + (strB 4 (Link.by4 (Link.sum kind num n f))).size ≤ 9223372036854775807 := by rw [strB_size]; exact HQ3.out
      generalize strB 4 (Link.by4 (Link.sum kind num n f)) = t4 at *
      clear hb6
      go_wp2
      go_ret
      exact ⟨rfl, HB6.out⟩
    · go_simp
      refine (four_any num wa HI.out.2.2.1).mono ?_
      rintro e wb ⟨rfl, hb4⟩
      have hb := ha.trans (hb4.mono ha.size)
      rw [← HT.out.2.1]
      refine hK.out _ _ hb ?_
      clear hK K
      replace hAt := hAt.below hb4
      clear hb4
      try simp only [Act.put, List.setIfInBounds_toArray, List.set_cons_zero, List.set_cons_succ]
      refine h1 (i := 2) (by kernel_rfl) rfl (fun K hK => ?_)
      have hcv : (convert 23 9 (.slice (some ⟨ga, 0, none⟩) 1 1)).run Tryd.prog wb = .ok (.string tk) wb := by rw [HT.out.1]; exact conv_B wb ⟨ga, 0, none⟩ 1 1 _ hAt (fun _ => HI.out.2.1)
      go_simp
      refine hK.out _ _ hb ?_
      clear hK K hcv
      try simp only [Act.put, List.setIfInBounds_toArray, List.set_cons_zero, List.set_cons_succ]
      refine ht (i := 5) rfl (.string (tk ++ tn)) (by kernel_rfl) (by kernel_rfl) (by kernel_rfl) (fun _ _ _ h => h) hb (fun w' hw' => by go_simp) ?_
      try simp only [Act.put, List.setIfInBounds_toArray, List.set_cons_zero, List.set_cons_succ]
      refine ht (i := 7) rfl (.string ta) (by kernel_rfl) (by kernel_rfl) (by kernel_rfl) (fun _ _ _ h => h) hb (fun w' hw' => by go_simp) ?_
      try simp only [Act.put, List.setIfInBounds_toArray, List.set_cons_zero, List.set_cons_succ]
      refine ht (i := 8) rfl (.string ta) (by kernel_rfl) (by kernel_rfl) (by kernel_rfl) (fun _ _ _ h => h) hb (fun w' hw' => by go_simp) ?_
      try simp only [Act.put, List.setIfInBounds_toArray, List.set_cons_zero, List.set_cons_succ]
      refine wpAnyH_done (by kernel_rfl) ?_ _
      have HB := Lib.hid hb
      clear hb hcat
      go_wp2_with fail
      rw [HT.out.2.2]
      refine (rsum_any (n + 5) (Link.ahead kind num f) _ (Link.ahead_lt kind num f HI.out.2.1 HI.out.1) (by have := HI.out.2.2.2; omega)).mono ?_
      rintro e w5 ⟨rfl, rfl⟩
      rw [← HT.out.2.2]
      go_wp2_with fail
      refine (four_any (Link.sum kind num n f) _ (Link.sum_lt kind num n f HI.out.2.1 HI.out.1)).mono ?_
      rintro e w6 ⟨rfl, hb6⟩
      have HB6 := Lib.hid (HB.out.trans (hb6.mono HB.out.size))
      have hs := HS.out
      rw [← HT.out.2.2] at hs
      have q3 : ta.size + (strB 4 (Link.by4 (Link.sum kind num n f))).size ≤ 9223372036854775807 := by rw [strB_size]; exact HQ3.out
      generalize strB 4 (Link.by4 (Link.sum kind num n f)) = t4 at *
      clear hb6
      go_wp2
      go_ret
      exact ⟨rfl, HB6.out⟩
  · go_simp
    refine (four_any num wd HI.out.2.2.1).mono ?_
    rintro e wb ⟨rfl, hb4⟩
    have hb := hHeld.trans (hb4.mono hHeld.size)
    rw [← HT.out.2.1]
    refine hK.out _ _ hb ?_
    clear hK K
    clear hb4
    try simp only [Act.put, List.setIfInBounds_toArray, List.set_cons_zero, List.set_cons_succ]
    clear hHeld
    refine h1 (i := 1) (by kernel_rfl) rfl (fun K hK => ?_)
    have ha : Below w.heap.size w (wb.alloc (.cells #[.int .u8 (kind : Int)] 5)) := hb.alloc hb.size _
    have hAt : AtB (wb.alloc (.cells #[.int .u8 (kind : Int)] 5)) ⟨wb.heap.size, 0, none⟩ 1 (fun _ => kind) := OR.one wb kind
    go_simp
    refine hK.out _ _ ha ?_
    clear hK K
    try simp only [Act.put, List.setIfInBounds_toArray, List.set_cons_zero, List.set_cons_succ]
    obtain ⟨ga, hga⟩ : ∃ g, g = wb.heap.size := ⟨_, rfl⟩
    rw [← hga] at hAt ⊢
    clear hga
    generalize wb.alloc (.cells #[.int .u8 (kind : Int)] 5) = wa at ha hAt ⊢
    clear hb
    refine h1 (i := 2) (by kernel_rfl) rfl (fun K hK => ?_)
    have hcv : (convert 23 9 (.slice (some ⟨ga, 0, none⟩) 1 1)).run Tryd.prog wa = .ok (.string tk) wa := by rw [HT.out.1]; exact conv_B wa ⟨ga, 0, none⟩ 1 1 _ hAt (fun _ => HI.out.2.1)
    go_simp
    refine hK.out _ _ ha ?_
    clear hK K hcv
    try simp only [Act.put, List.setIfInBounds_toArray, List.set_cons_zero, List.set_cons_succ]
    refine ht (i := 5) rfl (.string (tk ++ tn)) (by kernel_rfl) (by kernel_rfl) (by kernel_rfl) (fun _ _ _ h => h) ha (fun w' hw' => by go_simp) ?_
    try simp only [Act.put, List.setIfInBounds_toArray, List.set_cons_zero, List.set_cons_succ]
    refine ht (i := 7) rfl (.string ta) (by kernel_rfl) (by kernel_rfl) (by kernel_rfl) (fun _ _ _ h => h) ha (fun w' hw' => by go_simp) ?_
    try simp only [Act.put, List.setIfInBounds_toArray, List.set_cons_zero, List.set_cons_succ]
    refine ht (i := 8) rfl (.string ta) (by kernel_rfl) (by kernel_rfl) (by kernel_rfl) (fun _ _ _ h => h) ha (fun w' hw' => by go_simp) ?_
    try simp only [Act.put, List.setIfInBounds_toArray, List.set_cons_zero, List.set_cons_succ]
    refine wpAnyH_done (by kernel_rfl) ?_ _
    have HB := Lib.hid ha
    clear ha hcat
    go_wp2_with fail
    rw [HT.out.2.2]
    refine (rsum_any (n + 5) (Link.ahead kind num f) _ (Link.ahead_lt kind num f HI.out.2.1 HI.out.1) (by have := HI.out.2.2.2; omega)).mono ?_
    rintro e w5 ⟨rfl, rfl⟩
    rw [← HT.out.2.2]
    go_wp2_with fail
    refine (four_any (Link.sum kind num n f) _ (Link.sum_lt kind num n f HI.out.2.1 HI.out.1)).mono ?_
    rintro e w6 ⟨rfl, hb6⟩
    have HB6 := Lib.hid (HB.out.trans (hb6.mono HB.out.size))
    have hs := HS.out
    rw [← HT.out.2.2] at hs
    have q3 : ta.size + (strB 4 (Link.by4 (Link.sum kind num n f))).size ≤ 9223372036854775807 := by rw [strB_size]; exact HQ3.out
    generalize strB 4 (Link.by4 (Link.sum kind num n f)) = t4 at *
    clear hb6
    go_wp2
    go_ret
    exact ⟨rfl, HB6.out⟩
end Go.Proofs.YteadpnododjeaaaDoor
