/- Contract: Seal. -/
import Derived.Test.YteadpnododjeaaaDoorLS2
namespace Go.Proofs.YteadpnododjeaaaDoor
open Go.RowKit

set_option maxHeartbeats 2000000 in
set_option maxRecDepth 100000 in
theorem seal_any (kind num : Nat) (A : Option Addr) (n c : Nat) (f : Nat → Nat) (w : World) (ht : Tab w) (hA : AtBO w A n f) (h0 : A = none → n = 0 ∧ c = 0) (hf : ∀ i, f i < 256) (hk : kind < 256) (hm : num < 4294967296) (hn : n ≤ 140737488355328) :
    Calls Tryd.prog 11 #[.int .u8 (kind : Int), .int .u32 (num : Int), .slice A n c] w (Sealed w kind num n f) := by
  obtain ⟨M, hM⟩ : ∃ M, M = n + 5 := ⟨_, rfl⟩
  obtain ⟨N, hN⟩ : ∃ N, N = n + 9 := ⟨_, rfl⟩
  have e1 : IntKind.i64.wrap (5 + (n : Int)) = (M : Int) := by rw [i64_nat _ (by omega) (by omega)]; omega
  have e2 : IntKind.i64.wrap ((M : Int) + 4) = (N : Int) := by rw [i64_nat _ (by omega) (by omega)]; omega
  have h1 := makeCap w N (by omega)
  have HB := Lib.hid (And.intro ht (And.intro hA (And.intro h0 (And.intro hf (And.intro hk (And.intro hm (And.intro hn (And.intro hM hN))))))))
  clear ht hA h0 hf hk hm hn hM hN
  go_enter Tryd.func11, Tryd.ntmps11
  obtain ⟨ht, hA, h0, hf, hk, hm, hn, hM, hN⟩ := HB.out
  have hb1 : Below w.heap.size w (w.alloc (.cells (bys N fun _ => 0) 5)) := (Below.refl _ _).alloc (Nat.le_refl _) _
  have ho1 : OR (w.alloc (.cells (bys N fun _ => 0) 5)) w.heap.size (sl8 w.heap.size 0 N) 0 (fun _ => kind) := World.ownsRow_made w _ N (Nat.le_refl _) (by unfold maxLen; omega) (by simp [bys_size])
  generalize w.alloc (.cells (bys N fun _ => 0) 5) = w1 at h1 hb1 ho1
  obtain ⟨b2, c2, w2, hr2, ho2, hb2⟩ := push kind ho1 (by omega) hb1.size (fun _ => kind) (fun _ _ => rfl) rfl
  have H2 := Lib.hid (And.intro ho2 (hb1.trans hb2))
  have HQ2 := Lib.hid hr2
  clear ht hA h0 hf hk hm hn hM hN hb1 ho1 hr2 ho2 hb2
  go_wp2_with (at_builtin; refine wpList_append_run rfl _ _ 23 rfl _ _ _ w2 rfl rfl HQ2.out ?_)
  clear HQ2
  refine (appendNumber_any _ w.heap.size 1 _ num w2 H2.out.1 (by omega) (by omega) H2.out.2.size).mono ?_
  rintro e w3 ⟨b3, c3, rfl, ho3, hb3⟩
  obtain ⟨ht, hA, h0, hf, hk, hm, hn, hM, hN⟩ := HB.out
  have hbb := H2.out.2.trans hb3
  obtain ⟨b4, c4, w4, hr4, ho4, hb4⟩ := append_pay w3 w.heap.size _ (1 + 4) n c _ f A ho3 (hA.below hbb) h0 (by omega) (by omega) hbb.size
  have HQ4 := Lib.hid hr4
  have ho4' : OR w4 w.heap.size (sl8 b4 (n + 5) c4) (n + 5) (Link.ahead kind num f) := by
    rw [show 1 + 4 + n = n + 5 by omega] at ho4
    exact OR.congr ho4 fun i _ => ahead_bytes kind num f i
  have H4 := Lib.hid (And.intro ho4' (hbb.trans hb4))
  rw [show 1 + 4 + n = n + 5 by omega] at HQ4
  clear ht hA h0 hf hk hm hn hM hN hbb hr4 ho4 hb4 ho4' ho3 hb3 H2
  go_wp2_with (at_builtin; refine wpList_append_run rfl _ _ 23 rfl _ _ _ w4 rfl rfl HQ4.out ?_)
  clear HQ4
  obtain ⟨ht, hA, h0, hf, hk, hm, hn, hM, hN⟩ := HB.out
  refine (sumOf_any (some ⟨b4, 0, none⟩) (n + 5) c4 (Link.ahead kind num f) w4 (ht.below H4.out.2 ht.pos) H4.out.1.lt.2.2.2.2.opt (Link.ahead_lt kind num f hk hf) (by omega)).mono ?_
  rintro e w5 ⟨rfl, rfl⟩
  clear ht hA h0 hf hk hm hn hM hN
  go_wp2_with fail
  obtain ⟨ht, hA, h0, hf, hk, hm, hn, hM, hN⟩ := HB.out
  refine (appendNumber_any _ w.heap.size (n + 5) _ (Link.sum kind num n f) w4 H4.out.1 (by omega) (by omega) H4.out.2.size).mono ?_
  rintro e w6 ⟨b6, c6, rfl, ho6, hb6⟩
  have H6 := Lib.hid (show Sealed w kind num n f (.returned (sl8 b6 (n + 9) c6)) w6 from ⟨⟨b6, n + 9, c6, Link.sealB kind num n f⟩, rfl, ⟨ho6, Link.sealB_lt kind num n f hk hf, by show n + 9 ≤ _; omega⟩, rfl, rfl, H4.out.2.trans hb6⟩)
  clear ht hA h0 hf hk hm hn hM hN ho6 hb6 H4
  go_wp2
  go_ret
  exact H6.out
end Go.Proofs.YteadpnododjeaaaDoor
