/- CircEvals' walk, whole. -/
import Derived.Test.YtoldgiejblekaaaDoorRCX3
import Derived.Test.YtoldgiejblekaaaDoorRCX4
import Derived.Test.YtoldgiejblekaaaDoorRCX5
namespace Go.Proofs.YtoldgiejblekaaaDoorR
open Go.RowKit

set_option maxHeartbeats 8000000 in
set_option maxRecDepth 100000 in
/-- More than 5,000 bits: the law asks nothing else. -/
theorem evals_long (N : Int) (Ag : Option Addr) (n cg : Nat) (Ao : Option Addr) (m co : Nat) (A : Option Addr) (K c : Nat) (w : World) (hh : Handle w) (hK : 5000 < K) :
    Calls Tryd.prog 3 #[circV N Ag n cg Ao m co, .slice A K c] w fun e w' => e = .returned (.bool true) ∧ Below w.heap.size w w' := by
  have bK : (5000 : Int) < (K : Int) := by omega
  have hb0 := (Below.refl w.heap.size w).alloc (Nat.le_refl _) (.cells #[.int .i64 N, .slice Ag n cg, .slice Ao m co] 25)
  have H0 := Lib.hid (And.intro hb0 (hh.below hb0 hh.pos))
  have HW := Lib.hid (awake_any (w.alloc (.cells #[.int .i64 N, .slice Ag n cg, .slice Ao m co] 25)) (hh.below hb0 hh.pos))
  clear hh hb0 hK
  go_enter Tryd.func3, Tryd.ntmps3
  go_wp2_with fail
  refine HW.out.mono ?_
  rintro e w1 ⟨rfl, hb1⟩
  have HW2 := Lib.hid (awake_any w1 (H0.out.2.belowS hb1))
  have H1 := Lib.hid (H0.out.1.trans (hb1.mono H0.out.1.size))
  clear hb1 HW
  go_wp2_with fail
  refine HW2.out.mono ?_
  rintro e w2 ⟨rfl, hb2⟩
  have H2 := Lib.hid (H1.out.trans (hb2.mono H1.out.size))
  clear hb2
  go_wp2
  go_ret
  exact ⟨rfl, H2.out⟩
/-- Whatever came in. -/
theorem evals_walk (N : Int) (Ag : Option Addr) (n cg : Nat) (y : Nat → Nat → Int) (Ao : Option Addr) (m co : Nat) (o : Nat → Int) (A : Option Addr) (K c : Nat) (f : Nat → Bool) (w : World) (hh : Handle w) (hg : AtV w Ag (n * 3) (gv y)) (ho : AtV w Ao m (iv o)) (hn : n ≤ cg) (hm : m ≤ co) (zg : Ag = none → n = 0 ∧ cg = 0) (zo : Ao = none → m = 0 ∧ co = 0) (hA : AtV w A K (bv f)) (hz : A = none → K = 0 ∧ c = 0) :
    Calls Tryd.prog 3 #[circV N Ag n cg Ao m co, .slice A K c] w fun e w' => e = .returned (.bool true) ∧ Below w.heap.size w w' := by
  by_cases hK : 5000 < K
  · exact evals_long N Ag n cg Ao m co A K c w hh hK
  have hK2 : K ≤ 5000 := by omega
  by_cases hG : Circ.Good N (min n 4200) y (min m 80) o
  · by_cases hNK : N = (K : Int)
    · exact evals_ok N Ag n cg y Ao m co o A K c f w hh hg ho hn hm zg zo hA hz hK2 hG hNK
    · exact evals_len N Ag n cg y Ao m co o A K c f w hh hg ho hn hm zg zo hA hz hK2 hG (fun e => hNK e.symm)
  · exact evals_bad N Ag n cg y Ao m co o A K c f w hh hg ho hn hm zg zo hA hz hK2 hG
end Go.Proofs.YtoldgiejblekaaaDoorR
