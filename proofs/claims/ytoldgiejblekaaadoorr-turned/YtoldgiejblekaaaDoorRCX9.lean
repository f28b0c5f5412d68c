/- CircTurned's walk, whole. -/
import Derived.Test.YtoldgiejblekaaaDoorRCX7
import Derived.Test.YtoldgiejblekaaaDoorRCX8
namespace Go.Proofs.YtoldgiejblekaaaDoorR
open Go.RowKit

/-- Whatever came in. -/
theorem turned_walk (N : Int) (Ag : Option Addr) (n cg : Nat) (y : Nat → Nat → Int) (Ao : Option Addr) (m co : Nat) (o : Nat → Int) (A : Option Addr) (K c : Nat) (f : Nat → Bool) (w : World) (hh : Handle w) (hg : AtV w Ag (n * 3) (gv y)) (ho : AtV w Ao m (iv o)) (hn : n ≤ cg) (hm : m ≤ co) (zg : Ag = none → n = 0 ∧ cg = 0) (zo : Ao = none → m = 0 ∧ co = 0) (hA : AtV w A K (bv f)) (hz : A = none → K = 0 ∧ c = 0) :
    Calls Tryd.prog 5 #[circV N Ag n cg Ao m co, .slice A K c] w fun e w' => e = .returned (.bool true) ∧ Below w.heap.size w w' := by
  by_cases hG : Circ.Good N (min n 4200) y (min m 80) o
  · by_cases hM : 3000 < min n 4200
    · exact turned_gates N Ag n cg y Ao m co o A K c w hh hg ho hn hm zg zo hG hM
    · by_cases hN : 3000 < N
      · exact turned_inputs N Ag n cg y Ao m co o A K c w hh hg ho hn hm zg zo hG hN (by omega)
      · obtain ⟨Nn, rfl⟩ := Int.eq_ofNat_of_zero_le hG.n0
        exact turned_main Nn Ag n cg y Ao m co o A K c f w hh hg ho hn hm zg zo hA hz hG (by omega) (by omega)
  · exact turned_bad N Ag n cg y Ao m co o A K c w hh hg ho hn hm zg zo hG
end Go.Proofs.YtoldgiejblekaaaDoorR
