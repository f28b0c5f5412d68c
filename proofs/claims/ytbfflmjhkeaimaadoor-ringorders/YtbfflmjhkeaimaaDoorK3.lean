/- A list that came in, as the walks want it. -/
import Derived.Test.YtbfflmjhkeaimaaDoorK2
import Derived.Test.YtbfflmjhkeaimaaDoorM3
namespace Go.Proofs.YtbfflmjhkeaimaaDoor
theorem Came.in_ {W : World} {v : Value} {n : Nat} {f : Nat → Int} (h : Came W v n f) : In W v n f := by
  rcases h.2.2 with h | ⟨ad, c, h1, _, _, h2, _⟩
  · exact .inl h
  · exact .inr ⟨ad, c, h1, h2⟩
end Go.Proofs.YtbfflmjhkeaimaaDoor
