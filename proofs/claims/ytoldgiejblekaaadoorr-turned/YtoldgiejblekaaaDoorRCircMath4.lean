/- Plain mathematics for CircTurned: a circuit that goes on by a gate for each of its outs. No function of the program. -/
import Derived.Test.YtoldgiejblekaaaDoorRCircMath3
namespace Go.Proofs.YtoldgiejblekaaaDoorR
namespace Circ

/-- The gates, then one more for each out: of the kind k, its second wire the out's where q is true. -/
def more (y : Nat → Nat → Int) (M : Nat) (o : Nat → Int) (k : Int) (q : Bool) (i j : Nat) : Int := if i < M then y i j else if j = 0 then k else if j = 1 then o (i - M) else if q then o (i - M) else 0
/-- The first t outs, turned to the further gates. -/
def outs' (N : Int) (M : Nat) (o : Nat → Int) (t i : Nat) : Int := if i < t then N + M + i else o i
theorem more_old {y : Nat → Nat → Int} {M : Nat} {o : Nat → Int} {k : Int} {q : Bool} {i j : Nat} (h : i < M) : more y M o k q i j = y i j := if_pos h
theorem more_new {y : Nat → Nat → Int} {M : Nat} {o : Nat → Int} {k : Int} {q : Bool} {i : Nat} : more y M o k q (M + i) 0 = k ∧ more y M o k q (M + i) 1 = o i ∧ more y M o k q (M + i) 2 = if q then o i else 0 := by
  have h : ¬ M + i < M := by omega
  refine ⟨?_, ?_, ?_⟩ <;> unfold more <;> rw [if_neg h] <;> simp
theorem more_good {N : Int} {M : Nat} {y : Nat → Nat → Int} {L : Nat} {o : Nat → Int} {k : Int} {q : Bool} (hG : Good N M y L o) (hM : M ≤ 3000) (hk : k = 3 ∧ q = false ∨ k = 1 ∧ q = true) : Good N (M + L) (more y M o k q) L (outs' N M o L) := by
  have hL := hG.u
  refine ⟨hG.n0, hG.n1, by omega, hL, fun i hi => ?_, fun i hi => ?_⟩
  · rcases Nat.lt_or_ge i M with h | h
    · rw [more_old h, more_old h, more_old h]; exact hG.fit i h
    · obtain ⟨d, rfl⟩ : ∃ d, i = M + d := ⟨i - M, by omega⟩
      obtain ⟨e0, e1, e2⟩ := more_new (y := y) (M := M) (o := o) (k := k) (q := q) (i := d)
      rw [e0, e1, e2]
      have ho := hG.out d (by omega)
      rcases hk with ⟨rfl, rfl⟩ | ⟨rfl, rfl⟩
      · exact .inr ⟨rfl, ho.1, by omega, rfl⟩
      · refine .inl ⟨.inl rfl, ho.1, by omega, ?_, ?_⟩
        · exact ho.1
        · show o d < _
          omega
  · unfold outs'
    rw [if_pos hi]
    have := hG.n0
    omega
theorem more_vals {N : Nat} {M : Nat} {y : Nat → Nat → Int} {L : Nat} {o : Nat → Int} {k : Int} {q : Bool} (f : Nat → Bool) (hG : Good N M y L o) (i : Nat) (hi : i < L) :
    vals N f (more y M o k q) (M + L) (outs' N M o L i).toNat = gate k (vals N f y M (o i).toNat) (vals N f (more y M o k q) (M + i) (if q then o i else 0).toNat) := by
  have h0 : (outs' (N : Int) M o L i).toNat = N + (M + i) := by
    unfold outs'
    rw [if_pos hi]
    omega
  obtain ⟨e0, e1, e2⟩ := more_new (y := y) (M := M) (o := o) (k := k) (q := q) (i := i)
  rw [h0]
  obtain ⟨d, hd⟩ : ∃ d, M + L = M + i + 1 + d := ⟨L - i - 1, by omega⟩
  rw [hd, vals_old _ _ _ (M + i + 1) d (N + (M + i)) (by omega), vals_new, e0, e1, e2]
  have ho := hG.out i hi
  have h1 : vals N f (more y M o k q) (M + i) (o i).toNat = vals N f y M (o i).toNat := by
    rw [vals_old _ _ _ M i _ (by omega)]
    exact vals_congr M (fun _ _ => rfl) (fun i j hi _ => more_old hi) (fun i hi => by rw [more_old hi, more_old hi, more_old hi]; exact hG.fit i hi) _ (by omega)
  rw [h1]
theorem more_not {N : Nat} {M : Nat} {y : Nat → Nat → Int} {L : Nat} {o : Nat → Int} (f : Nat → Bool) (hG : Good N M y L o) (i : Nat) (hi : i < L) :
    vals N f (more y M o 3 false) (M + L) (outs' N M o L i).toNat = !vals N f y M (o i).toNat := by
  rw [more_vals f hG i hi]
  rfl
theorem more_xor {N : Nat} {M : Nat} {y : Nat → Nat → Int} {L : Nat} {o : Nat → Int} (f : Nat → Bool) (hG : Good N M y L o) (i : Nat) (hi : i < L) :
    vals N f (more y M o 1 true) (M + L) (outs' N M o L i).toNat = false := by
  rw [more_vals f hG i hi]
  have ho := hG.out i hi
  have h1 : vals N f (more y M o 1 true) (M + i) (if (true : Bool) then o i else 0).toNat = vals N f y M (o i).toNat := by
    rw [if_pos rfl, vals_old _ _ _ M i _ (by omega)]
    exact vals_congr M (fun _ _ => rfl) (fun i j hi _ => more_old hi) (fun i hi => by rw [more_old hi, more_old hi, more_old hi]; exact hG.fit i hi) _ (by omega)
  rw [h1]
  unfold gate
  rw [if_pos rfl]
  cases vals N f y M (o i).toNat <;> rfl
theorem more_ands {M : Nat} {y : Nat → Nat → Int} {L : Nat} {o : Nat → Int} {k : Int} {q : Bool} (hk : k ≠ 2) : ands (more y M o k q) (M + L) = ands y M := by
  rw [ands_more _ M L fun i h1 h2 => by
    obtain ⟨d, rfl⟩ : ∃ d, i = M + d := ⟨i - M, by omega⟩
    rw [more_new.1]; exact hk]
  exact ands_congr M fun i hi => more_old hi
end Circ
end Go.Proofs.YtoldgiejblekaaaDoorR
