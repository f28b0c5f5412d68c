/- Contract: Open. -/
import Derived.Test.YteadpnododjeaaaDoorLS3
import Derived.BigQuiet
namespace Go.Proofs.YteadpnododjeaaaDoor
open Go.RowKit

theorem drew_below (w : World) (B q : Nat) : Below B w (w.drewN q) := ⟨rfl, rfl, rfl, Nat.le_refl _, fun _ _ => rfl⟩
/-- What Open answers of a frame: the payload in new memory. -/
def Opened (w : World) (n : Nat) (f : Nat → Nat) (e : Ending) (w' : World) : Prop :=
  ∃ g, e = .returned (.tuple #[.int .u8 (f 0 : Int), .int .u32 (Link.num f : Int), frV ⟨g, n - 9, n - 9, fun j => f (j + 5)⟩, .bool true]) ∧ Lies w' w.heap.size ⟨g, n - 9, n - 9, fun j => f (j + 5)⟩ ∧ Below w.heap.size w w'
/-- What Open answers of other bytes. -/
def Refused (w : World) (e : Ending) (w' : World) : Prop :=
  e = .returned (.tuple #[.int .u8 0, .int .u32 0, .slice none 0 0, .bool false]) ∧ Below w.heap.size w w'
theorem results_tmp4 {fn : Func} {t u v x : Tmp} (h : fn.results = #[.tmp t, .tmp u, .tmp v, .tmp x]) (tmps : Array Value) (P : Program) (w : World) :
    (results fn tmps).run P w = .ok (.tuple #[tmps.getD t undef, tmps.getD u undef, tmps.getD v undef, tmps.getD x undef]) w := by
  simp [results, h]
set_option maxHeartbeats 1000000 in
set_option maxRecDepth 100000 in
theorem open_short (A : Option Addr) (n c : Nat) (w : World) (hn : n < 9) :
    Calls Tryd.prog 13 #[.slice A n c] w (Refused w) := by
  obtain ⟨E, hE⟩ : ∃ E : Int, E = (n : Int) - 4 := ⟨_, rfl⟩
  have e1 : IntKind.i64.wrap ((n : Int) - 4) = E := by rw [hE]; simp [IntKind.wrap, IntKind.bits, IntKind.signed]; omega
  have h5 : E < 5 := by omega
  clear hn hE
  go_enter Tryd.func13, Tryd.ntmps13
  go_wp2
  go_quiet (fail)
  go_wp2
  exact bodyPost_ret (results_tmp4 rfl _ _ _) rfl ⟨rfl, drew_below _ _ _⟩
/-- Nine bytes or more. -/
theorem open_pre {A : Option Addr} {n c E : Nat} {f : Nat → Nat} {w : World} (ht : Tab w) (hA : AtBO w A n f) (hf : ∀ i, f i < 256) (hE : n = E + 4) (h5 : 5 ≤ E) (hc : n ≤ c) (hn : n ≤ 150000000000000) :
    (∀ q, Calls Tryd.prog 32 #[.slice A n c, .int .i64 (E : Int)] (w.drewN q) fun e w' => e = .returned (.int .u32 (Link.le4 f E : Int)) ∧ w' = w.drewN q) ∧
    (∀ q, Calls Tryd.prog 29 #[.slice A E c] (w.drewN q) fun e w' => e = .returned (.int .u32 ((Link.reg 4294967295 f E ^^^ 4294967295 : Nat) : Int)) ∧ w' = w.drewN q) ∧
    (∀ wx, (Instr.slice 23 (.slice A n c) none (some (.int .i64 (E : Int))) none).run Tryd.prog wx = .ok (.slice A E c) wx) := by
  refine ⟨fun q => ?_, fun q => ?_, fun q => run_headB _ A n c E (by omega)⟩
  · exact (numberAt_any A n c f E (w.drewN q) (hA.below (drew_below _ _ _)) hf (by omega) hn).mono fun e w' ⟨h1, h2⟩ => ⟨h1, h2.symm⟩
  · exact (sumOf_any A E c f (w.drewN q) (fun k hk => ht k hk) (fun i hi => (hA.below (drew_below w _ q)) i (by omega)) hf (by omega)).mono fun e w' ⟨h1, h2⟩ => ⟨h1, h2.symm⟩
set_option maxHeartbeats 1000000 in
set_option maxRecDepth 100000 in
theorem open_sum (A : Option Addr) (n c : Nat) (f : Nat → Nat) (w : World) (ht : Tab w) (hA : AtBO w A n f) (hf : ∀ i, f i < 256) (h9 : 9 ≤ n) (hc : n ≤ c) (hn : n ≤ 150000000000000) (hs : Link.syn f (n - 4) ≠ 0) :
    Calls Tryd.prog 13 #[.slice A n c] w (Refused w) := by
  obtain ⟨E, hE⟩ : ∃ E, n = E + 4 := ⟨n - 4, by omega⟩
  have e1 : IntKind.i64.wrap ((n : Int) - 4) = (E : Int) := by rw [i64_nat _ (by omega) (by omega)]; omega
  obtain ⟨HN, HS, HH⟩ := open_pre ht hA hf hE (by omega) hc hn
  obtain ⟨ad, rfl, _⟩ := hA 0 (by omega)
  have k0 : ¬ (c : Int) < (E : Int) := by omega
  have k1 : decide ((E : Int) < 5) = false := decide_eq_false (by omega)
  have k2 : decide (E < 5) = false := decide_eq_false (by omega)
  rw [show n - 4 = E by omega, ne_eq, Link.syn_ok] at hs
  generalize Link.reg 4294967295 f E ^^^ 4294967295 = X at hs HS
  generalize Link.le4 f E = Y at hs HN
  have k3 : ((Y : Int) != (X : Int)) = true := by simp; omega
  have k4 : (Y != X) = true := by simp; omega
  have HN := Lib.hid HN
  have HS := Lib.hid HS
  clear ht hA hf h9 hc hn hE hs
  go_enter Tryd.func13, Tryd.ntmps13
  go_wp2
  go_quiet ((first | (go_at_call 32; exact Calls.quiet_of_same (HN.out _)) | (go_at_call 29; exact Calls.quiet_of_same (HS.out _))))
  go_wp2
  exact bodyPost_ret (results_tmp4 rfl _ _ _) rfl ⟨rfl, drew_below _ _ _⟩
/-- A right sum: kind and payload are looked at. -/
theorem open_mid {ad : Addr} {n c E : Nat} {f : Nat → Nat} {w : World} (hA : AtBO w (some ad) n f) (hE : n = E + 4) (h5 : 5 ≤ E) (hc : n ≤ c) :
    (∀ wx, (Instr.slice 23 (.slice (some ad) n c) (some (.int .i64 5)) (some (.int .i64 (E : Int))) none).run Tryd.prog wx = .ok (.slice (tl (some ad) c 5) (n - 9) (c - 5)) wx) ∧
    (∀ q, (w.drewN q).cell? ad = some (.int .u8 (f 0 : Int))) ∧ AtBO w (tl (some ad) c 5) (n - 9) (fun j => f (j + 5)) := by
  refine ⟨fun wx => ?_, fun q => ?_, ?_⟩
  · have := run_midB wx (some ad) n c 5 E h5 (by omega)
    rw [show E - 5 = n - 9 by omega] at this
    exact this
  · obtain ⟨ad', e, h⟩ := hA 0 (by omega)
    cases e
    have : (ad.add 0) = ad := by simp [Addr.add]
    rw [this] at h
    exact h
  · have := hA.tl (c := c) (l := 5) (k := n - 9) (by omega) hc
    exact this.congr fun i _ => by rw [Nat.add_comm]
set_option maxHeartbeats 2000000 in
set_option maxRecDepth 100000 in
theorem open_kind (A : Option Addr) (n c : Nat) (f : Nat → Nat) (w : World) (ht : Tab w) (hA : AtBO w A n f) (hf : ∀ i, f i < 256) (h9 : 9 ≤ n) (hc : n ≤ c) (hn : n ≤ 150000000000000) (hs : Link.syn f (n - 4) = 0) (hk : 1 < f 0 ∨ (f 0 = 1 ∧ n ≠ 9)) :
    Calls Tryd.prog 13 #[.slice A n c] w (Refused w) := by
  obtain ⟨E, hE⟩ : ∃ E, n = E + 4 := ⟨n - 4, by omega⟩
  have e1 : IntKind.i64.wrap ((n : Int) - 4) = (E : Int) := by rw [i64_nat _ (by omega) (by omega)]; omega
  obtain ⟨HN, HS, HH⟩ := open_pre ht hA hf hE (by omega) hc hn
  obtain ⟨ad, rfl, _⟩ := hA 0 (by omega)
  obtain ⟨hm1, hm2, _⟩ := open_mid hA hE (by omega) hc
  have k0 : ¬ (c : Int) < (E : Int) := by omega
  have k1 : decide ((E : Int) < 5) = false := decide_eq_false (by omega)
  have k2 : decide (E < 5) = false := decide_eq_false (by omega)
  rw [show n - 4 = E by omega, Link.syn_ok] at hs
  rw [hs] at HS
  generalize Link.le4 f E = Y at hs HN HS
  have HN := Lib.hid HN
  have HS := Lib.hid HS
  have k5 : (0 : Int) < (n : Int) := by omega
  generalize f 0 = K at hk hm2
  generalize hm : n - 9 = m at hm1
  generalize tl (some ad) c 5 = P at hm1
  generalize c - 5 = d at hm1
  by_cases hK : 1 < K
  · have k6 : (1 : Int) < (K : Int) := by omega
    clear ht hA hf h9 hc hn hE hs hk hK hm
    go_enter Tryd.func13, Tryd.ntmps13
    go_wp2
    go_quiet ((first | (go_at_call 32; exact Calls.quiet_of_same (HN.out _)) | (go_at_call 29; exact Calls.quiet_of_same (HS.out _))))
    go_wp2
    go_quiet (fail)
    go_wp2
    exact bodyPost_ret (results_tmp4 rfl _ _ _) rfl ⟨rfl, drew_below _ _ _⟩
  · obtain ⟨rfl, h9'⟩ : K = 1 ∧ n ≠ 9 := by omega
    have k6 : (0 : Int) < (m : Int) := by omega
    clear ht hA hf h9 hc hn hE hs hk hK hm h9'
    go_enter Tryd.func13, Tryd.ntmps13
    go_wp2
    go_quiet ((first | (go_at_call 32; exact Calls.quiet_of_same (HN.out _)) | (go_at_call 29; exact Calls.quiet_of_same (HS.out _))))
    go_wp2
    go_quiet (fail)
    go_wp2
    exact bodyPost_ret (results_tmp4 rfl _ _ _) rfl ⟨rfl, drew_below _ _ _⟩
set_option maxHeartbeats 2000000 in
set_option maxRecDepth 100000 in
theorem open_ok (A : Option Addr) (n c : Nat) (f : Nat → Nat) (w : World) (ht : Tab w) (hA : AtBO w A n f) (hf : ∀ i, f i < 256) (hc : n ≤ c) (hn : n ≤ 140737488355337) (hF : Link.isF f n) :
    Calls Tryd.prog 13 #[.slice A n c] w (Opened w n f) := by
  obtain ⟨h9, hk, hk1, hs⟩ := hF
  obtain ⟨E, hE⟩ : ∃ E, n = E + 4 := ⟨n - 4, by omega⟩
  have e1 : IntKind.i64.wrap ((n : Int) - 4) = (E : Int) := by rw [i64_nat _ (by omega) (by omega)]; omega
  obtain ⟨HN, HS, HH⟩ := open_pre ht hA hf hE (by omega) hc (by omega)
  obtain ⟨ad, rfl, _⟩ := hA 0 (by omega)
  obtain ⟨hm1, hm2, hm3⟩ := open_mid hA hE (by omega) hc
  have k0 : ¬ (c : Int) < (E : Int) := by omega
  have k1 : decide ((E : Int) < 5) = false := decide_eq_false (by omega)
  have k2 : decide (E < 5) = false := decide_eq_false (by omega)
  rw [show n - 4 = E by omega, Link.syn_ok] at hs
  rw [hs] at HS
  generalize Link.le4 f E = Y at hs HN HS
  have HN := Lib.hid HN
  have HS := Lib.hid HS
  have k5 : (0 : Int) < (n : Int) := by omega
  have HB := Lib.hid (And.intro hA (And.intro hf (And.intro hm3 (And.intro hn h9))))
  obtain ⟨K, hK⟩ : ∃ K, K = f 0 := ⟨_, rfl⟩
  rw [← hK] at hk hk1 hm2
  obtain ⟨m, hm⟩ : ∃ m, m = n - 9 := ⟨_, rfl⟩
  obtain ⟨P, hP⟩ : ∃ P, P = tl (some ad) c 5 := ⟨_, rfl⟩
  obtain ⟨d, hd⟩ : ∃ d, d = c - 5 := ⟨_, rfl⟩
  rw [← hm, ← hP, ← hd] at hm1
  have HE := Lib.hid (And.intro hK (And.intro hm (And.intro hP hd)))
  have hm0 : K = 1 → m = 0 := fun h => by have := hk1 h; omega
  clear ht hA hf hc hn hE hs hk1 hm3 hK hm hP hd h9
  rcases (show K = 0 ∨ K = 1 by omega) with rfl | rfl
  · clear hk hm0
    go_enter Tryd.func13, Tryd.ntmps13
    go_wp2
    go_quiet ((first | (go_at_call 32; exact Calls.quiet_of_same (HN.out _)) | (go_at_call 29; exact Calls.quiet_of_same (HS.out _))))
    go_wp2
    go_quiet (fail)
    clear hm1 hm2 HH
    go_wp2_with fail
    refine (numberAt_any (some ad) n c f 1 _ (HB.out.1.below (drew_below _ _ _)) HB.out.2.1 (by have := HB.out.2.2.2.2; omega) (by have := HB.out.2.2.2.1; omega)).mono ?_
    rintro e w2 ⟨rfl, rfl⟩
    go_wp2_with fail
    refine (copyOf_any P m d (fun j => f (j + 5)) _ (by rw [HE.out.2.1, HE.out.2.2.1]; exact HB.out.2.2.1.below (drew_below _ _ _)) (fun i => HB.out.2.1 _) (by have := HB.out.2.2.2.1; have := HE.out.2.1; omega)).mono ?_
    rintro e w3 ⟨rfl, hl, hb, _⟩
    have HL := Lib.hid (And.intro hl hb)
    clear hl hb
    go_wp2
    refine bodyPost_ret (results_tmp4 rfl _ _ _) rfl ⟨w.heap.size, ?_, ?_, (drew_below _ _ _).trans HL.out.2⟩
    · rw [← HE.out.2.1, ← HE.out.1]; rfl
    · rw [← HE.out.2.1]; exact HL.out.1
  · have hmm := hm0 rfl
    rw [hmm] at hm1 HE
    clear hk hm0 hmm
    go_enter Tryd.func13, Tryd.ntmps13
    go_wp2
    go_quiet ((first | (go_at_call 32; exact Calls.quiet_of_same (HN.out _)) | (go_at_call 29; exact Calls.quiet_of_same (HS.out _))))
    go_wp2
    go_quiet (fail)
    clear hm1 hm2 HH
    go_wp2_with fail
    refine (numberAt_any (some ad) n c f 1 _ (HB.out.1.below (drew_below _ _ _)) HB.out.2.1 (by have := HB.out.2.2.2.2; omega) (by have := HB.out.2.2.2.1; omega)).mono ?_
    rintro e w2 ⟨rfl, rfl⟩
    go_wp2_with fail
    refine (copyOf_any P 0 d (fun j => f (j + 5)) _ (by rw [HE.out.2.1, HE.out.2.2.1]; exact HB.out.2.2.1.below (drew_below _ _ _)) (fun i => HB.out.2.1 _) (by have := HB.out.2.2.2.1; have := HE.out.2.1; omega)).mono ?_
    rintro e w3 ⟨rfl, hl, hb, _⟩
    have HL := Lib.hid (And.intro hl hb)
    clear hl hb
    go_wp2
    refine bodyPost_ret (results_tmp4 rfl _ _ _) rfl ⟨w.heap.size, ?_, ?_, (drew_below _ _ _).trans HL.out.2⟩
    · rw [← HE.out.2.1, ← HE.out.1]; rfl
    · rw [← HE.out.2.1]; exact HL.out.1
/-- Open, of any bytes. -/
theorem open_any (A : Option Addr) (n c : Nat) (f : Nat → Nat) (w : World) (ht : Tab w) (hA : AtBO w A n f) (hf : ∀ i, f i < 256) (hc : n ≤ c) (hn : n ≤ 140737488355337) :
    Calls Tryd.prog 13 #[.slice A n c] w fun e w' => (Link.isF f n ∧ Opened w n f e w') ∨ (¬ Link.isF f n ∧ Refused w e w') := by
  by_cases hF : Link.isF f n
  · exact (open_ok A n c f w ht hA hf hc hn hF).mono fun e w' h => .inl ⟨hF, h⟩
  · refine Calls.mono (R := Refused w) ?_ fun e w' h => .inr ⟨hF, h⟩
    by_cases h9 : n < 9
    · exact open_short A n c w h9
    · by_cases hs : Link.syn f (n - 4) = 0
      · exact open_kind A n c f w ht hA hf (by omega) hc (by omega) hs (by
          by_cases h1 : 1 < f 0
          · exact .inl h1
          · by_cases h0 : f 0 = 1
            · exact .inr ⟨h0, fun e => hF ⟨by omega, by omega, fun _ => e, hs⟩⟩
            · exact absurd ⟨by omega, by omega, fun e => absurd e h0, hs⟩ hF)
      · exact open_sum A n c f w ht hA hf (by omega) hc (by omega) hs
end Go.Proofs.YteadpnododjeaaaDoor
