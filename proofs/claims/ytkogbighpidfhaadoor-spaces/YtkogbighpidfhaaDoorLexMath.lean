/- Plain mathematics for the lexer's laws: bytes as numbers; what stands between tokens, a token, all tokens of a list of bytes; what stays the same in another text. No function of the program. -/
import Derived.KernelRfl
namespace Go.Proofs.YtkogbighpidfhaaDoor
namespace Lx

/-- A byte that stands between tokens. -/
def sp (c : Nat) : Bool := c == 32 || c == 10 || c == 9 || c == 13
def letter (c : Nat) : Bool := Nat.ble 97 c && Nat.ble c 122
def digit (c : Nat) : Bool := Nat.ble 48 c && Nat.ble c 57
/-- A byte that may not stand behind a number. -/
def low (c : Nat) : Bool := letter c || c == 95
/-- A byte of a name, but for the first. -/
def namec (c : Nat) : Bool := letter c || digit c || c == 95
/-- A sign of one byte. -/
def sign (c : Nat) : Bool := c == 43 || c == 45 || c == 42 || c == 64 || c == 60 || c == 61 || c == 40 || c == 41 || c == 91 || c == 93 || c == 44 || c == 59
theorem letter_iff (c : Nat) : letter c = true ↔ 97 ≤ c ∧ c ≤ 122 := by simp [letter, Nat.ble_eq]
theorem digit_iff (c : Nat) : digit c = true ↔ 48 ≤ c ∧ c ≤ 57 := by simp [digit, Nat.ble_eq]
theorem low_iff (c : Nat) : low c = true ↔ 97 ≤ c ∧ c ≤ 122 ∨ c = 95 := by simp [low, letter_iff]
theorem namec_iff (c : Nat) : namec c = true ↔ (97 ≤ c ∧ c ≤ 122 ∨ 48 ≤ c ∧ c ≤ 57) ∨ c = 95 := by simp [namec, letter_iff, digit_iff]
theorem sp_iff (c : Nat) : sp c = true ↔ c = 32 ∨ c = 10 ∨ c = 9 ∨ c = 13 := by simp [sp, or_assoc]
theorem sign_iff (c : Nat) : sign c = true ↔ c = 43 ∨ c = 45 ∨ c = 42 ∨ c = 64 ∨ c = 60 ∨ c = 61 ∨ c = 40 ∨ c = 41 ∨ c = 91 ∨ c = 93 ∨ c = 44 ∨ c = 59 := by simp [sign, or_assoc]

/-- How many bytes stand ahead of a token, from inside a remark or not. -/
def gap : Bool → List Nat → Nat
  | _, [] => 0
  | true, c :: l => gap (c != 10) l + 1
  | false, c :: l => if c = 35 then gap true l + 1 else if sp c then gap false l + 1 else 0
/-- How many bytes ahead are such. -/
def run (p : Nat → Bool) : List Nat → Nat
  | [] => 0
  | c :: l => if p c then run p l + 1 else 0
/-- The value of digits behind a value. -/
def val : Nat → List Nat → Nat
  | v, [] => v
  | v, c :: l => val (v * 10 + (c - 48)) l
/-- Is the first byte one that may not stand behind a number? -/
def lowAt : List Nat → Bool
  | [] => false
  | c :: _ => low c
/-- Is there none ahead that goes on a name or a number? -/
def stop : List Nat → Bool
  | [] => true
  | c :: _ => !namec c
def words : List (List Nat) := [[105, 110, 112, 117, 116], [108, 101, 116], [111, 117, 116, 112, 117, 116], [114, 101, 108, 117], [115, 117, 109], [97, 114, 103, 109, 97, 120], [109, 97, 120], [109, 117, 120]]
def isWord (l : List Nat) : Bool := words.contains l
/-- Does a second such byte follow? -/
def twice : List Nat → Bool
  | [] => false
  | c :: _ => c == 62
/-- The token ahead, if there is one: its kind, its length, its number. -/
def tok : List Nat → Option (Nat × Nat × Nat)
  | [] => none
  | c :: r =>
    if digit c then
      if val 0 ((c :: r).take (run digit (c :: r))) < 18446744073709551616 ∧ (run digit (c :: r) = 1 ∨ c ≠ 48) ∧ lowAt ((c :: r).drop (run digit (c :: r))) = false then
        some (2, run digit (c :: r), val 0 ((c :: r).take (run digit (c :: r)))) else none
    else if letter c then
      if run namec (c :: r) ≤ 16 then some (if isWord ((c :: r).take (run namec (c :: r))) then 4 else 1, run namec (c :: r), 0) else none
    else if c = 62 then (if twice r then some (3, 2, 0) else none)
    else if sign c then some (3, 1, 0) else none
/-- A token: its kind, where it begins, its length, its number. -/
abbrev Tk := Nat × Nat × Nat × Nat
/-- All tokens, so many of them being there already: or the code of what is wrong, and where. -/
def toksF : Nat → List Nat → Nat → Nat → Except (Nat × Nat) (List Tk)
  | 0, _, _, _ => .ok []
  | k + 1, l, at_, cnt =>
    match l.drop (gap false l) with
    | [] => .ok []
    | c :: r =>
      match tok (c :: r) with
      | none => .error (120, at_ + gap false l)
      | some (kind, len, num) =>
        if 512 ≤ cnt then .error (5, at_ + gap false l) else
          match toksF k ((c :: r).drop len) (at_ + gap false l + len) (cnt + 1) with
          | .error e => .error e
          | .ok ts => .ok ((kind, at_ + gap false l, len, num) :: ts)
def toks (l : List Nat) (at_ cnt : Nat) : Except (Nat × Nat) (List Tk) := toksF l.length l at_ cnt

theorem drop_more (u v : List Nat) (n : Nat) : (u ++ v).drop (u.length + n) = v.drop n := by rw [← List.drop_drop, List.drop_left]
theorem gap_le : ∀ (l : List Nat) (b : Bool), gap b l ≤ l.length
  | [], b => by cases b <;> exact Nat.le_refl _
  | c :: l, true => by simpa [gap] using gap_le l (c != 10)
  | c :: l, false => by
    have h1 := gap_le l true
    have h2 := gap_le l false
    simp only [gap, List.length_cons]
    split
    · omega
    · split <;> omega
theorem run_le (p : Nat → Bool) : ∀ l : List Nat, run p l ≤ l.length
  | [] => Nat.le_refl _
  | c :: l => by
    have := run_le p l
    simp only [run, List.length_cons]
    split <;> omega
theorem run_all (p : Nat → Bool) : ∀ (l : List Nat) (i : Nat) (_ : i < run p l), ∃ hi : i < l.length, p l[i] = true
  | [], i, h => absurd h (Nat.not_lt_zero _)
  | c :: l, i, h => by
    simp only [run] at h
    split at h
    · rename_i hc
      rcases i with _ | i
      · exact ⟨by simp, hc⟩
      · obtain ⟨hi, hp⟩ := run_all p l i (by omega)
        exact ⟨by simpa using hi, by simpa using hp⟩
    · exact absurd h (Nat.not_lt_zero _)
/-- Behind a run stands nothing, or a byte that isn't such. -/
theorem run_end (p : Nat → Bool) : ∀ (l : List Nat) (h : run p l < l.length), p (l[run p l]) = false
  | [], h => absurd h (Nat.not_lt_zero _)
  | c :: l, h => by
    simp only [run] at h ⊢
    split
    · rename_i hc
      rw [if_pos hc] at h
      simpa using run_end p l (by simpa using h)
    · rename_i hc
      simpa using hc
/-- The run of a list whose first such bytes are known. -/
theorem run_eq (p : Nat → Bool) : ∀ (u v : List Nat), (∀ c ∈ u, p c = true) → (match v with | [] => True | c :: _ => p c = false) → run p (u ++ v) = u.length
  | [], [], _, _ => rfl
  | [], c :: v, _, h => by simp only [List.nil_append, run, List.length_nil]; rw [if_neg (by simp [h])]
  | c :: u, v, hu, hv => by
    simp only [List.cons_append, run, List.length_cons]
    rw [if_pos (hu c (by simp)), run_eq p u v (fun d hd => hu d (by simp [hd])) hv]
theorem run_take (p : Nat → Bool) (l : List Nat) : ∀ c ∈ l.take (run p l), p c = true := by
  intro c hc
  obtain ⟨i, hi, e⟩ := List.getElem_of_mem hc
  obtain ⟨_, hp⟩ := run_all p l i (by rw [List.length_take] at hi; omega)
  rw [← e, List.getElem_take]
  exact hp
theorem stop_cons {c : Nat} {v : List Nat} : stop (c :: v) = true ↔ namec c = false := by simp [stop]
theorem namec_digit {c : Nat} (h : digit c = true) : namec c = true := by rw [namec_iff]; rw [digit_iff] at h; omega
theorem namec_low {c : Nat} (h : low c = true) : namec c = true := by rw [namec_iff]; rw [low_iff] at h; omega
theorem namec_letter {c : Nat} (h : letter c = true) : namec c = true := by rw [namec_iff]; rw [letter_iff] at h; omega
theorem stop_digit : ∀ {v : List Nat}, stop v = true → (match v with | [] => True | c :: _ => digit c = false)
  | [], _ => trivial
  | c :: v, h => by
    rw [stop_cons] at h
    show digit c = false
    cases hd : digit c
    · rfl
    · rw [namec_digit hd] at h; cases h
theorem stop_namec : ∀ {v : List Nat}, stop v = true → (match v with | [] => True | c :: _ => namec c = false)
  | [], _ => trivial
  | _ :: _, h => stop_cons.1 h
theorem stop_low : ∀ {v : List Nat}, stop v = true → lowAt v = false
  | [], _ => rfl
  | c :: v, h => by
    rw [stop_cons] at h
    show low c = false
    cases hd : low c
    · rfl
    · rw [namec_low hd] at h; cases h

/-- What a token is, by its first byte. -/
theorem tok_cases {c : Nat} {r : List Nat} {kind len num : Nat} (h : tok (c :: r) = some (kind, len, num)) :
    digit c = true ∧ kind = 2 ∧ len = run digit (c :: r) ∧ num = val 0 ((c :: r).take len) ∧ num < 18446744073709551616 ∧ (len = 1 ∨ c ≠ 48) ∧ lowAt ((c :: r).drop len) = false ∨
    letter c = true ∧ kind = (if isWord ((c :: r).take len) then 4 else 1) ∧ len = run namec (c :: r) ∧ len ≤ 16 ∧ num = 0 ∨
    c = 62 ∧ twice r = true ∧ kind = 3 ∧ len = 2 ∧ num = 0 ∨
    digit c = false ∧ letter c = false ∧ c ≠ 62 ∧ sign c = true ∧ kind = 3 ∧ len = 1 ∧ num = 0 := by
  simp only [tok] at h
  split at h
  · rename_i hd
    split at h
    · rename_i hk
      simp only [Option.some.injEq, Prod.mk.injEq] at h
      obtain ⟨rfl, rfl, rfl⟩ := h
      exact .inl ⟨hd, rfl, rfl, rfl, hk.1, hk.2.1, hk.2.2⟩
    · cases h
  · rename_i hd
    split at h
    · rename_i hl
      split at h
      · rename_i hk
        simp only [Option.some.injEq, Prod.mk.injEq] at h
        obtain ⟨rfl, rfl, rfl⟩ := h
        exact .inr (.inl ⟨hl, rfl, rfl, hk, rfl⟩)
      · cases h
    · rename_i hl
      split at h
      · rename_i hc
        split at h
        · rename_i ht
          simp only [Option.some.injEq, Prod.mk.injEq] at h
          obtain ⟨rfl, rfl, rfl⟩ := h
          exact .inr (.inr (.inl ⟨hc, ht, rfl, rfl, rfl⟩))
        · cases h
      · rename_i hc
        split at h
        · rename_i hs
          simp only [Option.some.injEq, Prod.mk.injEq] at h
          obtain ⟨rfl, rfl, rfl⟩ := h
          exact .inr (.inr (.inr ⟨by simpa using hd, by simpa using hl, hc, hs, rfl, rfl, rfl⟩))
        · cases h
theorem tok_nil : tok [] = none := rfl
theorem run_pos {p : Nat → Bool} {c : Nat} {r : List Nat} (h : p c = true) : 0 < run p (c :: r) := by
  simp only [run]; rw [if_pos h]; omega
theorem tok_len {l : List Nat} {kind len num : Nat} (h : tok l = some (kind, len, num)) : 0 < len ∧ len ≤ l.length := by
  rcases l with _ | ⟨c, r⟩
  · cases h
  · rcases tok_cases h with ⟨hd, _, e, _⟩ | ⟨hl, _, e, _⟩ | ⟨_, ht, _, e, _⟩ | ⟨_, _, _, _, _, e, _⟩
    · subst e; exact ⟨run_pos hd, run_le _ _⟩
    · subst e; exact ⟨run_pos (namec_letter hl), run_le _ _⟩
    · subst e
      rcases r with _ | ⟨d, r⟩
      · cases ht
      · simp
    · subst e; simp
/-- A token's first byte is no byte that stands ahead of one. -/
theorem tok_gap {l : List Nat} {t : Nat × Nat × Nat} (h : tok l = some t) : gap false l = 0 := by
  rcases l with _ | ⟨c, r⟩
  · rfl
  · obtain ⟨kind, len, num⟩ := t
    have hc : c ≠ 35 ∧ sp c = false := by
      rcases tok_cases h with ⟨hd, _⟩ | ⟨hl, _⟩ | ⟨e, _⟩ | ⟨_, _, _, hs, _⟩
      · rw [digit_iff] at hd
        exact ⟨by omega, by rw [Bool.eq_false_iff]; intro h; rw [sp_iff] at h; omega⟩
      · rw [letter_iff] at hl
        exact ⟨by omega, by rw [Bool.eq_false_iff]; intro h; rw [sp_iff] at h; omega⟩
      · subst e; exact ⟨by omega, rfl⟩
      · rw [sign_iff] at hs
        exact ⟨by omega, by rw [Bool.eq_false_iff]; intro h; rw [sp_iff] at h; omega⟩
    simp only [gap]
    rw [if_neg hc.1, if_neg (by simp [hc.2])]
/-- A token stands so in any text, if nothing behind it goes on. -/
theorem tok_local {u v : List Nat} {kind num : Nat} (h : tok (u ++ v) = some (kind, u.length, num)) (v' : List Nat) (hs : stop v' = true) :
    tok (u ++ v') = some (kind, u.length, num) := by
  rcases u with _ | ⟨c, u⟩
  · exact absurd (tok_len h).1 (Nat.not_lt_zero _)
  · rw [List.cons_append] at h
    have ht : ∀ w : List Nat, (c :: (u ++ w)).take (c :: u).length = c :: u := fun w => by
      rw [← List.cons_append, List.take_left]
    have hdr : ∀ w : List Nat, (c :: (u ++ w)).drop (c :: u).length = w := fun w => by
      rw [← List.cons_append, List.drop_left]
    rcases tok_cases h with ⟨hd, rfl, e, e2, h1, h2, h3⟩ | ⟨hl, hk, e, h1, rfl⟩ | ⟨rfl, ht2, rfl, e, rfl⟩ | ⟨hd, hl, h62, hsg, rfl, e, rfl⟩
    · rw [ht] at e2
      have hu : ∀ d ∈ c :: u, digit d = true := by
        have := run_take digit (c :: (u ++ v))
        rw [← e, ht] at this
        exact this
      have hr : run digit (c :: (u ++ v')) = (c :: u).length := run_eq digit (c :: u) v' hu (stop_digit hs)
      rw [List.cons_append]
      simp only [tok]
      rw [if_pos hd, hr, ht, hdr, ← e2, if_pos ⟨h1, h2, stop_low hs⟩]
    · rw [ht] at hk
      have hu : ∀ d ∈ c :: u, namec d = true := by
        have := run_take namec (c :: (u ++ v))
        rw [← e, ht] at this
        exact this
      have hr : run namec (c :: (u ++ v')) = (c :: u).length := run_eq namec (c :: u) v' hu (stop_namec hs)
      rw [List.cons_append]
      simp only [tok]
      have hnd : ¬ digit c = true := by
        rw [letter_iff] at hl; rw [digit_iff]; omega
      rw [if_neg hnd, if_pos hl, hr, ht, if_pos h1, hk]
    · rcases u with _ | ⟨d, u⟩
      · simp at e
      · have hu : u = [] := by
          have : u.length = 0 := by simpa using e
          exact List.length_eq_zero_iff.1 this
        subst hu
        have hd : d = 62 := by simpa [twice] using ht2
        subst hd
        rfl
    · have hu : u = [] := by
        have : u.length = 0 := by simpa using e
        exact List.length_eq_zero_iff.1 this
      subst hu
      simp only [List.cons_append, List.nil_append, tok]
      rw [if_neg (by simp [hd]), if_neg (by simp [hl]), if_neg h62, if_pos hsg]
      rfl
theorem run_before (p : Nat → Bool) : ∀ (l w : List Nat), run p l < l.length → run p (l ++ w) = run p l
  | [], w, h => absurd h (Nat.not_lt_zero _)
  | c :: l, w, h => by
    simp only [run, List.cons_append, List.length_cons] at h ⊢
    split
    · rename_i hc
      rw [if_pos hc] at h
      rw [run_before p l w (by omega)]
    · rfl
theorem lowAt_more : ∀ {l : List Nat} (w : List Nat), l ≠ [] → lowAt (l ++ w) = lowAt l
  | [], _, h => absurd rfl h
  | _ :: _, _, _ => rfl
theorem twice_more : ∀ {l : List Nat} (w : List Nat), l ≠ [] → twice (l ++ w) = twice l
  | [], _, h => absurd rfl h
  | _ :: _, _, _ => rfl
/-- A token that ends ahead of the text's end is the same, whatever follows. -/
theorem tok_more {q : List Nat} {kind len num : Nat} (h : tok q = some (kind, len, num)) (hlen : len < q.length) (w : List Nat) : tok (q ++ w) = some (kind, len, num) := by
  rcases q with _ | ⟨c, r⟩
  · cases h
  · have ht : ((c :: r) ++ w).take len = (c :: r).take len := by rw [List.take_append_of_le_length (by omega)]
    have hdr : ((c :: r) ++ w).drop len = (c :: r).drop len ++ w := by rw [List.drop_append_of_le_length (by omega)]
    have hne : (c :: r).drop len ≠ [] := by
      intro h0
      have := congrArg List.length h0
      rw [List.length_drop, List.length_nil] at this
      omega
    rcases tok_cases h with ⟨hd, rfl, e, e2, h1, h2, h3⟩ | ⟨hl, hk, e, h1, rfl⟩ | ⟨rfl, ht2, rfl, e, rfl⟩ | ⟨hd, hl, h62, hsg, rfl, e, rfl⟩
    · have hr : run digit ((c :: r) ++ w) = len := by rw [run_before digit _ w (by omega)]; exact e.symm
      rw [List.cons_append] at ht hdr hr ⊢
      simp only [tok]
      rw [if_pos hd, hr, ht, hdr, ← e2, if_pos ⟨h1, h2, by rw [lowAt_more w hne]; exact h3⟩]
    · have hr : run namec ((c :: r) ++ w) = len := by rw [run_before namec _ w (by omega)]; exact e.symm
      have hnd : ¬ digit c = true := by
        rw [letter_iff] at hl; rw [digit_iff]; omega
      rw [List.cons_append] at ht hdr hr ⊢
      simp only [tok]
      rw [if_neg hnd, if_pos hl, hr, ht, if_pos h1, hk]
    · have hr : r ≠ [] := by intro h0; subst h0; cases ht2
      subst e
      simp only [List.cons_append, tok]
      rw [twice_more w hr, ht2]
      rfl
    · subst e
      simp only [List.cons_append, tok]
      rw [if_neg (by simp [hd]), if_neg (by simp [hl]), if_neg h62, if_pos hsg]

/-- All tokens, as a relation. -/
inductive Toks : List Nat → Nat → List Tk → Prop
  | nil {l : List Nat} {a : Nat} (h : l.drop (gap false l) = []) : Toks l a []
  | cons {l : List Nat} {a kind len num : Nat} {ts : List Tk} (h : tok (l.drop (gap false l)) = some (kind, len, num))
      (ht : Toks ((l.drop (gap false l)).drop len) (a + gap false l + len) ts) : Toks l a ((kind, a + gap false l, len, num) :: ts)
theorem toksF_nil (k a cnt : Nat) : toksF k [] a cnt = .ok [] := by cases k <;> rfl
/-- More steps make nothing else. -/
theorem toksF_more : ∀ (k : Nat) (l : List Nat) (a cnt : Nat), l.length ≤ k → toksF k l a cnt = toksF (k + 1) l a cnt
  | 0, l, a, cnt, h => by
    rw [List.length_eq_zero_iff.1 (Nat.le_zero.1 h)]; rfl
  | k + 1, l, a, cnt, h => by
    rw [toksF, toksF]
    generalize hd : l.drop (gap false l) = l'
    have hl : l'.length ≤ l.length := by rw [← hd, List.length_drop]; omega
    rcases l' with _ | ⟨c, r⟩
    · rfl
    · dsimp only
      generalize ht : tok (c :: r) = t
      rcases t with _ | ⟨kind, len, num⟩
      · rfl
      · dsimp only
        have := tok_len ht
        rw [toksF_more k ((c :: r).drop len) (a + gap false l + len) (cnt + 1) (by rw [List.length_drop]; omega)]
theorem toksF_any (k : Nat) (l : List Nat) (a cnt : Nat) (h : l.length ≤ k) : toksF k l a cnt = toks l a cnt := by
  obtain ⟨d, rfl⟩ : ∃ d, k = l.length + d := ⟨k - l.length, by omega⟩
  induction d with
  | zero => rfl
  | succ d ih => rw [show l.length + (d + 1) = (l.length + d) + 1 from rfl, ← toksF_more _ _ _ _ (by omega), ih (by omega)]
theorem toks_nil {l : List Nat} {a cnt : Nat} (h : l.drop (gap false l) = []) : toks l a cnt = .ok [] := by
  rw [← toksF_any (l.length + 1) l a cnt (by omega), toksF, h]
theorem toks_none {l : List Nat} {a cnt : Nat} (hn : l.drop (gap false l) ≠ []) (h : tok (l.drop (gap false l)) = none) : toks l a cnt = .error (120, a + gap false l) := by
  rw [← toksF_any (l.length + 1) l a cnt (by omega), toksF]
  generalize l.drop (gap false l) = l' at h hn
  rcases l' with _ | ⟨c, r⟩
  · exact absurd rfl hn
  · dsimp only; rw [h]
theorem toks_full {l : List Nat} {a cnt : Nat} {t : Nat × Nat × Nat} (h : tok (l.drop (gap false l)) = some t) (hc : 512 ≤ cnt) : toks l a cnt = .error (5, a + gap false l) := by
  rw [← toksF_any (l.length + 1) l a cnt (by omega), toksF]
  generalize l.drop (gap false l) = l' at h
  rcases l' with _ | ⟨c, r⟩
  · cases h
  · dsimp only; rw [h]; dsimp only; rw [if_pos hc]
theorem toks_cons {l : List Nat} {a cnt kind len num : Nat} (h : tok (l.drop (gap false l)) = some (kind, len, num)) (hc : cnt < 512) :
    toks l a cnt = (match toks ((l.drop (gap false l)).drop len) (a + gap false l + len) (cnt + 1) with | .error e => .error e | .ok ts => .ok ((kind, a + gap false l, len, num) :: ts)) := by
  rw [← toksF_any (l.length + 1) l a cnt (by omega), toksF]
  have hl : (l.drop (gap false l)).length ≤ l.length := by rw [List.length_drop]; omega
  generalize l.drop (gap false l) = l' at h hl ⊢
  rcases l' with _ | ⟨c, r⟩
  · cases h
  · dsimp only
    rw [h]
    dsimp only
    rw [if_neg (by omega), toksF_any l.length _ _ _ (by rw [List.length_drop]; omega)]
theorem toks_of {l : List Nat} {a : Nat} {ts : List Tk} (h : Toks l a ts) : ∀ cnt, cnt + ts.length ≤ 512 → toks l a cnt = .ok ts := by
  induction h with
  | nil h => exact fun cnt _ => toks_nil h
  | cons h _ ih =>
    intro cnt hc
    rw [toks_cons h (by simp at hc; omega), ih (cnt + 1) (by simp at hc; omega)]
/-- What has tokens is read so; there are no more than may be. -/
theorem toks_ok : ∀ (n : Nat) (l : List Nat) (a cnt : Nat) (ts : List Tk), l.length ≤ n → toks l a cnt = .ok ts → Toks l a ts ∧ (ts = [] ∨ cnt + ts.length ≤ 512)
  | n, l, a, cnt, ts, hn, h => by
    by_cases h0 : l.drop (gap false l) = []
    · rw [toks_nil h0] at h
      cases h
      exact ⟨.nil h0, .inl rfl⟩
    · generalize ht : tok (l.drop (gap false l)) = t
      rcases t with _ | ⟨kind, len, num⟩
      · rw [toks_none h0 ht] at h; cases h
      · by_cases hc : 512 ≤ cnt
        · rw [toks_full ht hc] at h; cases h
        · rw [toks_cons ht (by omega)] at h
          have hle := tok_len ht
          rw [List.length_drop] at hle
          generalize hq : toks ((l.drop (gap false l)).drop len) (a + gap false l + len) (cnt + 1) = q at h
          rcases q with e | us
          · cases h
          · cases h
            rcases n with _ | n
            · omega
            · obtain ⟨h1, h2⟩ := toks_ok n _ _ _ _ (by rw [List.length_drop, List.length_drop]; omega) hq
              refine ⟨.cons ht h1, .inr ?_⟩
              rcases h2 with rfl | h2
              · simp; omega
              · simp; omega

/-- A token by itself: its kind, its text, its number. -/
def GoodTok (kind : Nat) (u : List Nat) (num : Nat) : Prop := ∀ v, stop v = true → tok (u ++ v) = some (kind, u.length, num)
/-- What may stand between tokens. -/
structure Sep (w : List Nat) : Prop where
  gap : ∀ l, gap false (w ++ l) = w.length + gap false l
  stop : ∀ l, stop (w ++ l) = true
theorem good_of {l : List Nat} {kind len num : Nat} (h : tok l = some (kind, len, num)) : GoodTok kind (l.take len) num := by
  have hl := tok_len h
  intro v hv
  refine tok_local (v := l.drop len) ?_ v hv
  rw [List.take_append_drop, h, List.length_take, Nat.min_eq_left hl.2]
/-- Tokens one behind the other, each with what stands behind it. -/
def cat : List (Nat × List Nat × Nat × List Nat) → List Nat
  | [] => []
  | (_, u, _, w) :: ps => u ++ (w ++ cat ps)
def place : Nat → List (Nat × List Nat × Nat × List Nat) → List Tk
  | _, [] => []
  | a, (kind, u, num, w) :: ps => (kind, a, u.length, num) :: place (a + u.length + w.length) ps
/-- From a gap on, the same. -/
theorem Toks.gapped {w l : List Nat} {a : Nat} {ts : List Tk} (hw : ∀ l, Lx.gap false (w ++ l) = w.length + Lx.gap false l) (h : Toks l (a + w.length) ts) : Toks (w ++ l) a ts := by
  have hd : (w ++ l).drop (Lx.gap false (w ++ l)) = l.drop (Lx.gap false l) := by rw [hw, drop_more]
  cases h with
  | nil h => exact .nil (hd.trans h)
  | cons h ht =>
    rw [← hd] at h
    have := Toks.cons (l := w ++ l) (a := a) h (by rw [hd, hw, ← Nat.add_assoc]; exact ht)
    rw [hw, ← Nat.add_assoc] at this
    exact this
theorem toks_cat (tail : List Nat) (ht : ∀ a, Toks tail a []) : ∀ (ps : List (Nat × List Nat × Nat × List Nat)) (a : Nat),
    (∀ p ∈ ps, GoodTok p.1 p.2.1 p.2.2.1 ∧ Sep p.2.2.2) → Toks (cat ps ++ tail) a (place a ps)
  | [], a, _ => ht a
  | (kind, u, num, w) :: ps, a, h => by
    obtain ⟨hg, hs⟩ := h (kind, u, num, w) (by simp)
    have hk : tok (u ++ (w ++ (cat ps ++ tail))) = some (kind, u.length, num) := hg _ (hs.stop _)
    have h0 := tok_gap hk
    have ih := toks_cat tail ht ps (a + u.length + w.length) fun p hp => h p (by simp [hp])
    have e : cat ((kind, u, num, w) :: ps) ++ tail = u ++ (w ++ (cat ps ++ tail)) := by simp [cat]
    rw [e]
    have := Toks.cons (l := u ++ (w ++ (cat ps ++ tail))) (a := a) (kind := kind) (len := u.length) (num := num) (ts := place (a + u.length + w.length) ps)
      (by rw [h0]; exact hk) (by rw [h0, List.drop_zero, List.drop_left]; exact Toks.gapped hs.gap ih)
    rw [h0] at this
    exact this
/-- The tokens of a text, as good tokens with their texts. -/
theorem Toks.good {l : List Nat} {a : Nat} {ts : List Tk} (h : Toks l a ts) (T : List Nat) (hT : T.drop a = l) :
    ∀ t ∈ ts, GoodTok t.1 ((T.drop t.2.1).take t.2.2.1) t.2.2.2 ∧ t.2.1 + t.2.2.1 ≤ T.length ∧ 0 < t.2.2.1 := by
  induction h with
  | nil _ => intro t ht; cases ht
  | @cons l a kind len num ts h _ ih =>
    subst hT
    have hl := tok_len h
    rw [List.drop_drop] at h
    rw [List.drop_drop] at hl
    rw [List.length_drop] at hl
    intro t ht
    rcases List.mem_cons.1 ht with rfl | ht
    · exact ⟨good_of h, by dsimp only; omega, hl.1⟩
    · exact ih (by simp only [List.drop_drop, Nat.add_assoc]) t ht
theorem Toks.shift {l : List Nat} {a : Nat} {ts : List Tk} (h : Toks l a ts) (d : Nat) : Toks l (a + d) (ts.map fun t => (t.1, t.2.1 + d, t.2.2.1, t.2.2.2)) := by
  induction h with
  | nil h => exact .nil h
  | @cons l a kind len num ts h _ ih =>
    have := Toks.cons (l := l) (a := a + d) h (by rw [show a + d + Lx.gap false l + len = a + Lx.gap false l + len + d by omega]; exact ih)
    rw [show a + d + Lx.gap false l = a + Lx.gap false l + d by omega] at this
    exact this
/-- A gap that ends with the text goes on behind an end of line. -/
theorem gap_line : ∀ (l : List Nat) (b : Bool) (w : List Nat), gap b l = l.length → gap b (l ++ 10 :: w) = l.length + 1 + gap false w
  | [], b, w, _ => by
    cases b
    · simp [gap, sp]; omega
    · simp [gap]; omega
  | c :: l, true, w, h => by
    simp only [gap, List.length_cons, List.cons_append] at h ⊢
    rw [gap_line l _ w (by omega)]; omega
  | c :: l, false, w, h => by
    simp only [gap, List.length_cons, List.cons_append] at h ⊢
    split
    · rename_i hc
      rw [if_pos hc] at h
      rw [gap_line l _ w (by omega)]; omega
    · rename_i hc
      rw [if_neg hc] at h
      split
      · rename_i hs
        rw [if_pos hs] at h
        rw [gap_line l _ w (by omega)]; omega
      · rename_i hs
        rw [if_neg hs] at h; omega
/-- A gap that ends ahead of the text's end is the same, whatever follows. -/
theorem gap_before : ∀ (l : List Nat) (b : Bool) (w : List Nat), gap b l < l.length → gap b (l ++ w) = gap b l
  | [], b, w, h => by cases b <;> exact absurd h (Nat.not_lt_zero _)
  | c :: l, true, w, h => by
    simp only [gap, List.length_cons, List.cons_append] at h ⊢
    rw [gap_before l _ w (by omega)]
  | c :: l, false, w, h => by
    simp only [gap, List.length_cons, List.cons_append] at h ⊢
    split
    · rename_i hc
      rw [if_pos hc] at h
      rw [gap_before l _ w (by omega)]
    · rename_i hc
      rw [if_neg hc] at h
      split
      · rename_i hs
        rw [if_pos hs] at h
        rw [gap_before l _ w (by omega)]
      · rfl
theorem stop_line (w : List Nat) : stop (10 :: w) = true := rfl
/-- A text with a line more has the tokens of both. -/
theorem Toks.line {l : List Nat} {a : Nat} {ts : List Tk} (h : Toks l a ts) (w : List Nat) (us : List Tk) (hw : ∀ a', a' = a + l.length + 1 → Toks w a' us) : Toks (l ++ 10 :: w) a (ts ++ us) := by
  induction h with
  | @nil l a h =>
    have hg : Lx.gap false l = l.length := by
      have := gap_le l false
      have h2 := congrArg List.length h
      rw [List.length_drop] at h2
      simp at h2; omega
    have hgl := gap_line l false w hg
    have e : (l ++ 10 :: w).drop (Lx.gap false (l ++ 10 :: w)) = w.drop (Lx.gap false w) := by
      rw [hgl, show l.length + 1 + Lx.gap false w = (l ++ [10]).length + Lx.gap false w by simp, show l ++ 10 :: w = (l ++ [10]) ++ w by simp, drop_more]
    have hw' := hw _ rfl
    cases hw' with
    | nil h2 => exact .nil (e.trans h2)
    | cons h2 ht =>
      rw [← e] at h2
      have := Toks.cons (l := l ++ 10 :: w) (a := a) h2 (by rw [e, hgl, ← Nat.add_assoc, ← Nat.add_assoc]; exact ht)
      rw [hgl, ← Nat.add_assoc, ← Nat.add_assoc] at this
      exact this
  | @cons l a kind len num ts h _ ih =>
    have hl := tok_len h
    rw [List.length_drop] at hl
    have hgb := gap_before l false (10 :: w) (by omega)
    have hdp : (l ++ 10 :: w).drop (Lx.gap false l) = l.drop (Lx.gap false l) ++ 10 :: w := by
      rw [List.drop_append_of_le_length (by omega)]
    have hk : tok (l.drop (Lx.gap false l) ++ 10 :: w) = some (kind, len, num) := by
      generalize hq : l.drop (Lx.gap false l) = q at h
      have hq' : q.length = l.length - Lx.gap false l := by rw [← hq, List.length_drop]
      by_cases hlen : len = q.length
      · subst hlen
        exact tok_local (v := []) (by rw [List.append_nil]; exact h) _ (stop_line w)
      · exact tok_more h (by omega) _
    have := Toks.cons (l := l ++ 10 :: w) (a := a) (kind := kind) (len := len) (num := num) (ts := ts ++ us) (by rw [hgb, hdp]; exact hk) (by
      rw [hgb, hdp, List.drop_append_of_le_length (by rw [List.length_drop]; omega)]
      exact ih fun a' ha => hw a' (by rw [ha, List.length_drop, List.length_drop]; omega))
    rw [hgb] at this
    exact this
/-- Behind a gap, the same. -/
theorem toks_gapped {w : List Nat} (hw : ∀ l, gap false (w ++ l) = w.length + gap false l) (l : List Nat) (a cnt : Nat) : toks (w ++ l) a cnt = toks l (a + w.length) cnt := by
  have hd : (w ++ l).drop (gap false (w ++ l)) = l.drop (gap false l) := by rw [hw, drop_more]
  by_cases h0 : l.drop (gap false l) = []
  · rw [toks_nil (hd.trans h0), toks_nil h0]
  · generalize ht : tok (l.drop (gap false l)) = t
    rcases t with _ | ⟨kind, len, num⟩
    · rw [toks_none (by rw [hd]; exact h0) (by rw [hd]; exact ht), toks_none h0 ht, hw, Nat.add_assoc]
    · by_cases hc : 512 ≤ cnt
      · rw [toks_full (by rw [hd]; exact ht) hc, toks_full ht hc, hw, Nat.add_assoc]
      · rw [toks_cons (by rw [hd]; exact ht) (by omega), toks_cons ht (by omega), hd, hw, ← Nat.add_assoc a]
theorem gap_sp {c : Nat} (hc : sp c = true) (l : List Nat) : gap false (c :: l) = 1 + gap false l := by
  have : c ≠ 35 := by intro h; subst h; cases hc
  simp only [gap]
  rw [if_neg this, if_pos hc, Nat.add_comm]
theorem gap_blanks : ∀ (n : Nat) (l : List Nat), gap false (List.replicate n 32 ++ l) = n + gap false l
  | 0, l => by simp
  | n + 1, l => by
    rw [List.replicate_succ, List.cons_append, gap_sp rfl, gap_blanks n l]; omega
theorem toks_blanks (n : Nat) (l : List Nat) (a cnt : Nat) : toks (List.replicate n 32 ++ l) a cnt = toks l (a + n) cnt := by
  have := toks_gapped (w := List.replicate n 32) (fun l => by rw [gap_blanks, List.length_replicate]) l a cnt
  rw [List.length_replicate] at this
  exact this
/-- The separators of the law. -/
def sepOf : Nat → List Nat
  | 0 => [32]
  | 1 => [10, 9]
  | 2 => [32, 35, 32, 97, 32, 49, 32, 10]
  | _ => [13, 10, 35, 10]
theorem sep_blank : Sep [32] := ⟨fun l => by rw [List.singleton_append, gap_sp rfl]; rfl, fun _ => rfl⟩
theorem sepOf_sep : ∀ k, Sep (sepOf k)
  | 0 => sep_blank
  | 1 => ⟨fun l => by simp only [sepOf, List.cons_append, List.nil_append]; rw [gap_sp rfl, gap_sp rfl]; simp only [List.length_cons, List.length_nil]; omega, fun _ => rfl⟩
  | 2 => ⟨fun l => by
      simp only [sepOf, List.cons_append, List.nil_append]
      rw [gap_sp rfl]
      simp only [gap, List.length_cons, List.length_nil, if_true, show ((32 : Nat) != 10) = true from rfl, show ((97 : Nat) != 10) = true from rfl, show ((49 : Nat) != 10) = true from rfl, show ((10 : Nat) != 10) = false from rfl]
      omega, fun _ => rfl⟩
  | k + 3 => ⟨fun l => by
      simp only [sepOf, List.cons_append, List.nil_append]
      rw [gap_sp rfl, gap_sp rfl]
      simp only [gap, List.length_cons, List.length_nil, if_true, show ((10 : Nat) != 10) = false from rfl]
      omega, fun _ => rfl⟩
theorem Sep.tail {w : List Nat} (h : Sep w) (a : Nat) : Toks w a [] := .nil (by
  have := h.gap []
  rw [List.append_nil] at this
  rw [this, List.drop_eq_nil_iff]
  exact Nat.le_add_right _ _)
theorem cat_push : ∀ (ps : List (Nat × List Nat × Nat × List Nat)) (kind : Nat) (u : List Nat) (num : Nat) (w : List Nat), cat (ps ++ [(kind, u, num, w)]) = cat ps ++ (u ++ w)
  | [], _, _, _, _ => by simp [cat]
  | (_, u', _, w') :: ps, kind, u, num, w => by simp only [List.cons_append, cat, cat_push ps kind u num w, List.append_assoc]
theorem place_length : ∀ (a : Nat) (ps : List (Nat × List Nat × Nat × List Nat)), (place a ps).length = ps.length
  | _, [] => rfl
  | a, (_, u, _, w) :: ps => by simp only [place, List.length_cons, place_length]
/-- What stands at the places. -/
theorem place_at : ∀ (ps : List (Nat × List Nat × Nat × List Nat)) (a : Nat) (T tail : List Nat), T.drop a = cat ps ++ tail → ∀ i (hi : i < ps.length) (hi' : i < (place a ps).length),
    ((place a ps)[i]).1 = (ps[i]).1 ∧ ((place a ps)[i]).2.2.1 = (ps[i]).2.1.length ∧ ((place a ps)[i]).2.2.2 = (ps[i]).2.2.1 ∧ (T.drop ((place a ps)[i]).2.1).take ((place a ps)[i]).2.2.1 = (ps[i]).2.1
  | [], _, _, _, _, i, hi, _ => absurd hi (Nat.not_lt_zero _)
  | (kind, u, num, w) :: ps, a, T, tail, hT, 0, _, _ => by
    refine ⟨rfl, rfl, rfl, ?_⟩
    show (T.drop a).take u.length = u
    rw [hT]
    simp only [cat, List.append_assoc, List.take_left']
  | (kind, u, num, w) :: ps, a, T, tail, hT, i + 1, hi, hi' => by
    have h : T.drop (a + u.length + w.length) = cat ps ++ tail := by
      rw [Nat.add_assoc, ← List.drop_drop, hT]
      simp only [cat, List.append_assoc]
      rw [← List.append_assoc u w, ← List.length_append, List.drop_left]
    simp only [place, List.getElem_cons_succ]
    exact place_at ps _ T tail h i (by simpa using hi) (by simpa [place] using hi')

/-- Pairs of a plus and a blank, or of two blanks. -/
def pl : List Bool → List Nat
  | [] => []
  | b :: bs => (if b then 43 else 32) :: 32 :: pl bs
def plTk : Nat → List Bool → List Tk
  | _, [] => []
  | a, true :: bs => (3, a, 1, 0) :: plTk (a + 2) bs
  | a, false :: bs => plTk (a + 2) bs
def pre (ts : List Tk) : Except (Nat × Nat) (List Tk) → Except (Nat × Nat) (List Tk)
  | .error e => .error e
  | .ok us => .ok (ts ++ us)
theorem pl_length : ∀ bs : List Bool, (pl bs).length = 2 * bs.length
  | [] => rfl
  | b :: bs => by simp only [pl, List.length_cons, pl_length bs]; omega
theorem toks_blank (l : List Nat) (a cnt : Nat) : toks (32 :: l) a cnt = toks l (a + 1) cnt := toks_blanks 1 l a cnt
theorem toks_plus (l : List Nat) (a cnt : Nat) (hc : cnt < 512) : toks (43 :: l) a cnt = pre [(3, a, 1, 0)] (toks l (a + 1) (cnt + 1)) := by
  have hg : gap false (43 :: l) = 0 := rfl
  have hk : tok ((43 :: l).drop (gap false (43 :: l))) = some (3, 1, 0) := by rw [hg]; rfl
  rw [toks_cons hk hc, hg]
  simp only [List.drop_zero, List.drop_succ_cons, Nat.add_zero]
  cases toks l (a + 1) (cnt + 1) <;> rfl
theorem toks_pl : ∀ (bs : List Bool) (tail : List Nat) (a cnt : Nat), cnt + bs.count true ≤ 512 → toks (pl bs ++ tail) a cnt = pre (plTk a bs) (toks tail (a + 2 * bs.length) (cnt + bs.count true))
  | [], tail, a, cnt, _ => by
    simp only [pl, List.nil_append, plTk, List.length_nil, List.count_nil, Nat.mul_zero, Nat.add_zero]
    cases toks tail a cnt <;> rfl
  | true :: bs, tail, a, cnt, h => by
    rw [List.count_cons_self] at h
    simp only [pl, if_true, List.cons_append]
    rw [toks_plus _ _ _ (by omega), toks_blank, toks_pl bs tail (a + 1 + 1) (cnt + 1) (by omega), List.count_cons_self]
    rw [show a + 1 + 1 + 2 * bs.length = a + 2 * (true :: bs).length by simp only [List.length_cons]; omega, show cnt + 1 + bs.count true = cnt + (bs.count true + 1) by omega]
    simp only [plTk]
    cases toks tail (a + 2 * (true :: bs).length) (cnt + (bs.count true + 1)) <;> rfl
  | false :: bs, tail, a, cnt, h => by
    rw [List.count_cons_of_ne (by decide)] at h ⊢
    simp only [pl, Bool.false_eq_true, if_false, List.cons_append]
    rw [toks_blank, toks_blank, toks_pl bs tail (a + 1 + 1) cnt h]
    rw [show a + 1 + 1 + 2 * bs.length = a + 2 * (false :: bs).length by simp only [List.length_cons]; omega]
    rfl
theorem plTk_length : ∀ (bs : List Bool) (a : Nat), (plTk a bs).length = bs.count true
  | [], _ => rfl
  | true :: bs, a => by rw [List.count_cons_self]; simp only [plTk, List.length_cons, plTk_length bs]
  | false :: bs, a => by rw [List.count_cons_of_ne (by decide)]; simp only [plTk, plTk_length bs]
/-- So many pluses, then blanks: all of them are read. -/
theorem toks_pluses (bs : List Bool) (h : bs.count true ≤ 512) (n : Nat) : toks (pl bs ++ List.replicate n 32) 0 0 = .ok (plTk 0 bs) := by
  rw [toks_pl bs _ 0 0 (by omega)]
  have := toks_blanks n [] (0 + 2 * bs.length) (0 + bs.count true)
  rw [List.append_nil] at this
  rw [this, toks_nil (by rfl)]
  simp only [pre, List.append_nil]
/-- With a sign more, behind blanks. -/
theorem toks_pluses_more (bs : List Bool) (h : bs.count true < 512) (n : Nat) : toks (pl bs ++ (List.replicate n 32 ++ [59])) 0 0 = .ok (plTk 0 bs ++ [(3, 2 * bs.length + n, 1, 0)]) := by
  rw [toks_pl bs _ 0 0 (by omega), toks_blanks]
  have hk : tok ([59].drop (gap false [59])) = some (3, 1, 0) := rfl
  rw [toks_cons hk (by omega), toks_nil (by rfl)]
  simp only [pre, Nat.zero_add]
  rfl
theorem toks_pluses_full (bs : List Bool) (h : bs.count true = 512) (n : Nat) : toks (pl bs ++ (List.replicate n 32 ++ [59])) 0 0 = .error (5, 2 * bs.length + n) := by
  rw [toks_pl bs _ 0 0 (by omega), toks_blanks]
  have hk : tok ([59].drop (gap false [59])) = some (3, 1, 0) := rfl
  rw [toks_full hk (by omega)]
  simp only [pre, Nat.zero_add]
  rfl

/-- Digits make no value less. -/
theorem val_ge : ∀ (l : List Nat) (v : Nat), v ≤ val v l
  | [], _ => Nat.le_refl _
  | c :: l, v => Nat.le_trans (by omega) (val_ge l (v * 10 + (c - 48)))
/-- What goes beyond stays beyond. -/
theorem val_over {l : List Nat} {v c : Nat} (h : 18446744073709551616 ≤ v * 10 + (c - 48)) : 18446744073709551616 ≤ val v (c :: l) := Nat.le_trans h (val_ge l _)

/-- A text's bytes as numbers. -/
def bts (s : ByteArray) : List Nat := s.data.toList.map UInt8.toNat
theorem bts_length (s : ByteArray) : (bts s).length = s.size := by simp [bts]
theorem bts_drop (s : ByteArray) (i : Nat) (h : i < s.size) : (bts s).drop i = (s.data[i]'h).toNat :: (bts s).drop (i + 1) := by
  have h' : i < (bts s).length := by rw [bts_length]; exact h
  rw [List.drop_eq_getElem_cons h']
  simp [bts]
theorem bts_end (s : ByteArray) (i : Nat) (h : s.size ≤ i) : (bts s).drop i = [] := List.drop_eq_nil_of_le (by rw [bts_length]; exact h)
theorem bts_inj {s t : ByteArray} (h : bts s = bts t) : s = t := by
  have h1 : s.data.toList = t.data.toList := List.map_inj_right (fun a b => UInt8.toNat_inj.1) |>.1 h
  cases s; cases t
  simp only at h1
  rw [Array.toList_inj.1 h1]
theorem bts_append (s t : ByteArray) : bts (s ++ t) = bts s ++ bts t := by
  simp [bts]
theorem bts_extract (s : ByteArray) (a b : Nat) : bts (s.extract a b) = ((bts s).drop a).take (b - a) := by
  simp [bts, ByteArray.data_extract, List.map_drop, List.map_take]
theorem bts_lt {s : ByteArray} : ∀ c ∈ bts s, c < 256 := by
  intro c hc
  obtain ⟨x, _, rfl⟩ := List.mem_map.1 hc
  exact x.toNat_lt
end Lx
end Go.Proofs.YtkogbighpidfhaaDoor
