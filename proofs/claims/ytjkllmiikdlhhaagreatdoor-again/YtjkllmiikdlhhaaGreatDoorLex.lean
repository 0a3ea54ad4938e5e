/- Tokens at the head of a text (plain mathematics). -/
import Derived.Test.YtjkllmiikdlhhaaGreatDoorErr
namespace Go.Proofs.YtjkllmiikdlhhaaGreatDoor
namespace Sp

theorem skip_nb {c : UInt8} (r : Bs) (h : isBlank c = false) : skip (c :: r) = c :: r := by simp [skip, h]
theorem skip_32 (r : Bs) : skip (32 :: r) = skip r := by simp [skip, isBlank]
theorem skip_10 (r : Bs) : skip (10 :: r) = skip r := by simp [skip, isBlank]
theorem skip_len (r : Bs) : (skip r).length ≤ r.length := by
  unfold skip
  exact (List.dropWhile_sublist _).length_le
theorem skip_pad (d : Nat) (r : Bs) : skip (pad d ++ r) = skip r := by
  unfold pad
  generalize 2 * d = n
  induction n with
  | zero => rfl
  | succ n ih => rw [List.replicate_succ, List.cons_append, skip_32]; exact ih
theorem skip_skip (r : Bs) : skip (skip r) = skip r := by
  unfold skip
  induction r with
  | nil => rfl
  | cons c r ih =>
    by_cases h : isBlank c = true
    · simp [h, ih]
    · simp [h]

theorem takeWhile_stop {p : UInt8 → Bool} {t r : Bs} (ht : ∀ c ∈ t, p c = true) (hr : ∀ c, r.head? = some c → p c = false) : (t ++ r).takeWhile p = t := by
  rw [List.takeWhile_append_of_pos ht]
  cases r with
  | nil => simp
  | cons c r => simp [hr c rfl]

theorem tok_word {t r : Bs} (h0 : t ≠ []) (ht : ∀ c ∈ t, isLet c = true) (hr : ∀ c, r.head? = some c → isLet c = false) :
    tok (t ++ r) = t ∧ next (t ++ r) = skip r ∧ tokKind (t ++ r) = 2 := by
  cases t with
  | nil => exact absurd rfl h0
  | cons c t =>
    have hc := ht c (by simp)
    have hl : tokLen (c :: t ++ r) = (c :: t).length := by
      have := takeWhile_stop ht hr
      simp only [List.cons_append] at this ⊢
      simp only [tokLen, hc, if_true, headRun, this]
    refine ⟨?_, ?_, ?_⟩
    · unfold tok; rw [hl]; simp
    · unfold next; rw [hl]; simp
    · simp [tokKind, hc]

theorem let_not_dig {c : UInt8} (h : isDig c = true) : isLet c = false := by
  simp only [isDig, isLet, Bool.and_eq_true, decide_eq_true_eq, Bool.and_eq_false_iff, decide_eq_false_iff_not] at *
  omega

theorem tok_digits {t r : Bs} (h0 : t ≠ []) (ht : ∀ c ∈ t, isDig c = true) (hr : ∀ c, r.head? = some c → isDig c = false) :
    tok (t ++ r) = t ∧ next (t ++ r) = skip r ∧ tokKind (t ++ r) = 3 := by
  cases t with
  | nil => exact absurd rfl h0
  | cons c t =>
    have hc := ht c (by simp)
    have hn := let_not_dig hc
    have hl : tokLen (c :: t ++ r) = (c :: t).length := by
      have := takeWhile_stop ht hr
      simp only [List.cons_append] at this ⊢
      simp only [tokLen, hc, hn, if_true, headRun, this]
      simp
    refine ⟨?_, ?_, ?_⟩
    · unfold tok; rw [hl]; simp
    · unfold next; rw [hl]; simp
    · simp [tokKind, hc, hn]

theorem ones_plain : ∀ c ∈ ones, isLet c = false ∧ isDig c = false := by decide
theorem twos_plain : ∀ c ∈ twos, isLet c = false ∧ isDig c = false := by decide

theorem tok_one {c : UInt8} {r : Bs} (hc : c ∈ ones) (h2 : c ∈ twos → r.head? ≠ some 61) : tok (c :: r) = [c] ∧ next (c :: r) = skip r ∧ tokKind (c :: r) = 4 := by
  obtain ⟨h3, h4⟩ := ones_plain c hc
  have hs : signLen (c :: r) = 1 := by
    show (if r.head? = some 61 ∧ c ∈ twos then 2 else if c ∈ ones then 1 else 0) = 1
    rw [if_neg (fun h => h2 h.2 h.1), if_pos hc]
  have hl : tokLen (c :: r) = 1 := by simp [tokLen, h3, h4, hs]
  refine ⟨?_, ?_, ?_⟩
  · unfold tok; rw [hl]; rfl
  · unfold next; rw [hl]; rfl
  · simp [tokKind, h3, h4, hs]

theorem tok_two {c : UInt8} {r : Bs} (hc : c ∈ twos) : tok (c :: 61 :: r) = [c, 61] ∧ next (c :: 61 :: r) = skip r ∧ tokKind (c :: 61 :: r) = 4 := by
  obtain ⟨h3, h4⟩ := twos_plain c hc
  have hs : signLen (c :: 61 :: r) = 2 := by
    show (if (61 :: r).head? = some 61 ∧ c ∈ twos then 2 else if c ∈ ones then 1 else 0) = 2
    rw [if_pos ⟨rfl, hc⟩]
  have hl : tokLen (c :: 61 :: r) = 2 := by simp [tokLen, h3, h4, hs]
  refine ⟨?_, ?_, ?_⟩
  · unfold tok; rw [hl]; rfl
  · unfold next; rw [hl]; rfl
  · simp [tokKind, h3, h4, hs]

/-- what a name or a number may be followed by -/
def Brk (r : Bs) : Prop := ∃ c r', r = c :: r' ∧ (c = 32 ∨ c = 41 ∨ c = 59)
theorem Brk.let {r : Bs} (h : Brk r) : ∀ c, r.head? = some c → isLet c = false := by
  obtain ⟨c, r', rfl, h⟩ := h
  intro d hd
  cases hd
  rcases h with rfl | rfl | rfl <;> decide
theorem Brk.dig {r : Bs} (h : Brk r) : ∀ c, r.head? = some c → isDig c = false := by
  obtain ⟨c, r', rfl, h⟩ := h
  intro d hd
  cases hd
  rcases h with rfl | rfl | rfl <;> decide
theorem brk_32 (r : Bs) : Brk (32 :: r) := ⟨32, r, rfl, .inl rfl⟩
theorem brk_41 (r : Bs) : Brk (41 :: r) := ⟨41, r, rfl, .inr (.inl rfl)⟩
theorem brk_59 (r : Bs) : Brk (59 :: r) := ⟨59, r, rfl, .inr (.inr rfl)⟩

def NB (t : Bs) : Prop := ∃ c r', t = c :: r' ∧ isBlank c = false
theorem NB.skip {t : Bs} (h : NB t) (r : Bs) : skip (t ++ r) = t ++ r := by
  obtain ⟨c, r', rfl, h⟩ := h
  exact skip_nb _ h
theorem NB.app {t : Bs} (h : NB t) (r : Bs) : NB (t ++ r) := by
  obtain ⟨c, r', rfl, h⟩ := h
  exact ⟨c, r' ++ r, rfl, h⟩

/- names -/
theorem letter_let {k : Nat} (hk : k < 8) : ∀ c ∈ letter k, isLet c = true := by
  match k, hk with
  | 0, _ => decide
  | 1, _ => decide
  | 2, _ => decide
  | 3, _ => decide
  | 4, _ => decide
  | 5, _ => decide
  | 6, _ => decide
  | 7, _ => decide
theorem letter_nb {k : Nat} (hk : k < 8) : NB (letter k) := by
  refine ⟨UInt8.ofNat (97 + k), [], rfl, ?_⟩
  match k, hk with
  | 0, _ => decide
  | 1, _ => decide
  | 2, _ => decide
  | 3, _ => decide
  | 4, _ => decide
  | 5, _ => decide
  | 6, _ => decide
  | 7, _ => decide
theorem letter_nat {k : Nat} (hk : k < 8) : (UInt8.ofNat (97 + k)).toNat = 97 + k := by
  match k, hk with
  | 0, _ => rfl
  | 1, _ => rfl
  | 2, _ => rfl
  | 3, _ => rfl
  | 4, _ => rfl
  | 5, _ => rfl
  | 6, _ => rfl
  | 7, _ => rfl
theorem pName_letter {k : Nat} (hk : k < 8) {r : Bs} (hr : ∀ c, r.head? = some c → isLet c = false) : pName (letter k ++ r) = .ok (k, skip r) := by
  obtain ⟨h1, h2, h3⟩ := tok_word (t := letter k) (by simp [letter]) (letter_let hk) hr
  have hn : nameVal (letter k ++ r) = some k := by
    unfold nameVal
    rw [h1, h3]
    simp [letter]
    omega
  unfold pName
  rw [hn, h2]
theorem pName_lt8 {l : Bs} {k : Nat} {l' : Bs} (h : pName l = .ok (k, l')) : k < 8 := by
  unfold pName at h
  split at h
  · next k' hk =>
    cases h
    unfold nameVal at hk
    split at hk
    · split at hk
      · cases hk; omega
      · cases hk
    · cases hk
  · cases h

/- numbers -/
theorem ofNat_dig {d : Nat} (h : d < 10) : (UInt8.ofNat (48 + d)).toNat = 48 + d := by
  simp; omega
theorem dig_dig {d : Nat} (h : d < 10) : isDig (UInt8.ofNat (48 + d)) = true := by
  unfold isDig; rw [ofNat_dig h]; simp; omega
theorem decimal_snoc (a : Bs) (c : UInt8) : decimal (a ++ [c]) = decimal a * 10 + (c.toNat - 48) := by simp [decimal]
theorem digitsF_spec : ∀ f n, n < 10 ^ f → 0 < f → (digitsF f n ≠ [] ∧ (∀ c ∈ digitsF f n, isDig c = true) ∧ decimal (digitsF f n) = n ∧ (1 ≤ n → (digitsF f n).head? ≠ some 48) ∧ (n < 10 → (digitsF f n).length = 1)) := by
  intro f
  induction f with
  | zero => intro n _ h; omega
  | succ f ih =>
    intro n hn _
    unfold digitsF
    by_cases h : n < 10
    · rw [if_pos h]
      refine ⟨by simp, ?_, ?_, ?_, fun _ => rfl⟩
      · intro c hc; rw [List.mem_singleton.1 hc]; exact dig_dig h
      · simp only [decimal, List.foldl]; rw [ofNat_dig h]; omega
      · intro h1 h2
        simp only [List.head?, Option.some.injEq] at h2
        have := congrArg UInt8.toNat h2
        rw [ofNat_dig h] at this
        simp at this
        omega
    · rw [if_neg h]
      have hf : 0 < f := by
        rcases Nat.eq_zero_or_pos f with h0 | h0
        · subst h0; simp at hn; omega
        · exact h0
      have hq : n / 10 < 10 ^ f := by
        rw [Nat.div_lt_iff_lt_mul (by omega)]
        rw [Nat.pow_succ] at hn
        exact hn
      obtain ⟨i1, i2, i3, i4, _⟩ := ih (n / 10) hq hf
      refine ⟨by simp, ?_, ?_, ?_, fun k => absurd k h⟩
      · intro c hc
        simp only [List.mem_append, List.mem_singleton] at hc
        rcases hc with hc | hc
        · exact i2 c hc
        · rw [hc]; exact dig_dig (by omega)
      · rw [decimal_snoc, i3, ofNat_dig (by omega)]; omega
      · intro _
        rw [List.head?_append]
        have := i4 (by omega)
        cases hd : (digitsF f (n / 10)).head? with
        | none => simp at hd; exact absurd hd i1
        | some c => rw [hd] at this; simpa using this

theorem digits_spec {n : Nat} (hn : n ≤ 32767) : digits n ≠ [] ∧ (∀ c ∈ digits n, isDig c = true) ∧ numVal (digits n) = some n := by
  obtain ⟨h1, h2, h3, h4, h5⟩ := digitsF_spec 20 n (by have : (32767 : Nat) < 10 ^ 20 := by decide
                                                       omega) (by omega)
  refine ⟨h1, h2, ?_⟩
  unfold numVal digits
  rw [if_neg, h3, if_pos hn]
  rintro ⟨a, b⟩
  by_cases h : n < 10
  · have := h5 h; omega
  · exact h4 (by omega) b
theorem digits_nb {n : Nat} (hn : n ≤ 32767) : NB (digits n) := by
  obtain ⟨h1, h2, _⟩ := digits_spec hn
  cases h : digits n with
  | nil => exact absurd h h1
  | cons c r =>
    refine ⟨c, r, rfl, ?_⟩
    have := h2 c (by rw [h]; simp)
    simp only [isDig, isBlank, Bool.and_eq_true, decide_eq_true_eq] at *
    simp only [Bool.or_eq_false_iff, beq_eq_false_iff_ne, ne_eq]
    constructor <;> (intro e; subst e; simp at this)
theorem numVal_le {t : Bs} {v : Nat} (h : numVal t = some v) : v ≤ 32767 := by
  unfold numVal at h
  split at h
  · cases h
  · split at h
    · cases h; omega
    · cases h

end Sp
end Go.Proofs.YtjkllmiikdlhhaaGreatDoor
