/- What was written of statements is read back; so what was written is written the same (plain mathematics). -/
import Derived.Test.YtjkllmiikdlhhaaGreatDoorBack
namespace Go.Proofs.YtjkllmiikdlhhaaGreatDoor
namespace Sp

theorem rel_tok {k : Nat} (hk : k < 6) (z : Bs) : tok (relSign k ++ 32 :: z) = relSign k ∧ next (relSign k ++ 32 :: z) = skip z ∧ skip (32 :: (relSign k ++ 32 :: z)) = relSign k ++ 32 :: z ∧ relOf (relSign k) = some k ∧ opOf (relSign k) = none := by
  match k, hk with
  | 0, _ => exact ⟨(tok_one (c := 60) (by decide) (fun _ h => by cases h)).1, (tok_one (c := 60) (by decide) (fun _ h => by cases h)).2.1.trans (skip_32 z), (skip_32 _).trans (skip_nb _ (by decide)), rfl, rfl⟩
  | 1, _ => exact ⟨(tok_two (c := 60) (by decide)).1, (tok_two (c := 60) (by decide)).2.1.trans (skip_32 z), (skip_32 _).trans (skip_nb _ (by decide)), rfl, rfl⟩
  | 2, _ => exact ⟨(tok_two (c := 61) (by decide)).1, (tok_two (c := 61) (by decide)).2.1.trans (skip_32 z), (skip_32 _).trans (skip_nb _ (by decide)), rfl, rfl⟩
  | 3, _ => exact ⟨(tok_two (c := 33) (by decide)).1, (tok_two (c := 33) (by decide)).2.1.trans (skip_32 z), (skip_32 _).trans (skip_nb _ (by decide)), rfl, rfl⟩
  | 4, _ => exact ⟨(tok_two (c := 62) (by decide)).1, (tok_two (c := 62) (by decide)).2.1.trans (skip_32 z), (skip_32 _).trans (skip_nb _ (by decide)), rfl, rfl⟩
  | 5, _ => exact ⟨(tok_one (c := 62) (by decide) (fun _ h => by cases h)).1, (tok_one (c := 62) (by decide) (fun _ h => by cases h)).2.1.trans (skip_32 z), (skip_32 _).trans (skip_nb _ (by decide)), rfl, rfl⟩
theorem relOf_lt {t : Bs} {k : Nat} (h : relOf t = some k) : k < 6 := by
  unfold relOf at h
  repeat (split at h; (cases h; decide))
  cases h

theorem cond_read {o k : Nat} {x y : Nat × Bs} (hk : k < 6) (hx : G o x) (hy : G o y) {o' : Nat} (ho : o' ≤ o) {r : Bs} (hr : Brk r) (hn : opOf (tok (skip r)) = none) :
    pCond Pr o' (condText k x y ++ r) = .ok ((k, x, y), skip r) := by
  obtain ⟨s1, s2, s3, s4, s5⟩ := rel_tok hk (y.2 ++ r)
  unfold condText
  rw [show (x.2 ++ [32] ++ relSign k ++ [32] ++ y.2) ++ r = x.2 ++ (32 :: (relSign k ++ 32 :: (y.2 ++ r))) by simp]
  have h1 := hx.read ho (r := 32 :: (relSign k ++ 32 :: (y.2 ++ r))) (brk_32 _) (by rw [s3, s1, s5])
  unfold pCond
  rw [h1]
  simp only
  rw [s3, s1, s4]
  simp only
  rw [s2, hy.nb.skip, hy.read ho hr hn]
theorem pCond_g {o : Nat} {l : Bs} {k : Nat} {x y : Nat × Bs} {l' : Bs} (ho : o ≤ 12) (h : pCond Pr o l = .ok ((k, x, y), l')) : k < 6 ∧ G o x ∧ G o y := by
  unfold pCond at h
  split at h
  · next x1 l1 hx =>
    split at h
    · next k1 hk =>
      split at h
      · next y1 l2 hy => cases h; exact ⟨relOf_lt hk, pS_g ho hx, pS_g ho hy⟩
      · cases h
    · cases h
  · cases h
theorem condText_nb {o k : Nat} {x y : Nat × Bs} (hx : G o x) : NB (condText k x y) := (((hx.nb.app _).app _).app _).app _

theorem take_one {c : UInt8} {r : Bs} (hc : c ∈ ones) (h2 : c ∈ twos → r.head? ≠ some 61) : take [c] (c :: r) = .ok (skip r) := by
  obtain ⟨q1, q2, _⟩ := tok_one hc h2
  unfold take
  rw [if_pos q1, q2]

theorem tok_else {l : Bs} (h : tok l = wElse) : tokKind l = 2 := by
  cases l with
  | nil => cases h
  | cons c r =>
    unfold tok at h
    cases hn : tokLen (c :: r) with
    | zero => rw [hn] at h; cases h
    | succ n =>
      rw [hn] at h
      simp only [List.take_succ_cons, wElse, List.cons.injEq] at h
      simp [tokKind, h.1, isLet]

/-- a statement that is read back -/
structure T (o : Nat) (x : Nat → Bs) : Prop where
  hd : ∀ d, ∃ c b, x d = pad d ++ c :: b ∧ isLet c = true
  ne : ∀ d r, tok (skip (x d ++ r)) ≠ wElse
  rd : ∀ d n o' r, o' ≤ o → (x d).length ≤ n → tok (skip r) ≠ wElse → pStmt Pr n o' (skip (x d ++ r)) = .ok (x, skip r)

theorem let_nb {c : UInt8} (h : isLet c = true) : isBlank c = false := by
  simp only [isLet, isBlank, Bool.and_eq_true, decide_eq_true_eq] at *
  simp only [Bool.or_eq_false_iff, beq_eq_false_iff_ne, ne_eq]
  constructor <;> (intro e; subst e; simp at h)

theorem pMany_succ (A : Alg) (st : Bs → R A.T) (m : Nat) (acc : List A.T) (l : Bs) : pMany A st (m + 1) acc l = (if tokKind l = 2 then (match st l with
      | .ok (x, l1) => pMany A st m (acc ++ [x]) l1
      | .error e => .error e) else .ok (acc, l)) := rfl

theorem lines_cons (d : Nat) (x : Nat → Bs) (xs : List (Nat → Bs)) : lines d (x :: xs) = x d ++ lines d xs := rfl

theorem many_read {o : Nat} : ∀ xs, (∀ x ∈ xs, T o x) → ∀ d n o' r m (acc : List (Nat → Bs)), o' ≤ o → (lines d xs).length ≤ n → tokKind (skip r) ≠ 2 → (skip (lines d xs ++ r)).length < m →
    pMany Pr (pStmt Pr n o') m acc (skip (lines d xs ++ r)) = .ok (acc ++ xs, skip r) := by
  intro xs
  induction xs with
  | nil =>
    intro _ d n o' r m acc _ _ hr hm
    obtain ⟨m', rfl⟩ : ∃ m', m = m' + 1 := ⟨m - 1, by omega⟩
    rw [show lines d [] ++ r = r from rfl, pMany_succ Pr _ m' acc (skip r), if_neg hr, List.append_nil]
  | cons x xs ih =>
    intro hx d n o' r m acc ho hn hr hm
    have tx := hx x (by simp)
    rw [lines_cons, List.append_assoc] at hm ⊢
    rw [lines_cons, List.length_append] at hn
    obtain ⟨m', rfl⟩ : ∃ m', m = m' + 1 := ⟨m - 1, by omega⟩
    obtain ⟨c, b, hb, hc⟩ := tx.hd d
    have hsk : skip (x d ++ (lines d xs ++ r)) = c :: (b ++ (lines d xs ++ r)) := by
      rw [hb, List.append_assoc, skip_pad]
      exact skip_nb _ (let_nb hc)
    have hk : tokKind (skip (x d ++ (lines d xs ++ r))) = 2 := by rw [hsk]; simp [tokKind, hc]
    have hne : tok (skip (lines d xs ++ r)) ≠ wElse := by
      cases xs with
      | nil => exact fun h => hr (tok_else h)
      | cons y ys =>
        rw [lines_cons, List.append_assoc]
        exact (hx y (by simp)).ne d _
    have hs := tx.rd d n o' (lines d xs ++ r) ho (by omega) hne
    rw [pMany_succ Pr _ m' acc _, if_pos hk, hs]
    simp only
    have hlen : (skip (lines d xs ++ r)).length < m' := by
      rw [hsk] at hm
      have := skip_len (lines d xs ++ r)
      simp only [List.length_cons, List.length_append] at hm this
      omega
    exact (ih (fun z hz => hx z (by simp [hz])) d n o' r m' (acc ++ [x]) ho (by omega) hr hlen).trans (by simp)

theorem block_read {o : Nat} {xs : List (Nat → Bs)} (h : ∀ x ∈ xs, T (o + 1) x) (ho : o < 12) {o' : Nat} (ho' : o' ≤ o) {n d d' : Nat} {r : Bs} (hn : (lines d xs).length ≤ n) :
    pBlock Pr (pStmt Pr n (o' + 1)) o' (123 :: 10 :: (lines d xs ++ (pad d' ++ 125 :: r))) = .ok (xs, skip r) := by
  obtain ⟨q1, q2, _⟩ := tok_one (c := 123) (r := 10 :: (lines d xs ++ (pad d' ++ 125 :: r))) (by decide) (fun h => absurd h (by decide))
  obtain ⟨p1, _, p3⟩ := tok_one (c := 125) (r := r) (by decide) (fun h => absurd h (by decide))
  have hsk : skip (pad d' ++ 125 :: r) = 125 :: r := by rw [skip_pad]; exact skip_nb _ (by decide)
  have hm := many_read xs h d n (o' + 1) (pad d' ++ 125 :: r) ((skip (lines d xs ++ (pad d' ++ 125 :: r))).length + 1) [] (by omega) hn (by rw [hsk, p3]; decide) (by omega)
  rw [hsk] at hm
  have hm' : pMany Pr (pStmt Pr n (o' + 1)) ((skip (lines d xs ++ (pad d' ++ 125 :: r))).length + 1) [] (skip (lines d xs ++ (pad d' ++ 125 :: r))) = (.ok (xs, 125 :: r) : R (List Pr.T)) := hm
  unfold pBlock enter
  rw [if_pos q1, if_neg (by omega), q2, skip_10]
  simp only
  rw [hm']
  simp only
  rw [take_one (by decide) (fun h => absurd h (by decide))]

/- the statements -/
theorem len1_ne {k : Nat} {w : Bs} (h : w.length ≠ 1) : letter k ≠ w := by
  intro e; exact h (by rw [← e]; rfl)

theorem T.assign {o k : Nat} {x : Nat × Bs} (hk : k < 8) (hx : G o x) : T o (Pr.assign k x) := by
  have e : ∀ d r, skip (Pr.assign k x d ++ r) = letter k ++ (32 :: 61 :: 32 :: (x.2 ++ 59 :: 10 :: r)) := by
    intro d r
    show skip ((pad d ++ letter k ++ [32, 61, 32] ++ x.2 ++ [59, 10]) ++ r) = _
    rw [show (pad d ++ letter k ++ [32, 61, 32] ++ x.2 ++ [59, 10]) ++ r = pad d ++ (letter k ++ (32 :: 61 :: 32 :: (x.2 ++ 59 :: 10 :: r))) by simp, skip_pad]
    exact (letter_nb hk).skip _
  have hw : ∀ z : Bs, ∀ c, (32 :: z : Bs).head? = some c → isLet c = false := by
    intro z c h; cases h; decide
  refine ⟨?_, ?_, ?_⟩
  · intro d
    refine ⟨UInt8.ofNat (97 + k), [32, 61, 32] ++ x.2 ++ [59, 10], ?_, letter_let hk _ (by simp [letter])⟩
    show pad d ++ letter k ++ [32, 61, 32] ++ x.2 ++ [59, 10] = _
    simp [letter]
  · intro d r
    rw [e, (tok_word (t := letter k) (by simp [letter]) (letter_let hk) (hw _)).1]
    exact len1_ne (by decide)
  · intro d n o' r ho hn _
    obtain ⟨n', rfl⟩ : ∃ n', n = n' + 1 := by
      refine ⟨n - 1, ?_⟩
      have h1 : (pad d ++ letter k ++ [32, 61, 32] ++ x.2 ++ [59, 10]).length ≤ n := hn
      simp only [List.length_append, List.length_cons] at h1
      omega
    obtain ⟨q1, _, _⟩ := tok_word (t := letter k) (by simp [letter]) (letter_let hk) (hw (61 :: 32 :: (x.2 ++ 59 :: 10 :: r)))
    rw [e]
    unfold pStmt
    rw [q1, if_neg (len1_ne (by decide)), if_neg (len1_ne (by decide)), if_neg (len1_ne (by decide)), if_neg (len1_ne (by decide))]
    unfold pAssign
    rw [pName_letter hk (hw _)]
    simp only
    rw [skip_32, skip_nb _ (by decide), take_one (by decide) (fun _ h => by cases h)]
    simp only
    have hsk : skip (59 :: 10 :: r) = 59 :: 10 :: r := skip_nb _ (by decide)
    have ht : opOf (tok (skip (59 :: 10 :: r))) = none := by
      rw [hsk, (tok_one (c := 59) (by decide) (fun h => absurd h (by decide))).1]; rfl
    rw [skip_32, hx.nb.skip, hx.read ho (brk_59 _) ht]
    simp only
    rw [hsk, take_one (by decide) (fun h => absurd h (by decide)), skip_10]

end Sp
end Go.Proofs.YtjkllmiikdlhhaaGreatDoor
