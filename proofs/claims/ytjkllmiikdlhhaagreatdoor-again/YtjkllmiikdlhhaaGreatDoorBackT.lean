/- The other statements are read back; what was written is written the same (plain mathematics). -/
import Derived.Test.YtjkllmiikdlhhaaGreatDoorBackS
namespace Go.Proofs.YtjkllmiikdlhhaaGreatDoor
namespace Sp

theorem word_tok {w : Bs} (h0 : w ≠ []) (hl : ∀ c ∈ w, isLet c = true) (z : Bs) : tok (w ++ 32 :: z) = w ∧ next (w ++ 32 :: z) = skip z := by
  obtain ⟨h1, h2, _⟩ := tok_word (r := 32 :: z) h0 hl (fun c h => by cases h; decide)
  exact ⟨h1, h2.trans (skip_32 z)⟩
theorem word_nb {w : Bs} (h0 : w ≠ []) (hl : ∀ c ∈ w, isLet c = true) : NB w := by
  cases w with
  | nil => exact absurd rfl h0
  | cons c r => exact ⟨c, r, rfl, let_nb (hl c (by simp))⟩
/-- a statement that begins with a word of its own -/
theorem T.word {o : Nat} {x : Nat → Bs} (w : Bs) (tail : Nat → Bs) (h0 : w ≠ []) (hl : ∀ c ∈ w, isLet c = true) (hw : w ≠ wElse) (hx : ∀ d, x d = pad d ++ w ++ [32] ++ tail d)
    (hr : ∀ d n o' r, o' ≤ o → (tail d).length ≤ n → tok (skip r) ≠ wElse → pStmt Pr (n + 1) o' (w ++ 32 :: (tail d ++ r)) = .ok (x, skip r)) : T o x := by
  have e : ∀ d r, skip (x d ++ r) = w ++ 32 :: (tail d ++ r) := by
    intro d r
    rw [hx, show (pad d ++ w ++ [32] ++ tail d) ++ r = pad d ++ (w ++ 32 :: (tail d ++ r)) by simp, skip_pad]
    exact (word_nb h0 hl).skip _
  refine ⟨?_, ?_, ?_⟩
  · intro d
    cases w with
    | nil => exact absurd rfl h0
    | cons c w' => exact ⟨c, w' ++ [32] ++ tail d, by rw [hx]; simp, hl c (by simp)⟩
  · intro d r
    rw [e, (word_tok h0 hl _).1]
    exact hw
  · intro d n o' r ho hn hne
    rw [hx] at hn
    simp only [List.length_append, List.length_cons, List.length_nil] at hn
    obtain ⟨n', rfl⟩ : ∃ n', n = n' + 1 := ⟨n - 1, by omega⟩
    rw [e]
    exact hr d n' o' r ho (by omega) hne

theorem brk_let {z : Bs} (h : Brk z) : ∀ c, z.head? = some c → isLet c = false := h.let
theorem semi (r : Bs) : skip (59 :: 10 :: r) = 59 :: 10 :: r ∧ opOf (tok (skip (59 :: 10 :: r))) = none ∧ take [59] (59 :: 10 :: r) = .ok (skip r) := by
  have hsk : skip (59 :: 10 :: r) = 59 :: 10 :: r := skip_nb _ (by decide)
  refine ⟨hsk, ?_, ?_⟩
  · rw [hsk, (tok_one (c := 59) (by decide) (fun h => absurd h (by decide))).1]; rfl
  · rw [take_one (by decide) (fun h => absurd h (by decide)), skip_10]
theorem brace (r : Bs) : skip (32 :: 123 :: 10 :: r) = 123 :: 10 :: r ∧ opOf (tok (skip (32 :: 123 :: 10 :: r))) = none := by
  have hsk : skip (32 :: 123 :: 10 :: r) = 123 :: 10 :: r := (skip_32 _).trans (skip_nb _ (by decide))
  refine ⟨hsk, ?_⟩
  rw [hsk, (tok_one (c := 123) (by decide) (fun h => absurd h (by decide))).1]; rfl

theorem T.read {o k : Nat} (hk : k < 8) : T o (Pr.read k) := by
  refine T.word wRead (fun _ => letter k ++ [59, 10]) (by decide) (by decide) (by decide) (fun d => ?_) ?_
  · show pad d ++ [114, 101, 97, 100, 32] ++ letter k ++ [59, 10] = _
    simp [wRead]
  · intro d n o' r _ _ _
    rw [show letter k ++ [59, 10] ++ r = letter k ++ 59 :: 10 :: r by simp]
    obtain ⟨q1, q2⟩ := word_tok (w := wRead) (by decide) (by decide) (letter k ++ 59 :: 10 :: r)
    obtain ⟨s1, _, s3⟩ := semi r
    unfold pStmt
    rw [if_pos q1]
    unfold pRead
    rw [q2, (letter_nb hk).skip, pName_letter hk (brk_59 _).let]
    simp only
    rw [s1, s3]

theorem T.assert {o k : Nat} {x y : Nat × Bs} (hk : k < 6) (hx : G o x) (hy : G o y) : T o (Pr.assert k x y) := by
  refine T.word wAssert (fun _ => condText k x y ++ [59, 10]) (by decide) (by decide) (by decide) (fun d => ?_) ?_
  · show pad d ++ [97, 115, 115, 101, 114, 116, 32] ++ condText k x y ++ [59, 10] = _
    simp [wAssert]
  · intro d n o' r ho _ _
    rw [show condText k x y ++ [59, 10] ++ r = condText k x y ++ 59 :: 10 :: r by simp]
    obtain ⟨q1, q2⟩ := word_tok (w := wAssert) (by decide) (by decide) (condText k x y ++ 59 :: 10 :: r)
    obtain ⟨s1, s2, s3⟩ := semi r
    unfold pStmt
    rw [q1, if_neg (by decide), if_pos rfl]
    unfold pAssert
    rw [q2, (condText_nb (y := y) hx).skip, cond_read hk hx hy ho (brk_59 _) s2]
    simp only
    rw [s1, s3]

theorem T.loop {o k : Nat} {x y : Nat × Bs} {xs : List (Nat → Bs)} (hk : k < 6) (hx : G o x) (hy : G o y) (ho : o < 12) (hxs : ∀ z ∈ xs, T (o + 1) z) : T o (Pr.loop k x y xs) := by
  refine T.word wWhile (fun d => condText k x y ++ [32, 123, 10] ++ lines (d + 1) xs ++ pad d ++ [125, 10]) (by decide) (by decide) (by decide) (fun d => ?_) ?_
  · show pad d ++ [119, 104, 105, 108, 101, 32] ++ condText k x y ++ [32, 123, 10] ++ lines (d + 1) xs ++ pad d ++ [125, 10] = _
    simp [wWhile]
  · intro d n o' r ho' hn _
    simp only [List.length_append, List.length_cons, List.length_nil] at hn
    rw [show condText k x y ++ [32, 123, 10] ++ lines (d + 1) xs ++ pad d ++ [125, 10] ++ r = condText k x y ++ 32 :: 123 :: 10 :: (lines (d + 1) xs ++ (pad d ++ 125 :: (10 :: r))) by simp]
    obtain ⟨q1, q2⟩ := word_tok (w := wWhile) (by decide) (by decide) (condText k x y ++ 32 :: 123 :: 10 :: (lines (d + 1) xs ++ (pad d ++ 125 :: (10 :: r))))
    obtain ⟨s1, s2⟩ := brace (lines (d + 1) xs ++ (pad d ++ 125 :: (10 :: r)))
    unfold pStmt
    rw [q1, if_neg (by decide), if_neg (by decide), if_neg (by decide), if_pos rfl]
    unfold pWhile
    rw [q2, (condText_nb (y := y) hx).skip, cond_read hk hx hy ho' (brk_32 _) s2]
    simp only
    rw [s1, block_read hxs ho ho' (n := n) (by omega)]
    simp only
    rw [skip_10]

theorem T.ite {o k : Nat} {x y : Nat × Bs} {xs : List (Nat → Bs)} (hk : k < 6) (hx : G o x) (hy : G o y) (ho : o < 12) (hxs : ∀ z ∈ xs, T (o + 1) z) : T o (Pr.ite k x y xs none) := by
  refine T.word wIf (fun d => condText k x y ++ [32, 123, 10] ++ lines (d + 1) xs ++ pad d ++ [125, 10]) (by decide) (by decide) (by decide) (fun d => ?_) ?_
  · show pad d ++ [105, 102, 32] ++ condText k x y ++ [32, 123, 10] ++ lines (d + 1) xs ++ [] ++ pad d ++ [125, 10] = _
    simp [wIf]
  · intro d n o' r ho' hn hne
    simp only [List.length_append, List.length_cons, List.length_nil] at hn
    rw [show condText k x y ++ [32, 123, 10] ++ lines (d + 1) xs ++ pad d ++ [125, 10] ++ r = condText k x y ++ 32 :: 123 :: 10 :: (lines (d + 1) xs ++ (pad d ++ 125 :: (10 :: r))) by simp]
    obtain ⟨q1, q2⟩ := word_tok (w := wIf) (by decide) (by decide) (condText k x y ++ 32 :: 123 :: 10 :: (lines (d + 1) xs ++ (pad d ++ 125 :: (10 :: r))))
    obtain ⟨s1, s2⟩ := brace (lines (d + 1) xs ++ (pad d ++ 125 :: (10 :: r)))
    unfold pStmt
    rw [q1, if_neg (by decide), if_neg (by decide), if_pos rfl]
    unfold pIf
    rw [q2, (condText_nb (y := y) hx).skip, cond_read hk hx hy ho' (brk_32 _) s2]
    simp only
    rw [s1, block_read hxs ho ho' (n := n) (by omega)]
    simp only
    rw [skip_10, if_neg hne]

theorem T.iteElse {o k : Nat} {x y : Nat × Bs} {xs ys : List (Nat → Bs)} (hk : k < 6) (hx : G o x) (hy : G o y) (ho : o < 12) (hxs : ∀ z ∈ xs, T (o + 1) z) (hys : ∀ z ∈ ys, T (o + 1) z) : T o (Pr.ite k x y xs (some ys)) := by
  refine T.word wIf (fun d => condText k x y ++ [32, 123, 10] ++ lines (d + 1) xs ++ pad d ++ [125, 32, 101, 108, 115, 101, 32, 123, 10] ++ lines (d + 1) ys ++ pad d ++ [125, 10]) (by decide) (by decide) (by decide) (fun d => ?_) ?_
  · show pad d ++ [105, 102, 32] ++ condText k x y ++ [32, 123, 10] ++ lines (d + 1) xs ++ (pad d ++ [125, 32, 101, 108, 115, 101, 32, 123, 10] ++ lines (d + 1) ys) ++ pad d ++ [125, 10] = _
    simp [wIf]
  · intro d n o' r ho' hn _
    simp only [List.length_append, List.length_cons, List.length_nil] at hn
    rw [show condText k x y ++ [32, 123, 10] ++ lines (d + 1) xs ++ pad d ++ [125, 32, 101, 108, 115, 101, 32, 123, 10] ++ lines (d + 1) ys ++ pad d ++ [125, 10] ++ r = condText k x y ++ 32 :: 123 :: 10 :: (lines (d + 1) xs ++ (pad d ++ 125 :: (32 :: (wElse ++ 32 :: 123 :: 10 :: (lines (d + 1) ys ++ (pad d ++ 125 :: (10 :: r))))))) by simp [wElse]]
    obtain ⟨q1, q2⟩ := word_tok (w := wIf) (by decide) (by decide) (condText k x y ++ 32 :: 123 :: 10 :: (lines (d + 1) xs ++ (pad d ++ 125 :: (32 :: (wElse ++ 32 :: 123 :: 10 :: (lines (d + 1) ys ++ (pad d ++ 125 :: (10 :: r))))))))
    obtain ⟨s1, s2⟩ := brace (lines (d + 1) xs ++ (pad d ++ 125 :: (32 :: (wElse ++ 32 :: 123 :: 10 :: (lines (d + 1) ys ++ (pad d ++ 125 :: (10 :: r)))))))
    obtain ⟨p1, p2⟩ := word_tok (w := wElse) (by decide) (by decide) (123 :: 10 :: (lines (d + 1) ys ++ (pad d ++ 125 :: (10 :: r))))
    unfold pStmt
    rw [q1, if_neg (by decide), if_neg (by decide), if_pos rfl]
    unfold pIf
    rw [q2, (condText_nb (y := y) hx).skip, cond_read hk hx hy ho' (brk_32 _) s2]
    simp only
    rw [s1, block_read hxs ho ho' (n := n) (by omega)]
    simp only
    rw [skip_32, (word_nb (w := wElse) (by decide) (by decide)).skip, if_pos p1, p2, skip_nb _ (by decide), block_read hys ho ho' (n := n) (by omega)]
    simp only
    rw [skip_10]

theorem pMany_all {P : (Nat → Bs) → Prop} {st : Bs → R Pr.T} (hst : ∀ l x l', st l = .ok (x, l') → P x) : ∀ m (acc : List Pr.T) l ys l', (∀ x ∈ acc, P x) → pMany Pr st m acc l = .ok (ys, l') → ∀ x ∈ ys, P x := by
  intro m
  induction m with
  | zero => intro acc l ys l' ha h; cases h; exact ha
  | succ m ih =>
    intro acc l ys l' ha h
    rw [pMany_succ Pr st m acc l] at h
    split at h
    · split at h
      · next x l1 hx =>
        refine ih _ _ _ _ ?_ h
        intro z hz
        rcases List.mem_append.1 hz with hz | hz
        · exact ha z hz
        · rw [List.mem_singleton.1 hz]; exact hst _ _ _ hx
      · cases h
    · cases h; exact ha
theorem pBlock_all {P : (Nat → Bs) → Prop} {st : Bs → R Pr.T} (hst : ∀ l x l', st l = .ok (x, l') → P x) {o : Nat} {l : Bs} {xs : List Pr.T} {l' : Bs} (h : pBlock Pr st o l = .ok (xs, l')) : ∀ x ∈ xs, P x := by
  unfold pBlock at h
  split at h
  · split at h
    · next ys l2 hm =>
      split at h
      · cases h; exact pMany_all hst _ _ _ _ _ (fun x hx => by cases hx) hm
      · cases h
    · cases h
  · cases h
theorem pBlock_lt12 {st : Bs → R Pr.T} {o : Nat} {l : Bs} {xs : List Pr.T} {l' : Bs} (ho : o ≤ 12) (h : pBlock Pr st o l = .ok (xs, l')) : o < 12 := by
  unfold pBlock at h
  split at h
  · next l1 he => exact enter_ok he ho
  · cases h

theorem pStmt_T : ∀ n o l x l', o ≤ 12 → pStmt Pr n o l = .ok (x, l') → T o x := by
  intro n
  induction n with
  | zero => intro o l x l' _ h; cases h
  | succ n ih =>
    intro o l x l' ho h
    unfold pStmt at h
    split at h
    · unfold pRead at h
      split at h
      · next k l1 hk =>
        split at h
        · cases h; exact T.read (pName_lt8 hk)
        · cases h
      · cases h
    · split at h
      · unfold pAssert at h
        split at h
        · next k x1 y1 l1 hc =>
          split at h
          · cases h
            obtain ⟨h1, h2, h3⟩ := pCond_g ho hc
            exact T.assert h1 h2 h3
          · cases h
        · cases h
      · split at h
        · unfold pIf at h
          split at h
          · next k x1 y1 l1 hc =>
            obtain ⟨h1, h2, h3⟩ := pCond_g ho hc
            split at h
            · next xs l2 hb =>
              have h4 := pBlock_lt12 ho hb
              have h5 := pBlock_all (P := T (o + 1)) (fun l x l' h => ih _ _ _ _ (by omega) h) hb
              split at h
              · split at h
                · next ys l3 hb2 =>
                  cases h
                  exact T.iteElse h1 h2 h3 h4 h5 (pBlock_all (P := T (o + 1)) (fun l x l' h => ih _ _ _ _ (by omega) h) hb2)
                · cases h
              · cases h; exact T.ite h1 h2 h3 h4 h5
            · cases h
          · cases h
        · split at h
          · unfold pWhile at h
            split at h
            · next k x1 y1 l1 hc =>
              obtain ⟨h1, h2, h3⟩ := pCond_g ho hc
              split at h
              · next xs l2 hb =>
                cases h
                exact T.loop h1 h2 h3 (pBlock_lt12 ho hb) (pBlock_all (P := T (o + 1)) (fun l x l' h => ih _ _ _ _ (by have := pBlock_lt12 ho hb; omega) h) hb)
              · cases h
            · cases h
          · unfold pAssign at h
            split at h
            · next k l1 hk =>
              split at h
              · split at h
                · next x1 l3 hx =>
                  split at h
                  · cases h; exact T.assign (pName_lt8 hk) (pS_g ho hx)
                  · cases h
                · cases h
              · cases h
            · cases h

theorem lines_skip {o : Nat} {xs : List (Nat → Bs)} (h : ∀ x ∈ xs, T o x) : skip (lines 0 xs) = lines 0 xs := by
  cases xs with
  | nil => rfl
  | cons x xs =>
    obtain ⟨c, b, hb, hc⟩ := (h x (by simp)).hd 0
    rw [lines_cons, hb]
    exact skip_nb _ (let_nb hc)

theorem parse_T {s : Bs} {xs : List Pr.T} (h : parse Pr s = .ok xs) : ∀ x ∈ xs, T 0 x := by
  unfold parse at h
  split at h
  · cases h
  · split at h
    · next ys hp =>
      cases h
      unfold pProg at hp
      split at hp
      · next zs l1 hm =>
        split at hp
        · cases hp
          exact pMany_all (P := T 0) (fun l x l' h => pStmt_T _ _ _ _ _ (by omega) h) _ _ _ _ _ (fun x hx => by cases hx) hm
        · cases hp
      · cases hp
    · cases h

theorem parse_lines {xs : List (Nat → Bs)} (h : ∀ x ∈ xs, T 0 x) (hl : (lines 0 xs).length ≤ 400) : parse Pr (lines 0 xs) = .ok xs := by
  have hm := many_read xs h 0 ((lines 0 xs).length + 1) 0 [] ((lines 0 xs).length + 1) [] (by omega) (by omega) (by decide) (by rw [List.append_nil, lines_skip h]; omega)
  rw [List.append_nil, lines_skip h] at hm
  have hm' : pMany Pr (pStmt Pr ((lines 0 xs).length + 1) 0) ((lines 0 xs).length + 1) [] (lines 0 xs) = (.ok (xs, []) : R (List Pr.T)) := hm
  unfold parse
  rw [if_neg (by omega), lines_skip h]
  unfold pProg
  rw [hm']
  simp

theorem print_again (s t : Bs) (h : print s = .ok t) (hl : t.length ≤ 400) : print t = .ok t := by
  unfold print at h
  split at h
  · next xs hp =>
    cases h
    unfold print
    rw [parse_lines (parse_T hp) hl]
  · cases h

end Sp
end Go.Proofs.YtjkllmiikdlhhaaGreatDoor
