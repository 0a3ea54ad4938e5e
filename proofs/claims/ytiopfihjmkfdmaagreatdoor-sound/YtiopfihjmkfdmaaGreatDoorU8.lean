import Derived.Test.YtiopfihjmkfdmaaGreatDoorU5
import Derived.Test.YtiopfihjmkfdmaaGreatDoorU6
namespace Go.Proofs.YtiopfihjmkfdmaaGreatDoor
namespace Sp
theorem word_tok {w : Bs} (h0 : w ≠ []) (hl : ∀ c ∈ w, isLet c = true) (z : Bs) : tok (w ++ 32 :: z) = w ∧ next (w ++ 32 :: z) = skip z := by
 obtain ⟨h1, h2, _⟩ := tok_word (r := 32 :: z) h0 hl (fun c h => by cases h; decide)
 exact ⟨h1, h2.trans (skip_32 z)⟩
theorem word_nb {w : Bs} (h0 : w ≠ []) (hl : ∀ c ∈ w, isLet c = true) : NB w := by
 cases w with
 | nil => exact absurd rfl h0
 | cons c r => exact ⟨c, r, rfl, let_nb (hl c (by simp))⟩
theorem T.word {o : Nat} {x : Nat → Bs} (w : Bs) (tail : Nat → Bs) (h0 : w ≠ []) (hl : ∀ c ∈ w, isLet c = true) (hw : w ≠ wElse) (hx : ∀ d, x d = pad d ++ w ++ [32] ++ tail d)
  (hr : ∀ d n o' r, o' ≤ o → (tail d).length ≤ n → tok (skip r) ≠ wElse → pStmt Pr (n + 1) o' (w ++ 32 :: (tail d ++ r)) = .ok (x, skip r)) : T o x := by
 have e : ∀ d r, skip (x d ++ r) = w ++ 32 :: (tail d ++ r) := by
  intro d r
  rw [hx, show (pad d ++ w ++ [32] ++ tail d) ++ r = pad d ++ (w ++ 32 :: (tail d ++ r)) by simp, skip_pad]
  exact (word_nb h0 hl).skip _
 refine ⟨?_, ?_, ?_⟩
 ·intro d
  cases w with
  | nil => exact absurd rfl h0
  | cons c w' => exact ⟨c, w' ++ [32] ++ tail d, by rw [hx]; simp, hl c (by simp)⟩
 ·intro d r
  rw [e, (word_tok h0 hl _).1]
  exact hw
 ·intro d n o' r ho hn hne
  rw [hx] at hn
  simp only [List.length_append, List.length_cons, List.length_nil] at hn
  obtain ⟨n', rfl⟩ : ∃ n', n = n' + 1 := ⟨n - 1, by omega⟩
  rw [e]
  exact hr d n' o' r ho (by omega) hne
theorem semi (r : Bs) : skip (59 :: 10 :: r) = 59 :: 10 :: r ∧ opOf (tok (skip (59 :: 10 :: r))) = none ∧ take [59] (59 :: 10 :: r) = .ok (skip r) := by
 have hsk : skip (59 :: 10 :: r) = 59 :: 10 :: r := skip_nb _ (by decide)
 refine ⟨hsk, ?_, ?_⟩
 ·rw [hsk, (tok_one (c := 59) (by decide) (fun h => absurd h (by decide))).1]; rfl
 ·rw [take_one (by decide) (fun h => absurd h (by decide)), skip_10]
theorem brace (r : Bs) : skip (32 :: 123 :: 10 :: r) = 123 :: 10 :: r ∧ opOf (tok (skip (32 :: 123 :: 10 :: r))) = none := by
 have hsk : skip (32 :: 123 :: 10 :: r) = 123 :: 10 :: r := (skip_32 _).trans (skip_nb _ (by decide))
 refine ⟨hsk, ?_⟩
 rw [hsk, (tok_one (c := 123) (by decide) (fun h => absurd h (by decide))).1]; rfl
theorem T.read {o k : Nat} (hk : k < 8) : T o (Pr.read k) := by
 refine T.word wRead (fun _ => letter k ++ [59, 10]) (by decide) (by decide) (by decide) (fun d => ?_) ?_
 ·show pad d ++ [114, 101, 97, 100, 32] ++ letter k ++ [59, 10] = _
  simp [wRead]
 ·intro d n o' r _ _ _
  rw [show letter k ++ [59, 10] ++ r = letter k ++ 59 :: 10 :: r by simp]
  obtain ⟨q1, q2⟩ := word_tok (w := wRead) (by decide) (by decide) (letter k ++ 59 :: 10 :: r)
  obtain ⟨s1, _, s3⟩ := semi r
  unfold pStmt
  rw [if_pos q1]
  unfold pRead
  rw [q2, (letter_nb hk).skip, pName_letter hk (brk_59 _).let]
  simp only
  rw [s1, s3]
theorem T.assert {o k : Nat} {x y : Nat × Bs} (hk : k < 6) (hx : G o x) (hy : G o y) : T o (Pr.assert k x y) := by
 refine T.word wAssert (fun _ => condText k x y ++ [59, 10]) (by decide) (by decide) (by decide) (fun d => ?_) ?_
 ·show pad d ++ [97, 115, 115, 101, 114, 116, 32] ++ condText k x y ++ [59, 10] = _
  simp [wAssert]
 ·intro d n o' r ho _ _
  rw [show condText k x y ++ [59, 10] ++ r = condText k x y ++ 59 :: 10 :: r by simp]
  obtain ⟨q1, q2⟩ := word_tok (w := wAssert) (by decide) (by decide) (condText k x y ++ 59 :: 10 :: r)
  obtain ⟨s1, s2, s3⟩ := semi r
  unfold pStmt
  rw [q1, if_neg (by decide), if_pos rfl]
  unfold pAssert
  rw [q2, (condText_nb (y := y) hx).skip, cond_read hk hx hy ho (brk_59 _) s2]
  simp only
  rw [s1, s3]
theorem T.loop {o k : Nat} {x y : Nat × Bs} {xs : List (Nat → Bs)} (hk : k < 6) (hx : G o x) (hy : G o y) (ho : o < 12) (hxs : ∀ z ∈ xs, T (o + 1) z) : T o (Pr.loop k x y xs) := by
 refine T.word wWhile (fun d => condText k x y ++ [32, 123, 10] ++ lines (d + 1) xs ++ pad d ++ [125, 10]) (by decide) (by decide) (by decide) (fun d => ?_) ?_
 ·show pad d ++ [119, 104, 105, 108, 101, 32] ++ condText k x y ++ [32, 123, 10] ++ lines (d + 1) xs ++ pad d ++ [125, 10] = _
  simp [wWhile]
 ·intro d n o' r ho' hn _
  simp only [List.length_append, List.length_cons, List.length_nil] at hn
  rw [show condText k x y ++ [32, 123, 10] ++ lines (d + 1) xs ++ pad d ++ [125, 10] ++ r = condText k x y ++ 32 :: 123 :: 10 :: (lines (d + 1) xs ++ (pad d ++ 125 :: (10 :: r))) by simp]
  obtain ⟨q1, q2⟩ := word_tok (w := wWhile) (by decide) (by decide) (condText k x y ++ 32 :: 123 :: 10 :: (lines (d + 1) xs ++ (pad d ++ 125 :: (10 :: r))))
  obtain ⟨s1, s2⟩ := brace (lines (d + 1) xs ++ (pad d ++ 125 :: (10 :: r)))
  unfold pStmt
  rw [q1, if_neg (by decide), if_neg (by decide), if_neg (by decide), if_pos rfl]
  unfold pWhile
  rw [q2, (condText_nb (y := y) hx).skip, cond_read hk hx hy ho' (brk_32 _) s2]
  simp only
  rw [s1, block_read hxs ho ho' (n := n) (by omega)]
  simp only
  rw [skip_10]
theorem T.ite {o k : Nat} {x y : Nat × Bs} {xs : List (Nat → Bs)} (hk : k < 6) (hx : G o x) (hy : G o y) (ho : o < 12) (hxs : ∀ z ∈ xs, T (o + 1) z) : T o (Pr.ite k x y xs none) := by
 refine T.word wIf (fun d => condText k x y ++ [32, 123, 10] ++ lines (d + 1) xs ++ pad d ++ [125, 10]) (by decide) (by decide) (by decide) (fun d => ?_) ?_
 ·show pad d ++ [105, 102, 32] ++ condText k x y ++ [32, 123, 10] ++ lines (d + 1) xs ++ [] ++ pad d ++ [125, 10] = _
  simp [wIf]
 ·intro d n o' r ho' hn hne
  simp only [List.length_append, List.length_cons, List.length_nil] at hn
  rw [show condText k x y ++ [32, 123, 10] ++ lines (d + 1) xs ++ pad d ++ [125, 10] ++ r = condText k x y ++ 32 :: 123 :: 10 :: (lines (d + 1) xs ++ (pad d ++ 125 :: (10 :: r))) by simp]
  obtain ⟨q1, q2⟩ := word_tok (w := wIf) (by decide) (by decide) (condText k x y ++ 32 :: 123 :: 10 :: (lines (d + 1) xs ++ (pad d ++ 125 :: (10 :: r))))
  obtain ⟨s1, s2⟩ := brace (lines (d + 1) xs ++ (pad d ++ 125 :: (10 :: r)))
  unfold pStmt
  rw [q1, if_neg (by decide), if_neg (by decide), if_pos rfl]
  unfold pIf
  rw [q2, (condText_nb (y := y) hx).skip, cond_read hk hx hy ho' (brk_32 _) s2]
  simp only
  rw [s1, block_read hxs ho ho' (n := n) (by omega)]
  simp only
  rw [skip_10, if_neg hne]
theorem T.iteElse {o k : Nat} {x y : Nat × Bs} {xs ys : List (Nat → Bs)} (hk : k < 6) (hx : G o x) (hy : G o y) (ho : o < 12) (hxs : ∀ z ∈ xs, T (o + 1) z) (hys : ∀ z ∈ ys, T (o + 1) z) : T o (Pr.ite k x y xs (some ys)) := by
 refine T.word wIf (fun d => condText k x y ++ [32, 123, 10] ++ lines (d + 1) xs ++ pad d ++ [125, 32, 101, 108, 115, 101, 32, 123, 10] ++ lines (d + 1) ys ++ pad d ++ [125, 10]) (by decide) (by decide) (by decide) (fun d => ?_) ?_
 ·show pad d ++ [105, 102, 32] ++ condText k x y ++ [32, 123, 10] ++ lines (d + 1) xs ++ (pad d ++ [125, 32, 101, 108, 115, 101, 32, 123, 10] ++ lines (d + 1) ys) ++ pad d ++ [125, 10] = _
  simp [wIf]
 ·intro d n o' r ho' hn _
  simp only [List.length_append, List.length_cons, List.length_nil] at hn
  rw [show condText k x y ++ [32, 123, 10] ++ lines (d + 1) xs ++ pad d ++ [125, 32, 101, 108, 115, 101, 32, 123, 10] ++ lines (d + 1) ys ++ pad d ++ [125, 10] ++ r = condText k x y ++ 32 :: 123 :: 10 :: (lines (d + 1) xs ++ (pad d ++ 125 :: (32 :: (wElse ++ 32 :: 123 :: 10 :: (lines (d + 1) ys ++ (pad d ++ 125 :: (10 :: r))))))) by simp [wElse]]
  obtain ⟨q1, q2⟩ := word_tok (w := wIf) (by decide) (by decide) (condText k x y ++ 32 :: 123 :: 10 :: (lines (d + 1) xs ++ (pad d ++ 125 :: (32 :: (wElse ++ 32 :: 123 :: 10 :: (lines (d + 1) ys ++ (pad d ++ 125 :: (10 :: r))))))))
  obtain ⟨s1, s2⟩ := brace (lines (d + 1) xs ++ (pad d ++ 125 :: (32 :: (wElse ++ 32 :: 123 :: 10 :: (lines (d + 1) ys ++ (pad d ++ 125 :: (10 :: r)))))))
  obtain ⟨p1, p2⟩ := word_tok (w := wElse) (by decide) (by decide) (123 :: 10 :: (lines (d + 1) ys ++ (pad d ++ 125 :: (10 :: r))))
  unfold pStmt
  rw [q1, if_neg (by decide), if_neg (by decide), if_pos rfl]
  unfold pIf
  rw [q2, (condText_nb (y := y) hx).skip, cond_read hk hx hy ho' (brk_32 _) s2]
  simp only
  rw [s1, block_read hxs ho ho' (n := n) (by omega)]
  simp only
  rw [skip_32, (word_nb (w := wElse) (by decide) (by decide)).skip, if_pos p1, p2, skip_nb _ (by decide), block_read hys ho ho' (n := n) (by omega)]
  simp only
  rw [skip_10]
end Sp
end Go.Proofs.YtiopfihjmkfdmaaGreatDoor
namespace Go.Proofs.YtiopfihjmkfdmaaGreatDoor
namespace Sp
namespace Pn
def QL {τ : Type} (Q : Nat → τ → Prop) : Nat → List τ → Prop
 | _, [] => True
 | n, x :: xs => ∃ a b, a + b ≤ n ∧ Q a x ∧ QL Q b xs
theorem QL.mono {τ : Type} {Q : Nat → τ → Prop} : ∀ {n m : Nat} {xs : List τ}, QL Q n xs → n ≤ m → QL Q m xs
 | _, _, [], _, _ => trivial
 | _, _, _ :: _, ⟨a, b, h, h1, h2⟩, k => ⟨a, b, by omega, h1, h2⟩
theorem QL.snoc {τ : Type} {Q : Nat → τ → Prop} : ∀ {n m : Nat} {xs : List τ} {x : τ}, QL Q n xs → Q m x → QL Q (n + m) (xs ++ [x])
 | n, m, [], x, _, hx => ⟨m, n, by omega, hx, trivial⟩
 | n, m, y :: ys, x, ⟨a, b, h, h1, h2⟩, hx => ⟨a, b + m, by omega, h1, QL.snoc h2 hx⟩
structure Made (A : Alg) (P : Nat → A.S → Prop) (Q : Nat → A.T → Prop) : Prop where
 pm : ∀ n m x, P n x → n ≤ m → P m x
 qm : ∀ n m x, Q n x → n ≤ m → Q m x
 num : ∀ v, v ≤ 32767 → P 0 (A.num v)
 name : ∀ k, k < 8 → P 0 (A.name k)
 neg : ∀ n x, P n x → P n (A.neg x)
 bin : ∀ k n m x y, k < 5 → P n x → P m y → P (n + m + 1) (A.bin k x y)
 assign : ∀ k n x, k < 8 → P n x → Q (n + 1) (A.assign k x)
 read : ∀ k, k < 8 → Q 1 (A.read k)
 assert : ∀ k n m x y, k < 6 → P n x → P m y → Q (n + m + 1) (A.assert k x y)
 ite : ∀ k n m j x y xs, k < 6 → P n x → P m y → QL Q j xs → Q (n + m + j + 1) (A.ite k x y xs none)
 iteElse : ∀ k n m j i x y xs ys, k < 6 → P n x → P m y → QL Q j xs → QL Q i ys → Q (n + m + j + i + 1) (A.ite k x y xs (some ys))
 loop : ∀ k n m j x y xs, k < 6 → P n x → P m y → QL Q j xs → Q (n + m + j + 1) (A.loop k x y xs)
section
variable {A : Alg} {P : Nat → A.S → Prop} {Q : Nat → A.T → Prop} (H : Made A P Q)
def Reads (P : Nat → A.S → Prop) (u : Bs → R A.S) : Prop := ∀ l x l', u l = .ok (x, l') → l'.length < l.length ∧ P (l.length - l'.length) x
include H in
theorem pChain_n {lv : Nat} {u : Bs → R A.S} (hu : Reads P u) : ∀ m a (x : A.S) l (y : A.S) l', P a x → pChain A lv u m x l = .ok (y, l') → l'.length ≤ l.length ∧ P (a + (l.length - l'.length)) y := by
 intro m
 induction m with
 | zero => intro a x l y l' hx h; cases h; exact ⟨Nat.le_refl _, by simpa using hx⟩
 | succ m ih =>
  intro a x l y l' hx h
  rw [pChain_succ A lv u m x l] at h
  split at h
  ·next k hk =>
   split at h
   ·split at h
    ·next z l1 hz =>
     obtain ⟨h1, h2⟩ := hu _ _ _ hz
     have h0 : (next l).length < l.length := by
      apply next_lt
      rw [← tok_length]
      apply List.length_pos_iff.2
      intro e; rw [e] at hk; simp [opOf] at hk
     obtain ⟨h3, h4⟩ := ih _ _ _ _ _ (H.bin k a _ x z (opOf_lt hk) hx h2) h
     exact ⟨by omega, H.pm _ _ _ h4 (by omega)⟩
    ·cases h
   ·cases h; exact ⟨Nat.le_refl _, by simpa using hx⟩
  ·cases h; exact ⟨Nat.le_refl _, by simpa using hx⟩
include H in
theorem pWith_n {lv : Nat} {u : Bs → R A.S} (hu : Reads P u) : Reads P (pWith A lv u) := by
 intro l x l' h
 unfold pWith at h
 split at h
 ·next y l1 hy =>
  obtain ⟨h1, h2⟩ := hu _ _ _ hy
  obtain ⟨h3, h4⟩ := pChain_n H hu _ _ _ _ _ _ h2 h
  exact ⟨by omega, H.pm _ _ _ h4 (by omega)⟩
 ·cases h
include H in
theorem pSum_n {u : Bs → R A.S} (hu : Reads P u) : Reads P (pSum A u) := pWith_n H (pWith_n H hu)
include H in
theorem pUnary_n : ∀ n o, Reads P (pUnary A n o) := by
 intro n
 induction n with
 | zero => intro o l x l' h; cases h
 | succ n ih =>
  intro o l x l' h
  unfold pUnary at h
  split at h
  ·next hk =>
   split at h
   ·next v hv => cases h; exact ⟨next_lt (tokLen_pos (.inr (.inl hk))), H.pm _ _ _ (H.num v (numVal_le hv)) (Nat.zero_le _)⟩
   ·cases h
  ·split at h
   ·next hk2 =>
    split at h
    ·next k l1 hk =>
     obtain ⟨h5, h6⟩ := pName_ok_iff hk
     cases h
     exact ⟨by rw [h6]; exact next_lt (tokLen_pos (.inl hk2)), H.pm _ _ _ (H.name k (pName_lt8 hk)) (Nat.zero_le _)⟩
    ·cases h
   ·split at h
    ·split at h
     ·next l1 he =>
      obtain ⟨ht, _, rfl⟩ := enter_ok_iff he
      have h0 := next_lt_of_tok ht (by simp)
      split at h
      ·next y l2 hy =>
       cases h
       obtain ⟨h1, h2⟩ := ih _ _ _ _ hy
       exact ⟨by omega, H.pm _ _ _ (H.neg _ _ h2) (by omega)⟩
      ·cases h
     ·cases h
    ·split at h
     ·next l1 he =>
      obtain ⟨ht, _, rfl⟩ := enter_ok_iff he
      have h0 := next_lt_of_tok ht (by simp)
      split at h
      ·next y l2 hy =>
       obtain ⟨h1, h2⟩ := pSum_n H (ih _) _ _ _ hy
       split at h
       ·next l3 ht3 =>
        obtain ⟨_, rfl⟩ := take_ok_iff ht3
        have := next_le l2
        cases h
        exact ⟨by omega, H.pm _ _ _ h2 (by omega)⟩
       ·cases h
      ·cases h
     ·cases h
include H in
theorem pS_n {o : Nat} {l : Bs} {x : A.S} {l' : Bs} (h : pS A o l = .ok (x, l')) : l'.length < l.length ∧ P (l.length - l'.length) x := pSum_n H (pUnary_n H _ _) _ _ _ h
include H in
theorem pCond_n {o : Nat} {l : Bs} {k : Nat} {x y : A.S} {l' : Bs} (h : pCond A o l = .ok ((k, x, y), l')) : k < 6 ∧ l'.length < l.length ∧ ∃ a b, a + b ≤ l.length - l'.length ∧ P a x ∧ P b y := by
 unfold pCond at h
 split at h
 ·next x1 l1 hx =>
  split at h
  ·next k1 hk =>
   split at h
   ·next y1 l2 hy =>
    cases h
    obtain ⟨h1, h2⟩ := pS_n H hx
    obtain ⟨h3, h4⟩ := pS_n H hy
    have := next_le l1
    exact ⟨relOf_lt hk, by omega, _, _, by omega, h2, h4⟩
   ·cases h
  ·cases h
 ·cases h
def ReadsT (Q : Nat → A.T → Prop) (st : Bs → R A.T) : Prop := ∀ l x l', st l = .ok (x, l') → l'.length < l.length ∧ Q (l.length - l'.length) x
theorem pMany_n {st : Bs → R A.T} (hs : ReadsT Q st) : ∀ m a (acc : List A.T) l ys l', QL Q a acc → pMany A st m acc l = .ok (ys, l') → l'.length ≤ l.length ∧ QL Q (a + (l.length - l'.length)) ys := by
 intro m
 induction m with
 | zero => intro a acc l ys l' ha h; cases h; exact ⟨Nat.le_refl _, by simpa using ha⟩
 | succ m ih =>
  intro a acc l ys l' ha h
  rw [pMany_succ A st m acc l] at h
  split at h
  ·split at h
   ·next x l1 hx =>
    obtain ⟨h1, h2⟩ := hs _ _ _ hx
    obtain ⟨h3, h4⟩ := ih _ _ _ _ _ (ha.snoc h2) h
    exact ⟨by omega, h4.mono (by omega)⟩
   ·cases h
  ·cases h; exact ⟨Nat.le_refl _, by simpa using ha⟩
theorem pBlock_n {st : Bs → R A.T} (hs : ReadsT Q st) {o : Nat} {l : Bs} {xs : List A.T} {l' : Bs} (h : pBlock A st o l = .ok (xs, l')) : l'.length < l.length ∧ QL Q (l.length - l'.length) xs := by
 unfold pBlock at h
 split at h
 ·next l1 he =>
  obtain ⟨ht, _, rfl⟩ := enter_ok_iff he
  have h0 := next_lt_of_tok ht (by simp)
  split at h
  ·next ys l2 hm =>
   obtain ⟨h1, h2⟩ := pMany_n hs _ 0 [] _ _ _ trivial hm
   split at h
   ·next l3 ht3 =>
    obtain ⟨_, rfl⟩ := take_ok_iff ht3
    have := next_le l2
    cases h
    exact ⟨by omega, h2.mono (by omega)⟩
   ·cases h
  ·cases h
 ·cases h
include H in
theorem pStmt_n : ∀ n o, ReadsT Q (pStmt A n o) := by
 intro n
 induction n with
 | zero => intro o l x l' h; cases h
 | succ n ih =>
  intro o l x l' h
  unfold pStmt at h
  split at h
  ·next ht =>
   have h0 := next_lt_of_tok ht (by decide)
   unfold pRead at h
   split at h
   ·next k l1 hk =>
    obtain ⟨h5, rfl⟩ := pName_ok_iff hk
    have h6 := next_le (next l)
    split at h
    ·next l2 h2 =>
     obtain ⟨_, rfl⟩ := take_ok_iff h2
     have := next_le (next (next l))
     cases h
     exact ⟨by omega, H.qm _ _ _ (H.read k (pName_lt8 hk)) (by omega)⟩
    ·cases h
   ·cases h
  ·split at h
   ·next ht =>
    have h0 := next_lt_of_tok ht (by decide)
    unfold pAssert at h
    split at h
    ·next k x1 y1 l1 hc =>
     obtain ⟨h1, h2, a, b, h3, h4, h5⟩ := pCond_n H hc
     split at h
     ·next l2 h6 =>
      obtain ⟨_, rfl⟩ := take_ok_iff h6
      have := next_le l1
      cases h
      exact ⟨by omega, H.qm _ _ _ (H.assert _ _ _ _ _ h1 h4 h5) (by omega)⟩
     ·cases h
    ·cases h
   ·split at h
    ·next ht =>
     have h0 := next_lt_of_tok ht (by decide)
     unfold pIf at h
     split at h
     ·next k x1 y1 l1 hc =>
      obtain ⟨h1, h2, a, b, h3, h4, h5⟩ := pCond_n H hc
      split at h
      ·next xs l2 hb =>
       obtain ⟨h6, h7⟩ := pBlock_n (ih _) hb
       split at h
       ·split at h
        ·next ys l3 hb2 =>
         obtain ⟨h8, h9⟩ := pBlock_n (ih _) hb2
         have := next_le l2
         cases h
         exact ⟨by omega, H.qm _ _ _ (H.iteElse _ _ _ _ _ _ _ _ _ h1 h4 h5 h7 h9) (by omega)⟩
        ·cases h
       ·cases h; exact ⟨by omega, H.qm _ _ _ (H.ite _ _ _ _ _ _ _ h1 h4 h5 h7) (by omega)⟩
      ·cases h
     ·cases h
    ·split at h
     ·next ht =>
      have h0 := next_lt_of_tok ht (by decide)
      unfold pWhile at h
      split at h
      ·next k x1 y1 l1 hc =>
       obtain ⟨h1, h2, a, b, h3, h4, h5⟩ := pCond_n H hc
       split at h
       ·next xs l2 hb =>
        obtain ⟨h6, h7⟩ := pBlock_n (ih _) hb
        cases h
        exact ⟨by omega, H.qm _ _ _ (H.loop _ _ _ _ _ _ _ h1 h4 h5 h7) (by omega)⟩
       ·cases h
      ·cases h
     ·unfold pAssign at h
      split at h
      ·next k l1 hk =>
       obtain ⟨h5, rfl⟩ := pName_ok_iff hk
       have h6 : (next l).length < l.length := by
        have h2 : tokKind l = 2 := by
         unfold nameVal at h5
         split at h5
         ·split at h5
          ·next hc => exact hc.1
          ·cases h5
         ·cases h5
        exact next_lt (tokLen_pos (.inl h2))
       split at h
       ·next l2 h2 =>
        obtain ⟨_, rfl⟩ := take_ok_iff h2
        have h7 := next_le (next l)
        split at h
        ·next x1 l3 hx =>
         obtain ⟨h8, h9⟩ := pS_n H hx
         split at h
         ·next l4 h10 =>
          obtain ⟨_, rfl⟩ := take_ok_iff h10
          have := next_le l3
          cases h
          exact ⟨by omega, H.qm _ _ _ (H.assign _ _ _ (pName_lt8 hk) h9) (by omega)⟩
         ·cases h
        ·cases h
       ·cases h
      ·cases h
include H in
theorem parse_n {s : Bs} {xs : List A.T} (h : parse A s = .ok xs) : s.length ≤ 400 ∧ QL Q 400 xs := by
 unfold parse at h
 split at h
 ·cases h
 ·next hs =>
  refine ⟨by omega, ?_⟩
  have hs2 := skip_le s
  split at h
  ·next ys hp =>
   cases h
   unfold pProg at hp
   split at hp
   ·next zs l1 hm =>
    split at hp
    ·cases hp
     obtain ⟨_, h2⟩ := pMany_n (pStmt_n H _ _) _ 0 [] _ _ _ trivial hm
     exact h2.mono (by omega)
    ·cases hp
   ·cases hp
  ·cases h
end
end Pn
end Sp
end Go.Proofs.YtiopfihjmkfdmaaGreatDoor
namespace Go.Proofs.YtiopfihjmkfdmaaGreatDoor
namespace Sp
namespace Bk
section
variable {J : Alg} (h : Hom J Pr)
def tx (x : J.S) : Nat × Bs := h.s x
def tt (x : J.T) : Nat → Bs := h.t x
def RU (x : J.S) (t : Bs) (o : Nat) : Prop := ∀ o' n r, o' ≤ o → t.length ≤ n → Brk r → pUnary J n o' (t ++ r) = .ok (x, skip r)
def RP (x : J.S) (t : Bs) (o : Nat) : Prop := ∀ o' n r, o' ≤ o → t.length ≤ n → Brk r → ∃ m, (skip r).length < m ∧ pProd J (pUnary J n o') (t ++ r) = pChain J 1 (pUnary J n o') m x (skip r)
def RS (x : J.S) (t : Bs) (o : Nat) : Prop := ∀ o' n r, o' ≤ o → t.length ≤ n → Brk r → No1 r → ∃ m, (skip r).length < m ∧ pSum J (pUnary J n o') (t ++ r) = pChain J 0 (pProd J (pUnary J n o')) m x (skip r)
theorem stop1 {u : Bs → R J.S} {m : Nat} {x : J.S} {r : Bs} (h : No1 r) : pChain J 1 u m x (skip r) = .ok (x, skip r) := by
 cases m with
 | zero => rfl
 | succ m =>
  rw [pChain_succ J 1 u m x (skip r)]
  split
  ·next k hk => rw [if_neg (h k hk)]
  ·rfl
theorem stop0 {u : Bs → R J.S} {m : Nat} {x : J.S} {r : Bs} (h : opOf (tok r) = none) : pChain J 0 u m x r = .ok (x, r) := by
 cases m with
 | zero => rfl
 | succ m =>
  rw [pChain_succ J 0 u m x r, h]
theorem RU.rp {x : J.S} {t : Bs} {o : Nat} (h : RU x t o) : RP x t o := by
 intro o' n r ho hn hr
 refine ⟨(skip r).length + 1, by omega, ?_⟩
 unfold pProd pWith
 rw [h o' n r ho hn hr]
theorem RP.rs {x : J.S} {t : Bs} {o : Nat} (h : RP x t o) : RS x t o := by
 intro o' n r ho hn hr h1
 obtain ⟨m, _, he⟩ := h o' n r ho hn hr
 rw [stop1 h1] at he
 refine ⟨(skip r).length + 1, by omega, ?_⟩
 unfold pSum pWith
 rw [he]
theorem RU.mono {x : J.S} {t : Bs} {o o1 : Nat} (h : RU x t o1) (ho : o ≤ o1) : RU x t o := fun o' n r k => h o' n r (by omega)
theorem RP.mono {x : J.S} {t : Bs} {o o1 : Nat} (h : RP x t o1) (ho : o ≤ o1) : RP x t o := fun o' n r k => h o' n r (by omega)
theorem RS.mono {x : J.S} {t : Bs} {o o1 : Nat} (h : RS x t o1) (ho : o ≤ o1) : RS x t o := fun o' n r k => h o' n r (by omega)
theorem RP.bin {x y : J.S} {tx ty : Bs} {o k : Nat} (hk : k < 5) (hl : opLevel k = 1) (hx : RP x tx o) (hy : RU y ty o) (ny : NB ty) :
  RP (J.bin k x y) (tx ++ [32] ++ opSign k ++ [32] ++ ty) o := by
 intro o' n r ho hn hr
 obtain ⟨s1, s2, s3, s4, s5⟩ := sign_tok hk (ty ++ r)
 rw [show (tx ++ [32] ++ opSign k ++ [32] ++ ty) ++ r = tx ++ (32 :: (opSign k ++ 32 :: (ty ++ r))) by simp]
 simp only [List.length_append, List.length_cons, List.length_nil] at hn
 obtain ⟨m, hm, he⟩ := hx o' n _ ho (by omega) (brk_32 _)
 rw [he]
 rw [s3] at hm ⊢
 obtain ⟨m', rfl⟩ : ∃ m', m = m' + 1 := ⟨m - 1, by omega⟩
 refine ⟨m', ?_, ?_⟩
 ·simp only [List.length_append, List.length_cons] at hm
  have := skip_len r
  omega
 ·rw [pChain_succ J 1 _ m' x _, s1, s4]
  simp only [hl, if_true]
  rw [s2, ny.skip, hy o' n r ho (by omega) hr]
theorem RS.bin {x y : J.S} {tx ty : Bs} {o k : Nat} (hk : k < 5) (hl : opLevel k = 0) (hx : RS x tx o) (hy : RP y ty o) (ny : NB ty) :
  RS (J.bin k x y) (tx ++ [32] ++ opSign k ++ [32] ++ ty) o := by
 intro o' n r ho hn hr h1
 obtain ⟨s1, s2, s3, s4, s5⟩ := sign_tok hk (ty ++ r)
 rw [show (tx ++ [32] ++ opSign k ++ [32] ++ ty) ++ r = tx ++ (32 :: (opSign k ++ 32 :: (ty ++ r))) by simp]
 simp only [List.length_append, List.length_cons, List.length_nil] at hn
 obtain ⟨m, hm, he⟩ := hx o' n (32 :: (opSign k ++ 32 :: (ty ++ r))) ho (by omega) (brk_32 _) (by
  intro k' hk'
  rw [s3, s1, s4] at hk'
  cases hk'
  omega)
 rw [he]
 rw [s3] at hm ⊢
 obtain ⟨m', rfl⟩ : ∃ m', m = m' + 1 := ⟨m - 1, by omega⟩
 refine ⟨m', ?_, ?_⟩
 ·simp only [List.length_append, List.length_cons] at hm
  have := skip_len r
  omega
 ·obtain ⟨m2, _, he2⟩ := hy o' n r ho (by omega) hr
  rw [stop1 h1] at he2
  rw [pChain_succ J 0 _ m' x _, s1, s4]
  simp only [hl, if_true]
  rw [s2, ny.skip, he2]
theorem RU.neg {x : J.S} {t : Bs} {o : Nat} (y : J.S) (hy : y = J.neg x) (h : RU x t (o + 1)) (nt : NB t) (ho : o < 12) : RU y ([45] ++ t) o := by
 intro o' n r ho' hn hr
 simp only [List.length_append, List.length_cons, List.length_nil] at hn
 obtain ⟨n', rfl⟩ : ∃ n', n = n' + 1 := ⟨n - 1, by omega⟩
 rw [show ([45] ++ t) ++ r = 45 :: (t ++ r) by simp]
 obtain ⟨q1, q2, q3⟩ := tok_one (c := 45) (r := t ++ r) (by decide) (fun h => absurd h (by decide))
 have he := h (o' + 1) n' r (by omega) (by omega) hr
 unfold pUnary
 rw [if_neg (by rw [q3]; decide), if_neg (by rw [q3]; decide), if_pos q1]
 unfold enter
 rw [if_pos q1, if_neg (by omega), q2, nt.skip]
 simp only
 rw [he, hy]
structure G (o : Nat) (x : J.S) : Prop where
 nb : NB (tx h x).2
 le : (tx h x).1 ≤ 2
 u : (tx h x).1 = 2 → RU x (tx h x).2 o
 p : 1 ≤ (tx h x).1 → RP x (tx h x).2 o
 s : RS x (tx h x).2 o
structure PV (o : Nat) (x : J.S) : Prop where
 g : G h o x
 p : RP x (part (tx h x) 1) o
structure UV (o : Nat) (x : J.S) : Prop where
 g : G h o x
 p : RP x (part (tx h x) 1) o
 u : RU x (part (tx h x) 2) o
theorem UV.leaf {o : Nat} {x : J.S} (h2 : (tx h x).1 = 2) (hn : NB (tx h x).2) (hu : RU x (tx h x).2 o) : UV h o x :=
 ⟨⟨hn, by omega, fun _ => hu, fun _ => hu.rp, hu.rp.rs⟩, by rw [part_ge (by omega)]; exact hu.rp, by rw [part_ge (by omega)]; exact hu⟩
theorem UV.neg {o : Nat} {x : J.S} (v : UV h (o + 1) x) (ho : o < 12) : UV h o (J.neg x) := by
 have e : tx h (J.neg x) = (2, [45] ++ part (tx h x) 2) := h.neg x
 refine UV.leaf h (by rw [e]) (by rw [e]; exact ⟨45, part (tx h x) 2, rfl, by decide⟩) ?_
 rw [e]
 exact RU.neg _ rfl v.u (part_nb v.g.nb 2) ho
theorem UV.num {o n : Nat} (hn : n ≤ 32767) : UV h o (J.num n) := by
 have e : tx h (J.num n) = (2, digits n) := h.num n
 refine UV.leaf h (by rw [e]) (by rw [e]; exact digits_nb hn) ?_
 rw [e]
 intro o' m r _ hm hr
 obtain ⟨h1, h2, h3⟩ := digits_spec hn
 obtain ⟨q1, q2, q3⟩ := tok_digits h1 h2 hr.dig
 have hm' : (digits n).length ≤ m := hm
 have : 0 < (digits n).length := List.length_pos_iff.2 h1
 obtain ⟨m', rfl⟩ : ∃ m', m = m' + 1 := ⟨m - 1, by omega⟩
 show pUnary J (m' + 1) o' (digits n ++ r) = _
 unfold pUnary
 rw [if_pos q3, q1, h3, q2]
theorem UV.name {o k : Nat} (hk : k < 8) : UV h o (J.name k) := by
 have e : tx h (J.name k) = (2, letter k) := h.name k
 refine UV.leaf h (by rw [e]) (by rw [e]; exact letter_nb hk) ?_
 rw [e]
 intro o' m r _ hm hr
 obtain ⟨q1, q2, q3⟩ := tok_word (t := letter k) (r := r) (by simp [letter]) (letter_let hk) hr.let
 have hm' : (letter k).length ≤ m := hm
 simp [letter] at hm'
 obtain ⟨m', rfl⟩ : ∃ m', m = m' + 1 := ⟨m - 1, by omega⟩
 show pUnary J (m' + 1) o' (letter k ++ r) = _
 unfold pUnary
 rw [if_neg (by rw [q3]; decide), if_pos q3, pName_letter hk hr.let]
theorem PV.bin {o k : Nat} {x y : J.S} (hk : k < 5) (hl : opLevel k = 1) (hx : PV h o x) (hy : UV h o y) : PV h o (J.bin k x y) := by
 have e : tx h (J.bin k x y) = (1, part (tx h x) 1 ++ [32] ++ opSign k ++ [32] ++ part (tx h y) 2) := by
  have e0 : tx h (J.bin k x y) = (opLevel k, part (tx h x) (opLevel k) ++ [32] ++ opSign k ++ [32] ++ part (tx h y) (opLevel k + 1)) := h.bin k x y
  rw [e0, hl]
 have hp := RP.bin hk hl hx.p hy.u (part_nb hy.g.nb 2)
 have hn : NB (part (tx h x) 1 ++ [32] ++ opSign k ++ [32] ++ part (tx h y) 2) := ((((part_nb hx.g.nb 1).app _).app _).app _).app _
 have e2 : part (1, part (tx h x) 1 ++ [32] ++ opSign k ++ [32] ++ part (tx h y) 2) 1 = part (tx h x) 1 ++ [32] ++ opSign k ++ [32] ++ part (tx h y) 2 := part_ge (Nat.le_refl 1)
 refine ⟨⟨by rw [e]; exact hn, by rw [e]; simp, fun k => by rw [e] at k; simp at k, fun _ => by rw [e]; exact hp, by rw [e]; exact hp.rs⟩, by rw [e, e2]; exact hp⟩
theorem G.bin {o k : Nat} {x y : J.S} (hk : k < 5) (hl : opLevel k = 0) (hx : G h o x) (hy : PV h o y) : G h o (J.bin k x y) := by
 have e : tx h (J.bin k x y) = (0, (tx h x).2 ++ [32] ++ opSign k ++ [32] ++ part (tx h y) 1) := by
  have e0 : tx h (J.bin k x y) = (opLevel k, part (tx h x) (opLevel k) ++ [32] ++ opSign k ++ [32] ++ part (tx h y) (opLevel k + 1)) := h.bin k x y
  rw [e0, hl, part_ge (Nat.zero_le _)]
 have hp := RS.bin hk hl hx.s hy.p (part_nb hy.g.nb 1)
 have hn : NB ((tx h x).2 ++ [32] ++ opSign k ++ [32] ++ part (tx h y) 1) := (((hx.nb.app _).app _).app _).app _
 exact ⟨by rw [e]; exact hn, by rw [e]; simp, fun k => by rw [e] at k; simp at k, fun k => by rw [e] at k; simp at k, by rw [e]; exact hp⟩
theorem G.read {o : Nat} {x : J.S} (g : G h o x) {o' : Nat} (ho : o' ≤ o) {r : Bs} (hr : Brk r) (hn : opOf (tok (skip r)) = none) : pS J o' ((tx h x).2 ++ r) = .ok (x, skip r) := by
 unfold pS
 obtain ⟨m, _, he⟩ := g.s o' (((tx h x).2 ++ r).length + 1) r ho (by simp; omega) hr (by intro k hk; rw [hn] at hk; cases hk)
 rw [he, stop0 hn]
end
end Bk
end Sp
end Go.Proofs.YtiopfihjmkfdmaaGreatDoor
