import Derived.Test.YtiopfihjmkfdmaaGreatDoorU8
namespace Go.Proofs.YtiopfihjmkfdmaaGreatDoor
namespace Sp
namespace Bk
section
variable {J : Alg} (h : Hom J Pr)
theorem cond_read {o k : Nat} {x y : J.S} (hk : k < 6) (hx : G h o x) (hy : G h o y) {o' : Nat} (ho : o' ≤ o) {r : Bs} (hr : Brk r) (hn : opOf (tok (skip r)) = none) :
  pCond J o' (condText k (tx h x) (tx h y) ++ r) = .ok ((k, x, y), skip r) := by
 obtain ⟨s1, s2, s3, s4, s5⟩ := rel_tok hk ((tx h y).2 ++ r)
 unfold condText
 rw [show ((tx h x).2 ++ [32] ++ relSign k ++ [32] ++ (tx h y).2) ++ r = (tx h x).2 ++ (32 :: (relSign k ++ 32 :: ((tx h y).2 ++ r))) by simp]
 have h1 := hx.read h ho (r := 32 :: (relSign k ++ 32 :: ((tx h y).2 ++ r))) (brk_32 _) (by rw [s3, s1, s5])
 unfold pCond
 rw [h1]
 simp only
 rw [s3, s1, s4]
 simp only
 rw [s2, hy.nb.skip, hy.read h ho hr hn]
theorem condText_nb {o k : Nat} {x y : J.S} (hx : G h o x) : NB (condText k (tx h x) (tx h y)) := (((hx.nb.app _).app _).app _).app _
structure T (o : Nat) (x : J.T) : Prop where
 hd : ∀ d, ∃ c b, tt h x d = pad d ++ c :: b ∧ isLet c = true
 ne : ∀ d r, tok (skip (tt h x d ++ r)) ≠ wElse
 rd : ∀ d n o' r, o' ≤ o → (tt h x d).length ≤ n → tok (skip r) ≠ wElse → pStmt J n o' (skip (tt h x d ++ r)) = .ok (x, skip r)
theorem many_read {o : Nat} : ∀ xs : List J.T, (∀ x ∈ xs, T h o x) → ∀ d n o' r m (acc : List J.T), o' ≤ o → (lines d (xs.map (tt h))).length ≤ n → tokKind (skip r) ≠ 2 → (skip (lines d (xs.map (tt h)) ++ r)).length < m →
  pMany J (pStmt J n o') m acc (skip (lines d (xs.map (tt h)) ++ r)) = .ok (acc ++ xs, skip r) := by
 intro xs
 induction xs with
 | nil =>
  intro _ d n o' r m acc _ _ hr hm
  obtain ⟨m', rfl⟩ : ∃ m', m = m' + 1 := ⟨m - 1, by omega⟩
  rw [show lines d (List.map (tt h) []) ++ r = r from rfl, pMany_succ J _ m' acc (skip r), if_neg hr, List.append_nil]
 | cons x xs ih =>
  intro hx d n o' r m acc ho hn hr hm
  have vx := hx x (by simp)
  rw [List.map_cons, lines_cons, List.append_assoc] at hm ⊢
  rw [List.map_cons, lines_cons, List.length_append] at hn
  obtain ⟨m', rfl⟩ : ∃ m', m = m' + 1 := ⟨m - 1, by omega⟩
  obtain ⟨c, b, hb, hc⟩ := vx.hd d
  have hsk : skip (tt h x d ++ (lines d (xs.map (tt h)) ++ r)) = c :: (b ++ (lines d (xs.map (tt h)) ++ r)) := by
   rw [hb, List.append_assoc, skip_pad]
   exact skip_nb _ (let_nb hc)
  have hk : tokKind (skip (tt h x d ++ (lines d (xs.map (tt h)) ++ r))) = 2 := by rw [hsk]; simp [tokKind, hc]
  have hne : tok (skip (lines d (xs.map (tt h)) ++ r)) ≠ wElse := by
   cases xs with
   | nil => exact fun h => hr (tok_else h)
   | cons y ys =>
    rw [List.map_cons, lines_cons, List.append_assoc]
    exact (hx y (by simp)).ne d _
  have hs := vx.rd d n o' (lines d (xs.map (tt h)) ++ r) ho (by omega) hne
  rw [pMany_succ J _ m' acc _, if_pos hk, hs]
  simp only
  have hlen : (skip (lines d (xs.map (tt h)) ++ r)).length < m' := by
   rw [hsk] at hm
   have := skip_len (lines d (xs.map (tt h)) ++ r)
   simp only [List.length_cons, List.length_append] at hm this
   omega
  exact (ih (fun z hz => hx z (by simp [hz])) d n o' r m' (acc ++ [x]) ho (by omega) hr hlen).trans (by simp)
theorem block_read {o : Nat} {xs : List J.T} (k : ∀ x ∈ xs, T h (o + 1) x) (ho : o < 12) {o' : Nat} (ho' : o' ≤ o) {n d d' : Nat} {r : Bs} (hn : (lines d (xs.map (tt h))).length ≤ n) :
  pBlock J (pStmt J n (o' + 1)) o' (123 :: 10 :: (lines d (xs.map (tt h)) ++ (pad d' ++ 125 :: r))) = .ok (xs, skip r) := by
 obtain ⟨q1, q2, _⟩ := tok_one (c := 123) (r := 10 :: (lines d (xs.map (tt h)) ++ (pad d' ++ 125 :: r))) (by decide) (fun h => absurd h (by decide))
 obtain ⟨p1, _, p3⟩ := tok_one (c := 125) (r := r) (by decide) (fun h => absurd h (by decide))
 have hsk : skip (pad d' ++ 125 :: r) = 125 :: r := by rw [skip_pad]; exact skip_nb _ (by decide)
 have hm := many_read h xs k d n (o' + 1) (pad d' ++ 125 :: r) ((skip (lines d (xs.map (tt h)) ++ (pad d' ++ 125 :: r))).length + 1) [] (by omega) hn (by rw [hsk, p3]; decide) (by omega)
 rw [hsk] at hm
 have hm' : pMany J (pStmt J n (o' + 1)) ((skip (lines d (xs.map (tt h)) ++ (pad d' ++ 125 :: r))).length + 1) [] (skip (lines d (xs.map (tt h)) ++ (pad d' ++ 125 :: r))) = (.ok (xs, 125 :: r) : R (List J.T)) := hm
 unfold pBlock enter
 rw [if_pos q1, if_neg (by omega), q2, skip_10]
 simp only
 rw [hm']
 simp only
 rw [take_one (by decide) (fun h => absurd h (by decide))]
theorem T.assign {o k : Nat} {x : J.S} (hk : k < 8) (hx : G h o x) : T h o (J.assign k x) := by
 have e0 : ∀ d, tt h (J.assign k x) d = pad d ++ letter k ++ [32, 61, 32] ++ (tx h x).2 ++ [59, 10] := fun d => congrFun (h.assign k x) d
 have e : ∀ d r, skip (tt h (J.assign k x) d ++ r) = letter k ++ (32 :: 61 :: 32 :: ((tx h x).2 ++ 59 :: 10 :: r)) := by
  intro d r
  rw [e0, show (pad d ++ letter k ++ [32, 61, 32] ++ (tx h x).2 ++ [59, 10]) ++ r = pad d ++ (letter k ++ (32 :: 61 :: 32 :: ((tx h x).2 ++ 59 :: 10 :: r))) by simp, skip_pad]
  exact (letter_nb hk).skip _
 have hw : ∀ z : Bs, ∀ c, (32 :: z : Bs).head? = some c → isLet c = false := by
  intro z c h; cases h; decide
 refine ⟨?_, ?_, ?_⟩
 ·intro d
  refine ⟨UInt8.ofNat (97 + k), [32, 61, 32] ++ (tx h x).2 ++ [59, 10], ?_, letter_let hk _ (by simp [letter])⟩
  rw [e0]
  simp [letter]
 ·intro d r
  rw [e, (tok_word (t := letter k) (by simp [letter]) (letter_let hk) (hw _)).1]
  exact len1_ne (by decide)
 ·intro d n o' r ho hn _
  obtain ⟨n', rfl⟩ : ∃ n', n = n' + 1 := by
   refine ⟨n - 1, ?_⟩
   rw [e0] at hn
   simp only [List.length_append, List.length_cons] at hn
   omega
  obtain ⟨q1, _, _⟩ := tok_word (t := letter k) (by simp [letter]) (letter_let hk) (hw (61 :: 32 :: ((tx h x).2 ++ 59 :: 10 :: r)))
  rw [e]
  unfold pStmt
  rw [q1, if_neg (len1_ne (by decide)), if_neg (len1_ne (by decide)), if_neg (len1_ne (by decide)), if_neg (len1_ne (by decide))]
  unfold pAssign
  rw [pName_letter hk (hw _)]
  simp only
  rw [skip_32, skip_nb _ (by decide), take_one (by decide) (fun _ h => by cases h)]
  simp only
  have hsk : skip (59 :: 10 :: r) = 59 :: 10 :: r := skip_nb _ (by decide)
  have ht : opOf (tok (skip (59 :: 10 :: r))) = none := by
   rw [hsk, (tok_one (c := 59) (by decide) (fun h => absurd h (by decide))).1]; rfl
  rw [skip_32, hx.nb.skip, hx.read h ho (brk_59 _) ht]
  simp only
  rw [hsk, take_one (by decide) (fun h => absurd h (by decide)), skip_10]
theorem T.word {o : Nat} {x : J.T} (w : Bs) (tail : Nat → Bs) (h0 : w ≠ []) (hl : ∀ c ∈ w, isLet c = true) (hw : w ≠ wElse) (hx : ∀ d, tt h x d = pad d ++ w ++ [32] ++ tail d)
  (hr : ∀ d n o' r, o' ≤ o → (tail d).length ≤ n → tok (skip r) ≠ wElse → pStmt J (n + 1) o' (w ++ 32 :: (tail d ++ r)) = .ok (x, skip r)) : T h o x := by
 have e : ∀ d r, skip (tt h x d ++ r) = w ++ 32 :: (tail d ++ r) := by
  intro d r
  rw [hx, show (pad d ++ w ++ [32] ++ tail d) ++ r = pad d ++ (w ++ 32 :: (tail d ++ r)) by simp, skip_pad]
  exact (word_nb h0 hl).skip _
 refine ⟨?_, ?_, ?_⟩
 ·intro d
  cases w with
  | nil => exact absurd rfl h0
  | cons c w' => exact ⟨c, w' ++ [32] ++ tail d, by rw [hx]; simp, hl c (by simp)⟩
 ·intro d r
  rw [e, (word_tok h0 hl _).1]
  exact hw
 ·intro d n o' r ho hn hne
  rw [hx] at hn
  simp only [List.length_append, List.length_cons, List.length_nil] at hn
  obtain ⟨n', rfl⟩ : ∃ n', n = n' + 1 := ⟨n - 1, by omega⟩
  rw [e]
  exact hr d n' o' r ho (by omega) hne
theorem T.read {o k : Nat} (hk : k < 8) : T h o (J.read k) := by
 refine T.word h wRead (fun _ => letter k ++ [59, 10]) (by decide) (by decide) (by decide) (fun d => ?_) ?_
 ·rw [show tt h (J.read k) d = pad d ++ [114, 101, 97, 100, 32] ++ letter k ++ [59, 10] from congrFun (h.read k) d]
  simp [wRead]
 ·intro d n o' r _ _ _
  rw [show letter k ++ [59, 10] ++ r = letter k ++ 59 :: 10 :: r by simp]
  obtain ⟨q1, q2⟩ := word_tok (w := wRead) (by decide) (by decide) (letter k ++ 59 :: 10 :: r)
  obtain ⟨s1, _, s3⟩ := semi r
  unfold pStmt
  rw [if_pos q1]
  unfold pRead
  rw [q2, (letter_nb hk).skip, pName_letter hk (brk_59 _).let]
  simp only
  rw [s1, s3]
theorem T.assert {o k : Nat} {x y : J.S} (hk : k < 6) (hx : G h o x) (hy : G h o y) : T h o (J.assert k x y) := by
 refine T.word h wAssert (fun _ => condText k (tx h x) (tx h y) ++ [59, 10]) (by decide) (by decide) (by decide) (fun d => ?_) ?_
 ·rw [show tt h (J.assert k x y) d = pad d ++ [97, 115, 115, 101, 114, 116, 32] ++ condText k (tx h x) (tx h y) ++ [59, 10] from congrFun (h.assert k x y) d]
  simp [wAssert]
 ·intro d n o' r ho _ _
  rw [show condText k (tx h x) (tx h y) ++ [59, 10] ++ r = condText k (tx h x) (tx h y) ++ 59 :: 10 :: r by simp]
  obtain ⟨q1, q2⟩ := word_tok (w := wAssert) (by decide) (by decide) (condText k (tx h x) (tx h y) ++ 59 :: 10 :: r)
  obtain ⟨s1, s2, s3⟩ := semi r
  unfold pStmt
  rw [q1, if_neg (by decide), if_pos rfl]
  unfold pAssert
  rw [q2, (condText_nb h (y := y) hx).skip, cond_read h hk hx hy ho (brk_59 _) s2]
  simp only
  rw [s1, s3]
theorem T.loop {o k : Nat} {x y : J.S} {xs : List J.T} (hk : k < 6) (hx : G h o x) (hy : G h o y) (ho : o < 12) (hxs : ∀ z ∈ xs, T h (o + 1) z) : T h o (J.loop k x y xs) := by
 refine T.word h wWhile (fun d => condText k (tx h x) (tx h y) ++ [32, 123, 10] ++ lines (d + 1) (xs.map (tt h)) ++ pad d ++ [125, 10]) (by decide) (by decide) (by decide) (fun d => ?_) ?_
 ·rw [show tt h (J.loop k x y xs) d = pad d ++ [119, 104, 105, 108, 101, 32] ++ condText k (tx h x) (tx h y) ++ [32, 123, 10] ++ lines (d + 1) (xs.map (tt h)) ++ pad d ++ [125, 10] from congrFun (h.loop k x y xs) d]
  simp [wWhile]
 ·intro d n o' r ho' hn _
  simp only [List.length_append, List.length_cons, List.length_nil] at hn
  rw [show condText k (tx h x) (tx h y) ++ [32, 123, 10] ++ lines (d + 1) (xs.map (tt h)) ++ pad d ++ [125, 10] ++ r = condText k (tx h x) (tx h y) ++ 32 :: 123 :: 10 :: (lines (d + 1) (xs.map (tt h)) ++ (pad d ++ 125 :: (10 :: r))) by simp]
  obtain ⟨q1, q2⟩ := word_tok (w := wWhile) (by decide) (by decide) (condText k (tx h x) (tx h y) ++ 32 :: 123 :: 10 :: (lines (d + 1) (xs.map (tt h)) ++ (pad d ++ 125 :: (10 :: r))))
  obtain ⟨s1, s2⟩ := brace (lines (d + 1) (xs.map (tt h)) ++ (pad d ++ 125 :: (10 :: r)))
  unfold pStmt
  rw [q1, if_neg (by decide), if_neg (by decide), if_neg (by decide), if_pos rfl]
  unfold pWhile
  rw [q2, (condText_nb h (y := y) hx).skip, cond_read h hk hx hy ho' (brk_32 _) s2]
  simp only
  rw [s1, block_read h hxs ho ho' (n := n) (by omega)]
  simp only
  rw [skip_10]
theorem T.ite {o k : Nat} {x y : J.S} {xs : List J.T} (hk : k < 6) (hx : G h o x) (hy : G h o y) (ho : o < 12) (hxs : ∀ z ∈ xs, T h (o + 1) z) : T h o (J.ite k x y xs none) := by
 refine T.word h wIf (fun d => condText k (tx h x) (tx h y) ++ [32, 123, 10] ++ lines (d + 1) (xs.map (tt h)) ++ pad d ++ [125, 10]) (by decide) (by decide) (by decide) (fun d => ?_) ?_
 ·rw [show tt h (J.ite k x y xs none) d = pad d ++ [105, 102, 32] ++ condText k (tx h x) (tx h y) ++ [32, 123, 10] ++ lines (d + 1) (xs.map (tt h)) ++ [] ++ pad d ++ [125, 10] from congrFun (h.ite k x y xs none) d]
  simp [wIf]
 ·intro d n o' r ho' hn hne
  simp only [List.length_append, List.length_cons, List.length_nil] at hn
  rw [show condText k (tx h x) (tx h y) ++ [32, 123, 10] ++ lines (d + 1) (xs.map (tt h)) ++ pad d ++ [125, 10] ++ r = condText k (tx h x) (tx h y) ++ 32 :: 123 :: 10 :: (lines (d + 1) (xs.map (tt h)) ++ (pad d ++ 125 :: (10 :: r))) by simp]
  obtain ⟨q1, q2⟩ := word_tok (w := wIf) (by decide) (by decide) (condText k (tx h x) (tx h y) ++ 32 :: 123 :: 10 :: (lines (d + 1) (xs.map (tt h)) ++ (pad d ++ 125 :: (10 :: r))))
  obtain ⟨s1, s2⟩ := brace (lines (d + 1) (xs.map (tt h)) ++ (pad d ++ 125 :: (10 :: r)))
  unfold pStmt
  rw [q1, if_neg (by decide), if_neg (by decide), if_pos rfl]
  unfold pIf
  rw [q2, (condText_nb h (y := y) hx).skip, cond_read h hk hx hy ho' (brk_32 _) s2]
  simp only
  rw [s1, block_read h hxs ho ho' (n := n) (by omega)]
  simp only
  rw [skip_10, if_neg hne]
theorem T.iteElse {o k : Nat} {x y : J.S} {xs ys : List J.T} (hk : k < 6) (hx : G h o x) (hy : G h o y) (ho : o < 12) (hxs : ∀ z ∈ xs, T h (o + 1) z) (hys : ∀ z ∈ ys, T h (o + 1) z) : T h o (J.ite k x y xs (some ys)) := by
 refine T.word h wIf (fun d => condText k (tx h x) (tx h y) ++ [32, 123, 10] ++ lines (d + 1) (xs.map (tt h)) ++ pad d ++ [125, 32, 101, 108, 115, 101, 32, 123, 10] ++ lines (d + 1) (ys.map (tt h)) ++ pad d ++ [125, 10]) (by decide) (by decide) (by decide) (fun d => ?_) ?_
 ·rw [show tt h (J.ite k x y xs (some ys)) d = pad d ++ [105, 102, 32] ++ condText k (tx h x) (tx h y) ++ [32, 123, 10] ++ lines (d + 1) (xs.map (tt h)) ++ (pad d ++ [125, 32, 101, 108, 115, 101, 32, 123, 10] ++ lines (d + 1) (ys.map (tt h))) ++ pad d ++ [125, 10] from congrFun (h.ite k x y xs (some ys)) d]
  simp [wIf]
 ·intro d n o' r ho' hn _
  simp only [List.length_append, List.length_cons, List.length_nil] at hn
  rw [show condText k (tx h x) (tx h y) ++ [32, 123, 10] ++ lines (d + 1) (xs.map (tt h)) ++ pad d ++ [125, 32, 101, 108, 115, 101, 32, 123, 10] ++ lines (d + 1) (ys.map (tt h)) ++ pad d ++ [125, 10] ++ r = condText k (tx h x) (tx h y) ++ 32 :: 123 :: 10 :: (lines (d + 1) (xs.map (tt h)) ++ (pad d ++ 125 :: (32 :: (wElse ++ 32 :: 123 :: 10 :: (lines (d + 1) (ys.map (tt h)) ++ (pad d ++ 125 :: (10 :: r))))))) by simp [wElse]]
  obtain ⟨q1, q2⟩ := word_tok (w := wIf) (by decide) (by decide) (condText k (tx h x) (tx h y) ++ 32 :: 123 :: 10 :: (lines (d + 1) (xs.map (tt h)) ++ (pad d ++ 125 :: (32 :: (wElse ++ 32 :: 123 :: 10 :: (lines (d + 1) (ys.map (tt h)) ++ (pad d ++ 125 :: (10 :: r))))))))
  obtain ⟨s1, s2⟩ := brace (lines (d + 1) (xs.map (tt h)) ++ (pad d ++ 125 :: (32 :: (wElse ++ 32 :: 123 :: 10 :: (lines (d + 1) (ys.map (tt h)) ++ (pad d ++ 125 :: (10 :: r)))))))
  obtain ⟨p1, p2⟩ := word_tok (w := wElse) (by decide) (by decide) (123 :: 10 :: (lines (d + 1) (ys.map (tt h)) ++ (pad d ++ 125 :: (10 :: r))))
  unfold pStmt
  rw [q1, if_neg (by decide), if_neg (by decide), if_pos rfl]
  unfold pIf
  rw [q2, (condText_nb h (y := y) hx).skip, cond_read h hk hx hy ho' (brk_32 _) s2]
  simp only
  rw [s1, block_read h hxs ho ho' (n := n) (by omega)]
  simp only
  rw [skip_32, (word_nb (w := wElse) (by decide) (by decide)).skip, if_pos p1, p2, skip_nb _ (by decide), block_read h hys ho ho' (n := n) (by omega)]
  simp only
  rw [skip_10]
end
def Two (A B : Alg) : Alg where
 S := A.S × B.S
 num n := (A.num n, B.num n)
 name k := (A.name k, B.name k)
 neg x := (A.neg x.1, B.neg x.2)
 bin k x y := (A.bin k x.1 y.1, B.bin k x.2 y.2)
 T := A.T × B.T
 assign k x := (A.assign k x.1, B.assign k x.2)
 read k := (A.read k, B.read k)
 assert k x y := (A.assert k x.1 y.1, B.assert k x.2 y.2)
 ite k x y xs ys := (A.ite k x.1 y.1 (xs.map Prod.fst) (ys.map fun l => l.map Prod.fst), B.ite k x.2 y.2 (xs.map Prod.snd) (ys.map fun l => l.map Prod.snd))
 loop k x y xs := (A.loop k x.1 y.1 (xs.map Prod.fst), B.loop k x.2 y.2 (xs.map Prod.snd))
def left (A B : Alg) : Hom (Two A B) A where
 s := Prod.fst
 t := Prod.fst
 num _ := rfl
 name _ := rfl
 neg _ := rfl
 bin _ _ _ := rfl
 assign _ _ := rfl
 read _ := rfl
 assert _ _ _ := rfl
 ite _ _ _ _ _ := rfl
 loop _ _ _ _ := rfl
def right (A B : Alg) : Hom (Two A B) B where
 s := Prod.snd
 t := Prod.snd
 num _ := rfl
 name _ := rfl
 neg _ := rfl
 bin _ _ _ := rfl
 assign _ _ := rfl
 read _ := rfl
 assert _ _ _ := rfl
 ite _ _ _ _ _ := rfl
 loop _ _ _ _ := rfl
end Bk
end Sp
end Go.Proofs.YtiopfihjmkfdmaaGreatDoor
