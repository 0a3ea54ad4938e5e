/- From one algebra to another: what is read is read alike (plain mathematics). -/
import Derived.Test.YtiopfihjmkfdmaaGreatDoorGSpec
import Derived.Test.YtiopfihjmkfdmaaGreatDoorGMathA
namespace Go.Proofs.YtiopfihjmkfdmaaGreatDoor
namespace Sp

structure Hom (A B : Alg) where
  s : A.S → B.S
  t : A.T → B.T
  num : ∀ n, s (A.num n) = B.num n
  name : ∀ k, s (A.name k) = B.name k
  neg : ∀ x, s (A.neg x) = B.neg (s x)
  bin : ∀ k x y, s (A.bin k x y) = B.bin k (s x) (s y)
  assign : ∀ k x, t (A.assign k x) = B.assign k (s x)
  read : ∀ k, t (A.read k) = B.read k
  assert : ∀ k x y, t (A.assert k x y) = B.assert k (s x) (s y)
  ite : ∀ k x y xs ys, t (A.ite k x y xs ys) = B.ite k (s x) (s y) (xs.map t) (ys.map fun l => l.map t)
  loop : ∀ k x y xs, t (A.loop k x y xs) = B.loop k (s x) (s y) (xs.map t)

def mapR {α β : Type} (f : α → β) : R α → R β
  | .ok (x, l) => .ok (f x, l)
  | .error e => .error e

theorem pChain_hom {A B : Alg} (h : Hom A B) (lv : Nat) (u : Bs → R A.S) (v : Bs → R B.S) (huv : ∀ l, v l = mapR h.s (u l)) : ∀ m x l, pChain B lv v m (h.s x) l = mapR h.s (pChain A lv u m x l)
  | 0, _, _ => rfl
  | m + 1, x, l => by
    unfold pChain
    cases opOf (tok l) with
    | none => rfl
    | some k =>
      simp only
      by_cases hk : opLevel k = lv
      · rw [if_pos hk, if_pos hk, huv]
        cases u (next l) with
        | error e => rfl
        | ok yl =>
          obtain ⟨y, l1⟩ := yl
          show pChain B lv v m (B.bin k (h.s x) (h.s y)) l1 = _
          rw [← h.bin]
          exact pChain_hom h lv u v huv m _ _
      · rw [if_neg hk, if_neg hk]; rfl

theorem pWith_hom {A B : Alg} (h : Hom A B) (lv : Nat) (u : Bs → R A.S) (v : Bs → R B.S) (huv : ∀ l, v l = mapR h.s (u l)) (l : Bs) : pWith B lv v l = mapR h.s (pWith A lv u l) := by
  unfold pWith
  rw [huv]
  cases u l with
  | error e => rfl
  | ok xl => exact pChain_hom h lv u v huv _ _ _

theorem pSum_hom {A B : Alg} (h : Hom A B) (u : Bs → R A.S) (v : Bs → R B.S) (huv : ∀ l, v l = mapR h.s (u l)) (l : Bs) : pSum B v l = mapR h.s (pSum A u l) :=
  pWith_hom h 0 _ _ (pWith_hom h 1 u v huv) l

theorem pUnary_hom {A B : Alg} (h : Hom A B) : ∀ n o l, pUnary B n o l = mapR h.s (pUnary A n o l)
  | 0, _, _ => rfl
  | n + 1, o, l => by
    unfold pUnary
    split
    · cases numVal (tok l) with
      | none => rfl
      | some v => show (.ok (B.num v, next l) : R B.S) = _; rw [← h.num]; rfl
    · split
      · cases pName l with
        | error e => rfl
        | ok kl => show (.ok (B.name kl.1, kl.2) : R B.S) = _; rw [← h.name]; rfl
      · split
        · cases enter [45] o l with
          | error e => rfl
          | ok l1 =>
            simp only
            rw [pUnary_hom h n (o + 1) l1]
            cases pUnary A n (o + 1) l1 with
            | error e => rfl
            | ok xl => show (.ok (B.neg (h.s xl.1), xl.2) : R B.S) = _; rw [← h.neg]; rfl
        · cases enter [40] o l with
          | error e => rfl
          | ok l1 =>
            simp only
            rw [pSum_hom h _ _ (pUnary_hom h n (o + 1)) l1]
            cases pSum A (pUnary A n (o + 1)) l1 with
            | error e => rfl
            | ok xl =>
              show (match take [41] xl.2 with
                | .ok l3 => (.ok (h.s xl.1, l3) : R B.S)
                | .error e => .error e) = mapR h.s (match take [41] xl.2 with
                | .ok l3 => (.ok (xl.1, l3) : R A.S)
                | .error e => .error e)
              cases take [41] xl.2 <;> rfl

theorem pS_hom {A B : Alg} (h : Hom A B) (o : Nat) (l : Bs) : pS B o l = mapR h.s (pS A o l) := pSum_hom h _ _ (pUnary_hom h _ o) l

def mapC {A B : Alg} (h : Hom A B) (c : Nat × A.S × A.S) : Nat × B.S × B.S := (c.1, h.s c.2.1, h.s c.2.2)

theorem pCond_hom {A B : Alg} (h : Hom A B) (o : Nat) (l : Bs) : pCond B o l = mapR (mapC h) (pCond A o l) := by
  unfold pCond
  rw [pS_hom h]
  cases pS A o l with
  | error e => rfl
  | ok xl =>
    show (match relOf (tok xl.2) with
      | some k => (match pS B o (next xl.2) with
        | .ok (y, l2) => (.ok ((k, h.s xl.1, y), l2) : R (Nat × B.S × B.S))
        | .error e => .error e)
      | none => bad 2 xl.2) = mapR (mapC h) (match relOf (tok xl.2) with
      | some k => (match pS A o (next xl.2) with
        | .ok (y, l2) => (.ok ((k, xl.1, y), l2) : R (Nat × A.S × A.S))
        | .error e => .error e)
      | none => bad 2 xl.2)
    cases relOf (tok xl.2) with
    | none => rfl
    | some k =>
      simp only
      rw [pS_hom h]
      cases pS A o (next xl.2) <;> rfl

theorem pMany_hom {A B : Alg} (h : Hom A B) (u : Bs → R A.T) (v : Bs → R B.T) (huv : ∀ l, v l = mapR h.t (u l)) : ∀ m acc l, pMany B v m (acc.map h.t) l = mapR (List.map h.t) (pMany A u m acc l)
  | 0, _, _ => rfl
  | m + 1, acc, l => by
    unfold pMany
    split
    · rw [huv]
      cases u l with
      | error e => rfl
      | ok xl =>
        show pMany B v m (acc.map h.t ++ [h.t xl.1]) xl.2 = _
        rw [show acc.map h.t ++ [h.t xl.1] = (acc ++ [xl.1]).map h.t by simp]
        exact pMany_hom h u v huv m _ _
    · rfl

theorem pBlock_hom {A B : Alg} (h : Hom A B) (u : Bs → R A.T) (v : Bs → R B.T) (huv : ∀ l, v l = mapR h.t (u l)) (o : Nat) (l : Bs) : pBlock B v o l = mapR (List.map h.t) (pBlock A u o l) := by
  unfold pBlock
  cases enter [123] o l with
  | error e => rfl
  | ok l1 =>
    simp only
    rw [show pMany B v (l1.length + 1) [] l1 = mapR (List.map h.t) (pMany A u (l1.length + 1) [] l1) from pMany_hom h u v huv _ [] l1]
    cases pMany A u (l1.length + 1) [] l1 with
    | error e => rfl
    | ok xl =>
      show (match take [125] xl.2 with
        | .ok l3 => (.ok (xl.1.map h.t, l3) : R (List B.T))
        | .error e => .error e) = mapR (List.map h.t) (match take [125] xl.2 with
        | .ok l3 => (.ok (xl.1, l3) : R (List A.T))
        | .error e => .error e)
      cases take [125] xl.2 <;> rfl

theorem pStmt_hom {A B : Alg} (h : Hom A B) : ∀ n o l, pStmt B n o l = mapR h.t (pStmt A n o l)
  | 0, _, _ => rfl
  | n + 1, o, l => by
    unfold pStmt
    split
    · unfold pRead
      cases pName (next l) with
      | error e => rfl
      | ok kl =>
        simp only
        cases take [59] kl.2 with
        | error e => rfl
        | ok l2 => show (.ok (B.read kl.1, l2) : R B.T) = _; rw [← h.read]; rfl
    · split
      · unfold pAssert
        rw [pCond_hom h]
        cases pCond A o (next l) with
        | error e => rfl
        | ok cl =>
          obtain ⟨⟨k, x, y⟩, l1⟩ := cl
          show (match take [59] l1 with
            | .ok l2 => (.ok (B.assert k (h.s x) (h.s y), l2) : R B.T)
            | .error e => .error e) = mapR h.t (match take [59] l1 with
            | .ok l2 => (.ok (A.assert k x y, l2) : R A.T)
            | .error e => .error e)
          rw [← h.assert]
          cases take [59] l1 <;> rfl
      · split
        · unfold pIf
          rw [pCond_hom h]
          cases pCond A o (next l) with
          | error e => rfl
          | ok cl =>
            obtain ⟨⟨k, x, y⟩, l1⟩ := cl
            show (match pBlock B (pStmt B n (o + 1)) o l1 with
              | .ok (xs, l2) => if tok l2 = wElse then (match pBlock B (pStmt B n (o + 1)) o (next l2) with
                  | .ok (ys, l3) => (.ok (B.ite k (h.s x) (h.s y) xs (some ys), l3) : R B.T)
                  | .error e => .error e) else .ok (B.ite k (h.s x) (h.s y) xs none, l2)
              | .error e => .error e) = mapR h.t (match pBlock A (pStmt A n (o + 1)) o l1 with
              | .ok (xs, l2) => if tok l2 = wElse then (match pBlock A (pStmt A n (o + 1)) o (next l2) with
                  | .ok (ys, l3) => (.ok (A.ite k x y xs (some ys), l3) : R A.T)
                  | .error e => .error e) else .ok (A.ite k x y xs none, l2)
              | .error e => .error e)
            rw [pBlock_hom h _ _ (pStmt_hom h n (o + 1))]
            cases pBlock A (pStmt A n (o + 1)) o l1 with
            | error e => rfl
            | ok xl =>
              obtain ⟨xs, l2⟩ := xl
              simp only [mapR]
              by_cases he : tok l2 = wElse
              · rw [if_pos he, if_pos he, pBlock_hom h _ _ (pStmt_hom h n (o + 1))]
                cases pBlock A (pStmt A n (o + 1)) o (next l2) with
                | error e => rfl
                | ok yl =>
                  show (.ok (B.ite k (h.s x) (h.s y) (xs.map h.t) (some (yl.1.map h.t)), yl.2) : R B.T) = .ok (h.t (A.ite k x y xs (some yl.1)), yl.2)
                  rw [h.ite]; rfl
              · rw [if_neg he, if_neg he]
                show (.ok (B.ite k (h.s x) (h.s y) (xs.map h.t) none, l2) : R B.T) = .ok (h.t (A.ite k x y xs none), l2)
                rw [h.ite]; rfl
        · split
          · unfold pWhile
            rw [pCond_hom h]
            cases pCond A o (next l) with
            | error e => rfl
            | ok cl =>
              obtain ⟨⟨k, x, y⟩, l1⟩ := cl
              show (match pBlock B (pStmt B n (o + 1)) o l1 with
                | .ok (xs, l2) => (.ok (B.loop k (h.s x) (h.s y) xs, l2) : R B.T)
                | .error e => .error e) = mapR h.t (match pBlock A (pStmt A n (o + 1)) o l1 with
                | .ok (xs, l2) => (.ok (A.loop k x y xs, l2) : R A.T)
                | .error e => .error e)
              rw [pBlock_hom h _ _ (pStmt_hom h n (o + 1))]
              cases pBlock A (pStmt A n (o + 1)) o l1 with
              | error e => rfl
              | ok xl =>
                show (.ok (B.loop k (h.s x) (h.s y) (xl.1.map h.t), xl.2) : R B.T) = .ok (h.t (A.loop k x y xl.1), xl.2)
                rw [h.loop]
          · unfold pAssign
            cases pName l with
            | error e => rfl
            | ok kl =>
              simp only
              cases take [61] kl.2 with
              | error e => rfl
              | ok l2 =>
                simp only
                rw [pS_hom h]
                cases pS A o l2 with
                | error e => rfl
                | ok xl =>
                  show (match take [59] xl.2 with
                    | .ok l4 => (.ok (B.assign kl.1 (h.s xl.1), l4) : R B.T)
                    | .error e => .error e) = mapR h.t (match take [59] xl.2 with
                    | .ok l4 => (.ok (A.assign kl.1 xl.1, l4) : R A.T)
                    | .error e => .error e)
                  rw [← h.assign]
                  cases take [59] xl.2 <;> rfl

theorem parse_hom {A B : Alg} (h : Hom A B) (s : Bs) : parse B s = match parse A s with
    | .ok xs => .ok (xs.map h.t)
    | .error e => .error e := by
  unfold parse
  split
  · rfl
  · unfold pProg
    rw [show pMany B (pStmt B ((skip s).length + 1) 0) ((skip s).length + 1) [] (skip s) = mapR (List.map h.t) (pMany A (pStmt A ((skip s).length + 1) 0) ((skip s).length + 1) [] (skip s)) from pMany_hom h _ _ (pStmt_hom h _ 0) _ [] _]
    cases pMany A (pStmt A ((skip s).length + 1) 0) ((skip s).length + 1) [] (skip s) with
    | error e => rfl
    | ok xl =>
      simp only [mapR]
      by_cases hl : xl.2 = []
      · rw [if_pos hl, if_pos hl]
      · rw [if_neg hl, if_neg hl]; rfl

end Sp
end Go.Proofs.YtiopfihjmkfdmaaGreatDoor

/- What was written is read back, whatever is made of it beside the text (plain mathematics): as Back, BackS, BackT, over an algebra J whose things have a text. -/
namespace Go.Proofs.YtiopfihjmkfdmaaGreatDoor
namespace Sp
namespace Bk

section
variable {J : Alg} (h : Hom J Pr)

def tx (x : J.S) : Nat × Bs := h.s x
def tt (x : J.T) : Nat → Bs := h.t x

def RU (x : J.S) (t : Bs) (o : Nat) : Prop := ∀ o' n r, o' ≤ o → t.length ≤ n → Brk r → pUnary J n o' (t ++ r) = .ok (x, skip r)
def RP (x : J.S) (t : Bs) (o : Nat) : Prop := ∀ o' n r, o' ≤ o → t.length ≤ n → Brk r → ∃ m, (skip r).length < m ∧ pProd J (pUnary J n o') (t ++ r) = pChain J 1 (pUnary J n o') m x (skip r)
def RS (x : J.S) (t : Bs) (o : Nat) : Prop := ∀ o' n r, o' ≤ o → t.length ≤ n → Brk r → No1 r → ∃ m, (skip r).length < m ∧ pSum J (pUnary J n o') (t ++ r) = pChain J 0 (pProd J (pUnary J n o')) m x (skip r)

theorem stop1 {u : Bs → R J.S} {m : Nat} {x : J.S} {r : Bs} (h : No1 r) : pChain J 1 u m x (skip r) = .ok (x, skip r) := by
  cases m with
  | zero => rfl
  | succ m =>
    rw [pChain_succ J 1 u m x (skip r)]
    split
    · next k hk => rw [if_neg (h k hk)]
    · rfl
theorem stop0 {u : Bs → R J.S} {m : Nat} {x : J.S} {r : Bs} (h : opOf (tok r) = none) : pChain J 0 u m x r = .ok (x, r) := by
  cases m with
  | zero => rfl
  | succ m =>
    rw [pChain_succ J 0 u m x r, h]

theorem RU.rp {x : J.S} {t : Bs} {o : Nat} (h : RU x t o) : RP x t o := by
  intro o' n r ho hn hr
  refine ⟨(skip r).length + 1, by omega, ?_⟩
  unfold pProd pWith
  rw [h o' n r ho hn hr]
theorem RP.rs {x : J.S} {t : Bs} {o : Nat} (h : RP x t o) : RS x t o := by
  intro o' n r ho hn hr h1
  obtain ⟨m, _, he⟩ := h o' n r ho hn hr
  rw [stop1 h1] at he
  refine ⟨(skip r).length + 1, by omega, ?_⟩
  unfold pSum pWith
  rw [he]
theorem RU.mono {x : J.S} {t : Bs} {o o1 : Nat} (h : RU x t o1) (ho : o ≤ o1) : RU x t o := fun o' n r k => h o' n r (by omega)
theorem RP.mono {x : J.S} {t : Bs} {o o1 : Nat} (h : RP x t o1) (ho : o ≤ o1) : RP x t o := fun o' n r k => h o' n r (by omega)
theorem RS.mono {x : J.S} {t : Bs} {o o1 : Nat} (h : RS x t o1) (ho : o ≤ o1) : RS x t o := fun o' n r k => h o' n r (by omega)

theorem RP.bin {x y : J.S} {tx ty : Bs} {o k : Nat} (hk : k < 5) (hl : opLevel k = 1) (hx : RP x tx o) (hy : RU y ty o) (ny : NB ty) :
    RP (J.bin k x y) (tx ++ [32] ++ opSign k ++ [32] ++ ty) o := by
  intro o' n r ho hn hr
  obtain ⟨s1, s2, s3, s4, s5⟩ := sign_tok hk (ty ++ r)
  rw [show (tx ++ [32] ++ opSign k ++ [32] ++ ty) ++ r = tx ++ (32 :: (opSign k ++ 32 :: (ty ++ r))) by simp]
  simp only [List.length_append, List.length_cons, List.length_nil] at hn
  obtain ⟨m, hm, he⟩ := hx o' n _ ho (by omega) (brk_32 _)
  rw [he]
  rw [s3] at hm ⊢
  obtain ⟨m', rfl⟩ : ∃ m', m = m' + 1 := ⟨m - 1, by omega⟩
  refine ⟨m', ?_, ?_⟩
  · simp only [List.length_append, List.length_cons] at hm
    have := skip_len r
    omega
  · rw [pChain_succ J 1 _ m' x _, s1, s4]
    simp only [hl, if_true]
    rw [s2, ny.skip, hy o' n r ho (by omega) hr]

theorem RS.bin {x y : J.S} {tx ty : Bs} {o k : Nat} (hk : k < 5) (hl : opLevel k = 0) (hx : RS x tx o) (hy : RP y ty o) (ny : NB ty) :
    RS (J.bin k x y) (tx ++ [32] ++ opSign k ++ [32] ++ ty) o := by
  intro o' n r ho hn hr h1
  obtain ⟨s1, s2, s3, s4, s5⟩ := sign_tok hk (ty ++ r)
  rw [show (tx ++ [32] ++ opSign k ++ [32] ++ ty) ++ r = tx ++ (32 :: (opSign k ++ 32 :: (ty ++ r))) by simp]
  simp only [List.length_append, List.length_cons, List.length_nil] at hn
  obtain ⟨m, hm, he⟩ := hx o' n (32 :: (opSign k ++ 32 :: (ty ++ r))) ho (by omega) (brk_32 _) (by
    intro k' hk'
    rw [s3, s1, s4] at hk'
    cases hk'
    omega)
  rw [he]
  rw [s3] at hm ⊢
  obtain ⟨m', rfl⟩ : ∃ m', m = m' + 1 := ⟨m - 1, by omega⟩
  refine ⟨m', ?_, ?_⟩
  · simp only [List.length_append, List.length_cons] at hm
    have := skip_len r
    omega
  · obtain ⟨m2, _, he2⟩ := hy o' n r ho (by omega) hr
    rw [stop1 h1] at he2
    rw [pChain_succ J 0 _ m' x _, s1, s4]
    simp only [hl, if_true]
    rw [s2, ny.skip, he2]

theorem RU.bracket {x : J.S} {t : Bs} {o : Nat} (h : RS x t (o + 1)) (nt : NB t) (ho : o < 12) : RU x ([40] ++ t ++ [41]) o := by
  intro o' n r ho' hn hr
  simp only [List.length_append, List.length_cons, List.length_nil] at hn
  obtain ⟨n', rfl⟩ : ∃ n', n = n' + 1 := ⟨n - 1, by omega⟩
  rw [show ([40] ++ t ++ [41]) ++ r = 40 :: (t ++ 41 :: r) by simp]
  obtain ⟨q1, q2, q3⟩ := tok_one (c := 40) (r := t ++ 41 :: r) (by decide) (fun h => absurd h (by decide))
  obtain ⟨p1, p2, _⟩ := tok_one (c := 41) (r := r) (by decide) (fun h => absurd h (by decide))
  have hsk : skip (41 :: r) = 41 :: r := skip_nb _ (by decide)
  have hop : opOf (tok (41 :: r)) = none := by rw [p1]; rfl
  obtain ⟨m, _, he⟩ := h (o' + 1) n' (41 :: r) (by omega) (by omega) (brk_41 r) (by
    intro k hk
    rw [hsk, hop] at hk
    cases hk)
  rw [hsk, stop0 hop] at he
  unfold pUnary
  rw [if_neg (by rw [q3]; decide), if_neg (by rw [q3]; decide), if_neg (by rw [q1]; decide)]
  unfold enter
  rw [if_pos q1, if_neg (by omega), q2, nt.skip]
  simp only
  rw [he]
  simp only
  unfold take
  rw [if_pos p1, p2]

theorem RU.neg {x : J.S} {t : Bs} {o : Nat} (y : J.S) (hy : y = J.neg x) (h : RU x t (o + 1)) (nt : NB t) (ho : o < 12) : RU y ([45] ++ t) o := by
  intro o' n r ho' hn hr
  simp only [List.length_append, List.length_cons, List.length_nil] at hn
  obtain ⟨n', rfl⟩ : ∃ n', n = n' + 1 := ⟨n - 1, by omega⟩
  rw [show ([45] ++ t) ++ r = 45 :: (t ++ r) by simp]
  obtain ⟨q1, q2, q3⟩ := tok_one (c := 45) (r := t ++ r) (by decide) (fun h => absurd h (by decide))
  have he := h (o' + 1) n' r (by omega) (by omega) hr
  unfold pUnary
  rw [if_neg (by rw [q3]; decide), if_neg (by rw [q3]; decide), if_pos q1]
  unfold enter
  rw [if_pos q1, if_neg (by omega), q2, nt.skip]
  simp only
  rw [he, hy]

/-- a sum, product or unary that is read back -/
structure G (o : Nat) (x : J.S) : Prop where
  nb : NB (tx h x).2
  le : (tx h x).1 ≤ 2
  u : (tx h x).1 = 2 → RU x (tx h x).2 o
  p : 1 ≤ (tx h x).1 → RP x (tx h x).2 o
  s : RS x (tx h x).2 o
structure PV (o : Nat) (x : J.S) : Prop where
  g : G h o x
  p : RP x (part (tx h x) 1) o
structure UV (o : Nat) (x : J.S) : Prop where
  g : G h o x
  p : RP x (part (tx h x) 1) o
  u : RU x (part (tx h x) 2) o

/-- what stands for itself -/
theorem UV.leaf {o : Nat} {x : J.S} (h2 : (tx h x).1 = 2) (hn : NB (tx h x).2) (hu : RU x (tx h x).2 o) : UV h o x :=
  ⟨⟨hn, by omega, fun _ => hu, fun _ => hu.rp, hu.rp.rs⟩, by rw [part_ge (by omega)]; exact hu.rp, by rw [part_ge (by omega)]; exact hu⟩
theorem UV.bracket {o : Nat} {x : J.S} (g : G h (o + 1) x) (ho : o < 12) : UV h o x := by
  have hb : RU x ([40] ++ (tx h x).2 ++ [41]) o := RU.bracket g.s g.nb ho
  refine ⟨⟨g.nb, g.le, fun k => (g.u k).mono (by omega), fun k => (g.p k).mono (by omega), g.s.mono (by omega)⟩, ?_, ?_⟩
  · by_cases k : (tx h x).1 < 1
    · rw [part_lt k]; exact hb.rp
    · rw [part_ge (by omega)]; exact (g.p (by omega)).mono (by omega)
  · by_cases k : (tx h x).1 < 2
    · rw [part_lt k]; exact hb
    · have := g.le
      rw [part_ge (by omega)]; exact (g.u (by omega)).mono (by omega)
theorem UV.neg {o : Nat} {x : J.S} (v : UV h (o + 1) x) (ho : o < 12) : UV h o (J.neg x) := by
  have e : tx h (J.neg x) = (2, [45] ++ part (tx h x) 2) := h.neg x
  refine UV.leaf h (by rw [e]) (by rw [e]; exact ⟨45, part (tx h x) 2, rfl, by decide⟩) ?_
  rw [e]
  exact RU.neg _ rfl v.u (part_nb v.g.nb 2) ho
theorem UV.num {o n : Nat} (hn : n ≤ 32767) : UV h o (J.num n) := by
  have e : tx h (J.num n) = (2, digits n) := h.num n
  refine UV.leaf h (by rw [e]) (by rw [e]; exact digits_nb hn) ?_
  rw [e]
  intro o' m r _ hm hr
  obtain ⟨h1, h2, h3⟩ := digits_spec hn
  obtain ⟨q1, q2, q3⟩ := tok_digits h1 h2 hr.dig
  have hm' : (digits n).length ≤ m := hm
  have : 0 < (digits n).length := List.length_pos_iff.2 h1
  obtain ⟨m', rfl⟩ : ∃ m', m = m' + 1 := ⟨m - 1, by omega⟩
  show pUnary J (m' + 1) o' (digits n ++ r) = _
  unfold pUnary
  rw [if_pos q3, q1, h3, q2]
theorem UV.name {o k : Nat} (hk : k < 8) : UV h o (J.name k) := by
  have e : tx h (J.name k) = (2, letter k) := h.name k
  refine UV.leaf h (by rw [e]) (by rw [e]; exact letter_nb hk) ?_
  rw [e]
  intro o' m r _ hm hr
  obtain ⟨q1, q2, q3⟩ := tok_word (t := letter k) (r := r) (by simp [letter]) (letter_let hk) hr.let
  have hm' : (letter k).length ≤ m := hm
  simp [letter] at hm'
  obtain ⟨m', rfl⟩ : ∃ m', m = m' + 1 := ⟨m - 1, by omega⟩
  show pUnary J (m' + 1) o' (letter k ++ r) = _
  unfold pUnary
  rw [if_neg (by rw [q3]; decide), if_pos q3, pName_letter hk hr.let]
theorem PV.bin {o k : Nat} {x y : J.S} (hk : k < 5) (hl : opLevel k = 1) (hx : PV h o x) (hy : UV h o y) : PV h o (J.bin k x y) := by
  have e : tx h (J.bin k x y) = (1, part (tx h x) 1 ++ [32] ++ opSign k ++ [32] ++ part (tx h y) 2) := by
    have e0 : tx h (J.bin k x y) = (opLevel k, part (tx h x) (opLevel k) ++ [32] ++ opSign k ++ [32] ++ part (tx h y) (opLevel k + 1)) := h.bin k x y
    rw [e0, hl]
  have hp := RP.bin hk hl hx.p hy.u (part_nb hy.g.nb 2)
  have hn : NB (part (tx h x) 1 ++ [32] ++ opSign k ++ [32] ++ part (tx h y) 2) := ((((part_nb hx.g.nb 1).app _).app _).app _).app _
  have e2 : part (1, part (tx h x) 1 ++ [32] ++ opSign k ++ [32] ++ part (tx h y) 2) 1 = part (tx h x) 1 ++ [32] ++ opSign k ++ [32] ++ part (tx h y) 2 := part_ge (Nat.le_refl 1)
  refine ⟨⟨by rw [e]; exact hn, by rw [e]; simp, fun k => by rw [e] at k; simp at k, fun _ => by rw [e]; exact hp, by rw [e]; exact hp.rs⟩, by rw [e, e2]; exact hp⟩
theorem G.bin {o k : Nat} {x y : J.S} (hk : k < 5) (hl : opLevel k = 0) (hx : G h o x) (hy : PV h o y) : G h o (J.bin k x y) := by
  have e : tx h (J.bin k x y) = (0, (tx h x).2 ++ [32] ++ opSign k ++ [32] ++ part (tx h y) 1) := by
    have e0 : tx h (J.bin k x y) = (opLevel k, part (tx h x) (opLevel k) ++ [32] ++ opSign k ++ [32] ++ part (tx h y) (opLevel k + 1)) := h.bin k x y
    rw [e0, hl, part_ge (Nat.zero_le _)]
  have hp := RS.bin hk hl hx.s hy.p (part_nb hy.g.nb 1)
  have hn : NB ((tx h x).2 ++ [32] ++ opSign k ++ [32] ++ part (tx h y) 1) := (((hx.nb.app _).app _).app _).app _
  exact ⟨by rw [e]; exact hn, by rw [e]; simp, fun k => by rw [e] at k; simp at k, fun k => by rw [e] at k; simp at k, by rw [e]; exact hp⟩

theorem pChain1_pv {o : Nat} {u : Bs → R J.S} (hu : ∀ l x l', u l = .ok (x, l') → UV h o x) : ∀ m x l y l', PV h o x → pChain J 1 u m x l = .ok (y, l') → PV h o y := by
  intro m
  induction m with
  | zero => intro x l y l' hx h; cases h; exact hx
  | succ m ih =>
    intro x l y l' hx k
    rw [pChain_succ J 1 u m x l] at k
    split at k
    · next j hk =>
      split at k
      · next hl =>
        split at k
        · next z l1 hz => exact ih _ _ _ _ (PV.bin h (opOf_lt hk) hl hx (hu _ _ _ hz)) k
        · cases k
      · cases k; exact hx
    · cases k; exact hx
theorem pProd_pv {o : Nat} {u : Bs → R J.S} (hu : ∀ l x l', u l = .ok (x, l') → UV h o x) {l : Bs} {y : J.S} {l' : Bs} (k : pProd J u l = .ok (y, l')) : PV h o y := by
  unfold pProd pWith at k
  split at k
  · next x l1 hx => exact pChain1_pv h hu _ _ _ _ _ ⟨(hu _ _ _ hx).g, (hu _ _ _ hx).p⟩ k
  · cases k
theorem pChain0_g {o : Nat} {u : Bs → R J.S} (hu : ∀ l x l', u l = .ok (x, l') → PV h o x) : ∀ m x l y l', G h o x → pChain J 0 u m x l = .ok (y, l') → G h o y := by
  intro m
  induction m with
  | zero => intro x l y l' hx h; cases h; exact hx
  | succ m ih =>
    intro x l y l' hx k
    rw [pChain_succ J 0 u m x l] at k
    split at k
    · next j hk =>
      split at k
      · next hl =>
        split at k
        · next z l1 hz => exact ih _ _ _ _ (G.bin h (opOf_lt hk) hl hx (hu _ _ _ hz)) k
        · cases k
      · cases k; exact hx
    · cases k; exact hx
theorem pSum_g {o : Nat} {u : Bs → R J.S} (hu : ∀ l x l', u l = .ok (x, l') → UV h o x) {l : Bs} {y : J.S} {l' : Bs} (k : pSum J u l = .ok (y, l')) : G h o y := by
  unfold pSum pWith at k
  split at k
  · next x l1 hx => exact pChain0_g h (fun l x l' k => pProd_pv h hu k) _ _ _ _ _ (pProd_pv h hu hx).g k
  · cases k
theorem pUnary_uv : ∀ n o l x l', o ≤ 12 → pUnary J n o l = .ok (x, l') → UV h o x := by
  intro n
  induction n with
  | zero => intro o l x l' _ k; cases k
  | succ n ih =>
    intro o l x l' ho k
    unfold pUnary at k
    split at k
    · split at k
      · next v hv => cases k; exact UV.num h (numVal_le hv)
      · cases k
    · split at k
      · split at k
        · next j l1 hk => cases k; exact UV.name h (pName_lt8 hk)
        · cases k
      · split at k
        · split at k
          · next l1 he =>
            split at k
            · next y l2 hy => cases k; exact UV.neg h (ih _ _ _ _ (enter_ok he ho) hy) (enter_ok he ho)
            · cases k
          · cases k
        · split at k
          · next l1 he =>
            split at k
            · next y l2 hy =>
              split at k
              · cases k; exact UV.bracket h (pSum_g h (fun l x l' k => ih _ _ _ _ (enter_ok he ho) k) hy) (enter_ok he ho)
              · cases k
            · cases k
          · cases k
theorem pS_g {o : Nat} {l : Bs} {x : J.S} {l' : Bs} (ho : o ≤ 12) (k : pS J o l = .ok (x, l')) : G h o x :=
  pSum_g h (fun _ _ _ k => pUnary_uv h _ _ _ _ _ ho k) k
/-- a sum's text is read as it was -/
theorem G.read {o : Nat} {x : J.S} (g : G h o x) {o' : Nat} (ho : o' ≤ o) {r : Bs} (hr : Brk r) (hn : opOf (tok (skip r)) = none) : pS J o' ((tx h x).2 ++ r) = .ok (x, skip r) := by
  unfold pS
  obtain ⟨m, _, he⟩ := g.s o' (((tx h x).2 ++ r).length + 1) r ho (by simp; omega) hr (by intro k hk; rw [hn] at hk; cases hk)
  rw [he, stop0 hn]

end
end Bk
end Sp
end Go.Proofs.YtiopfihjmkfdmaaGreatDoor

/- Statements are read back, whatever is made of them beside the text (plain mathematics). -/
namespace Go.Proofs.YtiopfihjmkfdmaaGreatDoor
namespace Sp
namespace Bk

section
variable {J : Alg} (h : Hom J Pr)

theorem cond_read {o k : Nat} {x y : J.S} (hk : k < 6) (hx : G h o x) (hy : G h o y) {o' : Nat} (ho : o' ≤ o) {r : Bs} (hr : Brk r) (hn : opOf (tok (skip r)) = none) :
    pCond J o' (condText k (tx h x) (tx h y) ++ r) = .ok ((k, x, y), skip r) := by
  obtain ⟨s1, s2, s3, s4, s5⟩ := rel_tok hk ((tx h y).2 ++ r)
  unfold condText
  rw [show ((tx h x).2 ++ [32] ++ relSign k ++ [32] ++ (tx h y).2) ++ r = (tx h x).2 ++ (32 :: (relSign k ++ 32 :: ((tx h y).2 ++ r))) by simp]
  have h1 := hx.read h ho (r := 32 :: (relSign k ++ 32 :: ((tx h y).2 ++ r))) (brk_32 _) (by rw [s3, s1, s5])
  unfold pCond
  rw [h1]
  simp only
  rw [s3, s1, s4]
  simp only
  rw [s2, hy.nb.skip, hy.read h ho hr hn]
theorem pCond_g {o : Nat} {l : Bs} {k : Nat} {x y : J.S} {l' : Bs} (ho : o ≤ 12) (e : pCond J o l = .ok ((k, x, y), l')) : k < 6 ∧ G h o x ∧ G h o y := by
  unfold pCond at e
  split at e
  · next x1 l1 hx =>
    split at e
    · next k1 hk =>
      split at e
      · next y1 l2 hy => cases e; exact ⟨relOf_lt hk, pS_g h ho hx, pS_g h ho hy⟩
      · cases e
    · cases e
  · cases e
theorem condText_nb {o k : Nat} {x y : J.S} (hx : G h o x) : NB (condText k (tx h x) (tx h y)) := (((hx.nb.app _).app _).app _).app _

/-- a statement that is read back -/
structure T (o : Nat) (x : J.T) : Prop where
  hd : ∀ d, ∃ c b, tt h x d = pad d ++ c :: b ∧ isLet c = true
  ne : ∀ d r, tok (skip (tt h x d ++ r)) ≠ wElse
  rd : ∀ d n o' r, o' ≤ o → (tt h x d).length ≤ n → tok (skip r) ≠ wElse → pStmt J n o' (skip (tt h x d ++ r)) = .ok (x, skip r)

theorem many_read {o : Nat} : ∀ xs : List J.T, (∀ x ∈ xs, T h o x) → ∀ d n o' r m (acc : List J.T), o' ≤ o → (lines d (xs.map (tt h))).length ≤ n → tokKind (skip r) ≠ 2 → (skip (lines d (xs.map (tt h)) ++ r)).length < m →
    pMany J (pStmt J n o') m acc (skip (lines d (xs.map (tt h)) ++ r)) = .ok (acc ++ xs, skip r) := by
  intro xs
  induction xs with
  | nil =>
    intro _ d n o' r m acc _ _ hr hm
    obtain ⟨m', rfl⟩ : ∃ m', m = m' + 1 := ⟨m - 1, by omega⟩
    rw [show lines d (List.map (tt h) []) ++ r = r from rfl, pMany_succ J _ m' acc (skip r), if_neg hr, List.append_nil]
  | cons x xs ih =>
    intro hx d n o' r m acc ho hn hr hm
    have vx := hx x (by simp)
    rw [List.map_cons, lines_cons, List.append_assoc] at hm ⊢
    rw [List.map_cons, lines_cons, List.length_append] at hn
    obtain ⟨m', rfl⟩ : ∃ m', m = m' + 1 := ⟨m - 1, by omega⟩
    obtain ⟨c, b, hb, hc⟩ := vx.hd d
    have hsk : skip (tt h x d ++ (lines d (xs.map (tt h)) ++ r)) = c :: (b ++ (lines d (xs.map (tt h)) ++ r)) := by
      rw [hb, List.append_assoc, skip_pad]
      exact skip_nb _ (let_nb hc)
    have hk : tokKind (skip (tt h x d ++ (lines d (xs.map (tt h)) ++ r))) = 2 := by rw [hsk]; simp [tokKind, hc]
    have hne : tok (skip (lines d (xs.map (tt h)) ++ r)) ≠ wElse := by
      cases xs with
      | nil => exact fun h => hr (tok_else h)
      | cons y ys =>
        rw [List.map_cons, lines_cons, List.append_assoc]
        exact (hx y (by simp)).ne d _
    have hs := vx.rd d n o' (lines d (xs.map (tt h)) ++ r) ho (by omega) hne
    rw [pMany_succ J _ m' acc _, if_pos hk, hs]
    simp only
    have hlen : (skip (lines d (xs.map (tt h)) ++ r)).length < m' := by
      rw [hsk] at hm
      have := skip_len (lines d (xs.map (tt h)) ++ r)
      simp only [List.length_cons, List.length_append] at hm this
      omega
    exact (ih (fun z hz => hx z (by simp [hz])) d n o' r m' (acc ++ [x]) ho (by omega) hr hlen).trans (by simp)

theorem block_read {o : Nat} {xs : List J.T} (k : ∀ x ∈ xs, T h (o + 1) x) (ho : o < 12) {o' : Nat} (ho' : o' ≤ o) {n d d' : Nat} {r : Bs} (hn : (lines d (xs.map (tt h))).length ≤ n) :
    pBlock J (pStmt J n (o' + 1)) o' (123 :: 10 :: (lines d (xs.map (tt h)) ++ (pad d' ++ 125 :: r))) = .ok (xs, skip r) := by
  obtain ⟨q1, q2, _⟩ := tok_one (c := 123) (r := 10 :: (lines d (xs.map (tt h)) ++ (pad d' ++ 125 :: r))) (by decide) (fun h => absurd h (by decide))
  obtain ⟨p1, _, p3⟩ := tok_one (c := 125) (r := r) (by decide) (fun h => absurd h (by decide))
  have hsk : skip (pad d' ++ 125 :: r) = 125 :: r := by rw [skip_pad]; exact skip_nb _ (by decide)
  have hm := many_read h xs k d n (o' + 1) (pad d' ++ 125 :: r) ((skip (lines d (xs.map (tt h)) ++ (pad d' ++ 125 :: r))).length + 1) [] (by omega) hn (by rw [hsk, p3]; decide) (by omega)
  rw [hsk] at hm
  have hm' : pMany J (pStmt J n (o' + 1)) ((skip (lines d (xs.map (tt h)) ++ (pad d' ++ 125 :: r))).length + 1) [] (skip (lines d (xs.map (tt h)) ++ (pad d' ++ 125 :: r))) = (.ok (xs, 125 :: r) : R (List J.T)) := hm
  unfold pBlock enter
  rw [if_pos q1, if_neg (by omega), q2, skip_10]
  simp only
  rw [hm']
  simp only
  rw [take_one (by decide) (fun h => absurd h (by decide))]

theorem T.assign {o k : Nat} {x : J.S} (hk : k < 8) (hx : G h o x) : T h o (J.assign k x) := by
  have e0 : ∀ d, tt h (J.assign k x) d = pad d ++ letter k ++ [32, 61, 32] ++ (tx h x).2 ++ [59, 10] := fun d => congrFun (h.assign k x) d
  have e : ∀ d r, skip (tt h (J.assign k x) d ++ r) = letter k ++ (32 :: 61 :: 32 :: ((tx h x).2 ++ 59 :: 10 :: r)) := by
    intro d r
    rw [e0, show (pad d ++ letter k ++ [32, 61, 32] ++ (tx h x).2 ++ [59, 10]) ++ r = pad d ++ (letter k ++ (32 :: 61 :: 32 :: ((tx h x).2 ++ 59 :: 10 :: r))) by simp, skip_pad]
    exact (letter_nb hk).skip _
  have hw : ∀ z : Bs, ∀ c, (32 :: z : Bs).head? = some c → isLet c = false := by
    intro z c h; cases h; decide
  refine ⟨?_, ?_, ?_⟩
  · intro d
    refine ⟨UInt8.ofNat (97 + k), [32, 61, 32] ++ (tx h x).2 ++ [59, 10], ?_, letter_let hk _ (by simp [letter])⟩
    rw [e0]
    simp [letter]
  · intro d r
    rw [e, (tok_word (t := letter k) (by simp [letter]) (letter_let hk) (hw _)).1]
    exact len1_ne (by decide)
  · intro d n o' r ho hn _
    obtain ⟨n', rfl⟩ : ∃ n', n = n' + 1 := by
      refine ⟨n - 1, ?_⟩
      rw [e0] at hn
      simp only [List.length_append, List.length_cons] at hn
      omega
    obtain ⟨q1, _, _⟩ := tok_word (t := letter k) (by simp [letter]) (letter_let hk) (hw (61 :: 32 :: ((tx h x).2 ++ 59 :: 10 :: r)))
    rw [e]
    unfold pStmt
    rw [q1, if_neg (len1_ne (by decide)), if_neg (len1_ne (by decide)), if_neg (len1_ne (by decide)), if_neg (len1_ne (by decide))]
    unfold pAssign
    rw [pName_letter hk (hw _)]
    simp only
    rw [skip_32, skip_nb _ (by decide), take_one (by decide) (fun _ h => by cases h)]
    simp only
    have hsk : skip (59 :: 10 :: r) = 59 :: 10 :: r := skip_nb _ (by decide)
    have ht : opOf (tok (skip (59 :: 10 :: r))) = none := by
      rw [hsk, (tok_one (c := 59) (by decide) (fun h => absurd h (by decide))).1]; rfl
    rw [skip_32, hx.nb.skip, hx.read h ho (brk_59 _) ht]
    simp only
    rw [hsk, take_one (by decide) (fun h => absurd h (by decide)), skip_10]

/-- a statement that begins with a word of its own -/
theorem T.word {o : Nat} {x : J.T} (w : Bs) (tail : Nat → Bs) (h0 : w ≠ []) (hl : ∀ c ∈ w, isLet c = true) (hw : w ≠ wElse) (hx : ∀ d, tt h x d = pad d ++ w ++ [32] ++ tail d)
    (hr : ∀ d n o' r, o' ≤ o → (tail d).length ≤ n → tok (skip r) ≠ wElse → pStmt J (n + 1) o' (w ++ 32 :: (tail d ++ r)) = .ok (x, skip r)) : T h o x := by
  have e : ∀ d r, skip (tt h x d ++ r) = w ++ 32 :: (tail d ++ r) := by
    intro d r
    rw [hx, show (pad d ++ w ++ [32] ++ tail d) ++ r = pad d ++ (w ++ 32 :: (tail d ++ r)) by simp, skip_pad]
    exact (word_nb h0 hl).skip _
  refine ⟨?_, ?_, ?_⟩
  · intro d
    cases w with
    | nil => exact absurd rfl h0
    | cons c w' => exact ⟨c, w' ++ [32] ++ tail d, by rw [hx]; simp, hl c (by simp)⟩
  · intro d r
    rw [e, (word_tok h0 hl _).1]
    exact hw
  · intro d n o' r ho hn hne
    rw [hx] at hn
    simp only [List.length_append, List.length_cons, List.length_nil] at hn
    obtain ⟨n', rfl⟩ : ∃ n', n = n' + 1 := ⟨n - 1, by omega⟩
    rw [e]
    exact hr d n' o' r ho (by omega) hne

theorem T.read {o k : Nat} (hk : k < 8) : T h o (J.read k) := by
  refine T.word h wRead (fun _ => letter k ++ [59, 10]) (by decide) (by decide) (by decide) (fun d => ?_) ?_
  · rw [show tt h (J.read k) d = pad d ++ [114, 101, 97, 100, 32] ++ letter k ++ [59, 10] from congrFun (h.read k) d]
    simp [wRead]
  · intro d n o' r _ _ _
    rw [show letter k ++ [59, 10] ++ r = letter k ++ 59 :: 10 :: r by simp]
    obtain ⟨q1, q2⟩ := word_tok (w := wRead) (by decide) (by decide) (letter k ++ 59 :: 10 :: r)
    obtain ⟨s1, _, s3⟩ := semi r
    unfold pStmt
    rw [if_pos q1]
    unfold pRead
    rw [q2, (letter_nb hk).skip, pName_letter hk (brk_59 _).let]
    simp only
    rw [s1, s3]

theorem T.assert {o k : Nat} {x y : J.S} (hk : k < 6) (hx : G h o x) (hy : G h o y) : T h o (J.assert k x y) := by
  refine T.word h wAssert (fun _ => condText k (tx h x) (tx h y) ++ [59, 10]) (by decide) (by decide) (by decide) (fun d => ?_) ?_
  · rw [show tt h (J.assert k x y) d = pad d ++ [97, 115, 115, 101, 114, 116, 32] ++ condText k (tx h x) (tx h y) ++ [59, 10] from congrFun (h.assert k x y) d]
    simp [wAssert]
  · intro d n o' r ho _ _
    rw [show condText k (tx h x) (tx h y) ++ [59, 10] ++ r = condText k (tx h x) (tx h y) ++ 59 :: 10 :: r by simp]
    obtain ⟨q1, q2⟩ := word_tok (w := wAssert) (by decide) (by decide) (condText k (tx h x) (tx h y) ++ 59 :: 10 :: r)
    obtain ⟨s1, s2, s3⟩ := semi r
    unfold pStmt
    rw [q1, if_neg (by decide), if_pos rfl]
    unfold pAssert
    rw [q2, (condText_nb h (y := y) hx).skip, cond_read h hk hx hy ho (brk_59 _) s2]
    simp only
    rw [s1, s3]

theorem T.loop {o k : Nat} {x y : J.S} {xs : List J.T} (hk : k < 6) (hx : G h o x) (hy : G h o y) (ho : o < 12) (hxs : ∀ z ∈ xs, T h (o + 1) z) : T h o (J.loop k x y xs) := by
  refine T.word h wWhile (fun d => condText k (tx h x) (tx h y) ++ [32, 123, 10] ++ lines (d + 1) (xs.map (tt h)) ++ pad d ++ [125, 10]) (by decide) (by decide) (by decide) (fun d => ?_) ?_
  · rw [show tt h (J.loop k x y xs) d = pad d ++ [119, 104, 105, 108, 101, 32] ++ condText k (tx h x) (tx h y) ++ [32, 123, 10] ++ lines (d + 1) (xs.map (tt h)) ++ pad d ++ [125, 10] from congrFun (h.loop k x y xs) d]
    simp [wWhile]
  · intro d n o' r ho' hn _
    simp only [List.length_append, List.length_cons, List.length_nil] at hn
    rw [show condText k (tx h x) (tx h y) ++ [32, 123, 10] ++ lines (d + 1) (xs.map (tt h)) ++ pad d ++ [125, 10] ++ r = condText k (tx h x) (tx h y) ++ 32 :: 123 :: 10 :: (lines (d + 1) (xs.map (tt h)) ++ (pad d ++ 125 :: (10 :: r))) by simp]
    obtain ⟨q1, q2⟩ := word_tok (w := wWhile) (by decide) (by decide) (condText k (tx h x) (tx h y) ++ 32 :: 123 :: 10 :: (lines (d + 1) (xs.map (tt h)) ++ (pad d ++ 125 :: (10 :: r))))
    obtain ⟨s1, s2⟩ := brace (lines (d + 1) (xs.map (tt h)) ++ (pad d ++ 125 :: (10 :: r)))
    unfold pStmt
    rw [q1, if_neg (by decide), if_neg (by decide), if_neg (by decide), if_pos rfl]
    unfold pWhile
    rw [q2, (condText_nb h (y := y) hx).skip, cond_read h hk hx hy ho' (brk_32 _) s2]
    simp only
    rw [s1, block_read h hxs ho ho' (n := n) (by omega)]
    simp only
    rw [skip_10]

theorem T.ite {o k : Nat} {x y : J.S} {xs : List J.T} (hk : k < 6) (hx : G h o x) (hy : G h o y) (ho : o < 12) (hxs : ∀ z ∈ xs, T h (o + 1) z) : T h o (J.ite k x y xs none) := by
  refine T.word h wIf (fun d => condText k (tx h x) (tx h y) ++ [32, 123, 10] ++ lines (d + 1) (xs.map (tt h)) ++ pad d ++ [125, 10]) (by decide) (by decide) (by decide) (fun d => ?_) ?_
  · rw [show tt h (J.ite k x y xs none) d = pad d ++ [105, 102, 32] ++ condText k (tx h x) (tx h y) ++ [32, 123, 10] ++ lines (d + 1) (xs.map (tt h)) ++ [] ++ pad d ++ [125, 10] from congrFun (h.ite k x y xs none) d]
    simp [wIf]
  · intro d n o' r ho' hn hne
    simp only [List.length_append, List.length_cons, List.length_nil] at hn
    rw [show condText k (tx h x) (tx h y) ++ [32, 123, 10] ++ lines (d + 1) (xs.map (tt h)) ++ pad d ++ [125, 10] ++ r = condText k (tx h x) (tx h y) ++ 32 :: 123 :: 10 :: (lines (d + 1) (xs.map (tt h)) ++ (pad d ++ 125 :: (10 :: r))) by simp]
    obtain ⟨q1, q2⟩ := word_tok (w := wIf) (by decide) (by decide) (condText k (tx h x) (tx h y) ++ 32 :: 123 :: 10 :: (lines (d + 1) (xs.map (tt h)) ++ (pad d ++ 125 :: (10 :: r))))
    obtain ⟨s1, s2⟩ := brace (lines (d + 1) (xs.map (tt h)) ++ (pad d ++ 125 :: (10 :: r)))
    unfold pStmt
    rw [q1, if_neg (by decide), if_neg (by decide), if_pos rfl]
    unfold pIf
    rw [q2, (condText_nb h (y := y) hx).skip, cond_read h hk hx hy ho' (brk_32 _) s2]
    simp only
    rw [s1, block_read h hxs ho ho' (n := n) (by omega)]
    simp only
    rw [skip_10, if_neg hne]

theorem T.iteElse {o k : Nat} {x y : J.S} {xs ys : List J.T} (hk : k < 6) (hx : G h o x) (hy : G h o y) (ho : o < 12) (hxs : ∀ z ∈ xs, T h (o + 1) z) (hys : ∀ z ∈ ys, T h (o + 1) z) : T h o (J.ite k x y xs (some ys)) := by
  refine T.word h wIf (fun d => condText k (tx h x) (tx h y) ++ [32, 123, 10] ++ lines (d + 1) (xs.map (tt h)) ++ pad d ++ [125, 32, 101, 108, 115, 101, 32, 123, 10] ++ lines (d + 1) (ys.map (tt h)) ++ pad d ++ [125, 10]) (by decide) (by decide) (by decide) (fun d => ?_) ?_
  · rw [show tt h (J.ite k x y xs (some ys)) d = pad d ++ [105, 102, 32] ++ condText k (tx h x) (tx h y) ++ [32, 123, 10] ++ lines (d + 1) (xs.map (tt h)) ++ (pad d ++ [125, 32, 101, 108, 115, 101, 32, 123, 10] ++ lines (d + 1) (ys.map (tt h))) ++ pad d ++ [125, 10] from congrFun (h.ite k x y xs (some ys)) d]
    simp [wIf]
  · intro d n o' r ho' hn _
    simp only [List.length_append, List.length_cons, List.length_nil] at hn
    rw [show condText k (tx h x) (tx h y) ++ [32, 123, 10] ++ lines (d + 1) (xs.map (tt h)) ++ pad d ++ [125, 32, 101, 108, 115, 101, 32, 123, 10] ++ lines (d + 1) (ys.map (tt h)) ++ pad d ++ [125, 10] ++ r = condText k (tx h x) (tx h y) ++ 32 :: 123 :: 10 :: (lines (d + 1) (xs.map (tt h)) ++ (pad d ++ 125 :: (32 :: (wElse ++ 32 :: 123 :: 10 :: (lines (d + 1) (ys.map (tt h)) ++ (pad d ++ 125 :: (10 :: r))))))) by simp [wElse]]
    obtain ⟨q1, q2⟩ := word_tok (w := wIf) (by decide) (by decide) (condText k (tx h x) (tx h y) ++ 32 :: 123 :: 10 :: (lines (d + 1) (xs.map (tt h)) ++ (pad d ++ 125 :: (32 :: (wElse ++ 32 :: 123 :: 10 :: (lines (d + 1) (ys.map (tt h)) ++ (pad d ++ 125 :: (10 :: r))))))))
    obtain ⟨s1, s2⟩ := brace (lines (d + 1) (xs.map (tt h)) ++ (pad d ++ 125 :: (32 :: (wElse ++ 32 :: 123 :: 10 :: (lines (d + 1) (ys.map (tt h)) ++ (pad d ++ 125 :: (10 :: r)))))))
    obtain ⟨p1, p2⟩ := word_tok (w := wElse) (by decide) (by decide) (123 :: 10 :: (lines (d + 1) (ys.map (tt h)) ++ (pad d ++ 125 :: (10 :: r))))
    unfold pStmt
    rw [q1, if_neg (by decide), if_neg (by decide), if_pos rfl]
    unfold pIf
    rw [q2, (condText_nb h (y := y) hx).skip, cond_read h hk hx hy ho' (brk_32 _) s2]
    simp only
    rw [s1, block_read h hxs ho ho' (n := n) (by omega)]
    simp only
    rw [skip_32, (word_nb (w := wElse) (by decide) (by decide)).skip, if_pos p1, p2, skip_nb _ (by decide), block_read h hys ho ho' (n := n) (by omega)]
    simp only
    rw [skip_10]

theorem pMany_all {P : J.T → Prop} {st : Bs → R J.T} (hst : ∀ l x l', st l = .ok (x, l') → P x) : ∀ m (acc : List J.T) l ys l', (∀ x ∈ acc, P x) → pMany J st m acc l = .ok (ys, l') → ∀ x ∈ ys, P x := by
  intro m
  induction m with
  | zero => intro acc l ys l' ha h; cases h; exact ha
  | succ m ih =>
    intro acc l ys l' ha h
    rw [pMany_succ J st m acc l] at h
    split at h
    · split at h
      · next x l1 hx =>
        refine ih _ _ _ _ ?_ h
        intro z hz
        rcases List.mem_append.1 hz with hz | hz
        · exact ha z hz
        · rw [List.mem_singleton.1 hz]; exact hst _ _ _ hx
      · cases h
    · cases h; exact ha
theorem pBlock_all {P : J.T → Prop} {st : Bs → R J.T} (hst : ∀ l x l', st l = .ok (x, l') → P x) {o : Nat} {l : Bs} {xs : List J.T} {l' : Bs} (e : pBlock J st o l = .ok (xs, l')) : ∀ x ∈ xs, P x := by
  unfold pBlock at e
  split at e
  · split at e
    · next ys l2 hm =>
      split at e
      · cases e; exact pMany_all hst _ _ _ _ _ (fun x hx => by cases hx) hm
      · cases e
    · cases e
  · cases e
theorem pBlock_lt12 {st : Bs → R J.T} {o : Nat} {l : Bs} {xs : List J.T} {l' : Bs} (ho : o ≤ 12) (e : pBlock J st o l = .ok (xs, l')) : o < 12 := by
  unfold pBlock at e
  split at e
  · next l1 he => exact enter_ok he ho
  · cases e

theorem pStmt_T : ∀ n o l x l', o ≤ 12 → pStmt J n o l = .ok (x, l') → T h o x := by
  intro n
  induction n with
  | zero => intro o l x l' _ e; cases e
  | succ n ih =>
    intro o l x l' ho e
    unfold pStmt at e
    split at e
    · unfold pRead at e
      split at e
      · next k l1 hk =>
        split at e
        · cases e; exact T.read h (pName_lt8 hk)
        · cases e
      · cases e
    · split at e
      · unfold pAssert at e
        split at e
        · next k x1 y1 l1 hc =>
          split at e
          · cases e
            obtain ⟨h1, h2, h3⟩ := pCond_g h ho hc
            exact T.assert h h1 h2 h3
          · cases e
        · cases e
      · split at e
        · unfold pIf at e
          split at e
          · next k x1 y1 l1 hc =>
            obtain ⟨h1, h2, h3⟩ := pCond_g h ho hc
            split at e
            · next xs l2 hb =>
              have h4 := pBlock_lt12 ho hb
              have h5 := pBlock_all (P := T h (o + 1)) (fun l x l' q => ih _ _ _ _ (by omega) q) hb
              split at e
              · split at e
                · next ys l3 hb2 =>
                  cases e
                  exact T.iteElse h h1 h2 h3 h4 h5 (pBlock_all (P := T h (o + 1)) (fun l x l' q => ih _ _ _ _ (by omega) q) hb2)
                · cases e
              · cases e; exact T.ite h h1 h2 h3 h4 h5
            · cases e
          · cases e
        · split at e
          · unfold pWhile at e
            split at e
            · next k x1 y1 l1 hc =>
              obtain ⟨h1, h2, h3⟩ := pCond_g h ho hc
              split at e
              · next xs l2 hb =>
                cases e
                exact T.loop h h1 h2 h3 (pBlock_lt12 ho hb) (pBlock_all (P := T h (o + 1)) (fun l x l' q => ih _ _ _ _ (by have := pBlock_lt12 ho hb; omega) q) hb)
              · cases e
            · cases e
          · unfold pAssign at e
            split at e
            · next k l1 hk =>
              split at e
              · split at e
                · next x1 l3 hx =>
                  split at e
                  · cases e; exact T.assign h (pName_lt8 hk) (pS_g h ho hx)
                  · cases e
                · cases e
              · cases e
            · cases e

theorem lines_skip {o : Nat} {xs : List J.T} (e : ∀ x ∈ xs, T h o x) : skip (lines 0 (xs.map (tt h))) = lines 0 (xs.map (tt h)) := by
  cases xs with
  | nil => rfl
  | cons x xs =>
    obtain ⟨c, b, hb, hc⟩ := (e x (by simp)).hd 0
    rw [List.map_cons, lines_cons, hb]
    exact skip_nb _ (let_nb hc)

theorem parse_T {s : Bs} {xs : List J.T} (e : parse J s = .ok xs) : ∀ x ∈ xs, T h 0 x := by
  unfold parse at e
  split at e
  · cases e
  · split at e
    · next ys hp =>
      cases e
      unfold pProg at hp
      split at hp
      · next zs l1 hm =>
        split at hp
        · cases hp
          exact pMany_all (P := T h 0) (fun l x l' q => pStmt_T h _ _ _ _ _ (by omega) q) _ _ _ _ _ (fun x hx => by cases hx) hm
        · cases hp
      · cases hp
    · cases e

theorem parse_lines {xs : List J.T} (e : ∀ x ∈ xs, T h 0 x) (hl : (lines 0 (xs.map (tt h))).length ≤ 400) : parse J (lines 0 (xs.map (tt h))) = .ok xs := by
  have hm := many_read h xs e 0 ((lines 0 (xs.map (tt h))).length + 1) 0 [] ((lines 0 (xs.map (tt h))).length + 1) [] (by omega) (by omega) (by decide) (by rw [List.append_nil, lines_skip h e]; omega)
  rw [List.append_nil, lines_skip h e] at hm
  have hm' : pMany J (pStmt J ((lines 0 (xs.map (tt h))).length + 1) 0) ((lines 0 (xs.map (tt h))).length + 1) [] (lines 0 (xs.map (tt h))) = (.ok (xs, []) : R (List J.T)) := hm
  unfold parse
  rw [if_neg (by omega), lines_skip h e]
  unfold pProg
  rw [hm']
  simp

end

/-- two algebras at once -/
def Two (A B : Alg) : Alg where
  S := A.S × B.S
  num n := (A.num n, B.num n)
  name k := (A.name k, B.name k)
  neg x := (A.neg x.1, B.neg x.2)
  bin k x y := (A.bin k x.1 y.1, B.bin k x.2 y.2)
  T := A.T × B.T
  assign k x := (A.assign k x.1, B.assign k x.2)
  read k := (A.read k, B.read k)
  assert k x y := (A.assert k x.1 y.1, B.assert k x.2 y.2)
  ite k x y xs ys := (A.ite k x.1 y.1 (xs.map Prod.fst) (ys.map fun l => l.map Prod.fst), B.ite k x.2 y.2 (xs.map Prod.snd) (ys.map fun l => l.map Prod.snd))
  loop k x y xs := (A.loop k x.1 y.1 (xs.map Prod.fst), B.loop k x.2 y.2 (xs.map Prod.snd))

def left (A B : Alg) : Hom (Two A B) A where
  s := Prod.fst
  t := Prod.fst
  num _ := rfl
  name _ := rfl
  neg _ := rfl
  bin _ _ _ := rfl
  assign _ _ := rfl
  read _ := rfl
  assert _ _ _ := rfl
  ite _ _ _ _ _ := rfl
  loop _ _ _ _ := rfl

def right (A B : Alg) : Hom (Two A B) B where
  s := Prod.snd
  t := Prod.snd
  num _ := rfl
  name _ := rfl
  neg _ := rfl
  bin _ _ _ := rfl
  assign _ _ := rfl
  read _ := rfl
  assert _ _ _ := rfl
  ite _ _ _ _ _ := rfl
  loop _ _ _ _ := rfl

/-- what was written is read as it was, whatever is made of it -/
theorem parse_printed (A : Alg) (s t : Bs) (e : print s = .ok t) (hl : t.length ≤ 400) : ∃ ys, parse A s = .ok ys ∧ parse A t = .ok ys := by
  unfold print at e
  rw [parse_hom (left Pr A) s] at e
  cases hp : parse (Two Pr A) s with
  | error er => rw [hp] at e; cases e
  | ok xs =>
    rw [hp] at e
    have e1 : lines 0 (xs.map (tt (left Pr A))) = t := by cases e; rfl
    have ht := parse_lines (left Pr A) (parse_T (left Pr A) hp) (by rw [e1]; exact hl)
    rw [e1] at ht
    refine ⟨xs.map (right Pr A).t, ?_, ?_⟩
    · rw [parse_hom (right Pr A) s, hp]
    · rw [parse_hom (right Pr A) t, ht]

end Bk
end Sp
end Go.Proofs.YtiopfihjmkfdmaaGreatDoor
