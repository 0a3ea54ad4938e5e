import Derived.Test.YtiopfihjmkfdmaaGreatDoorS1
import Derived.KernelRfl
import Derived.Test.YtiopfihjmkfdmaaGreatDoorS16
import Derived.Test.YtiopfihjmkfdmaaGreatDoorS11
import Derived.ChangeKeysEq
import Derived.Laws.StructEq
namespace Go.Proofs.YtiopfihjmkfdmaaGreatDoor
namespace Sp
def E3 {α : Type} (r : Except (Nat × Nat) α) : Prop := ∀ e, r = .error e → e.1 ≠ 0
theorem E3.ok {α : Type} (x : α) : E3 (.ok x) := fun _ h => by cases h
theorem E3.err {α β : Type} {r : Except (Nat × Nat) α} {e : Nat × Nat} (h : E3 r) (hr : r = .error e) : E3 (.error e : Except (Nat × Nat) β) := fun _ k => by cases k; exact h _ hr
theorem E3.bad {α : Type} (l : Bs) : E3 (Sp.bad 2 l : Except (Nat × Nat) α) := fun _ h => by cases h; simp
theorem E3.bad3 {α : Type} (l : Bs) : E3 (Sp.bad 3 l : Except (Nat × Nat) α) := fun _ h => by cases h; simp
theorem take_e (t l : Bs) : E3 (take t l) := by
 unfold take; split
 ·exact .ok _
 ·exact .bad _
theorem enter_e (t : Bs) (o : Nat) (l : Bs) : E3 (enter t o l) := by
 unfold enter; split
 ·split
  ·exact .bad3 _
  ·exact .ok _
 ·exact .bad _
theorem pName_e (l : Bs) : E3 (pName l) := by
 unfold pName; split
 ·exact .ok _
 ·exact .bad _
theorem pChain_e (A : Alg) (lv : Nat) (part : Bs → R A.S) (h : ∀ l, E3 (part l)) : ∀ m x l, E3 (pChain A lv part m x l) := by
 intro m
 induction m with
 | zero => intro x l; exact .ok _
 | succ m ih =>
  intro x l
  unfold pChain
  split
  ·split
   ·split
    ·exact ih _ _
    ·exact (h _).err ‹_›
   ·exact .ok _
  ·exact .ok _
theorem pWith_e (A : Alg) (lv : Nat) (part : Bs → R A.S) (h : ∀ l, E3 (part l)) (l : Bs) : E3 (pWith A lv part l) := by
 unfold pWith; split
 ·exact pChain_e A lv part h _ _ _
 ·exact (h _).err ‹_›
theorem pSum_e (A : Alg) (u : Bs → R A.S) (h : ∀ l, E3 (u l)) (l : Bs) : E3 (pSum A u l) := pWith_e A 0 _ (fun l => pWith_e A 1 u h l) l
theorem pUnary_e (A : Alg) : ∀ n o l, E3 (pUnary A n o l) := by
 intro n
 induction n with
 | zero => intro o l; exact .bad _
 | succ n ih =>
  intro o l
  unfold pUnary
  split
  ·split
   ·exact .ok _
   ·exact .bad _
  ·split
   ·split
    ·exact .ok _
    ·exact (pName_e _).err ‹_›
   ·split
    ·split
     ·split
      ·exact .ok _
      ·exact (ih _ _).err ‹_›
     ·exact (enter_e _ _ _).err ‹_›
    ·split
     ·split
      ·split
       ·exact .ok _
       ·exact (take_e _ _).err ‹_›
      ·exact (pSum_e A _ (ih _) _).err ‹_›
     ·exact (enter_e _ _ _).err ‹_›
theorem pS_e (A : Alg) (o : Nat) (l : Bs) : E3 (pS A o l) := pSum_e A _ (pUnary_e A _ _) l
theorem pCond_e (A : Alg) (o : Nat) (l : Bs) : E3 (pCond A o l) := by
 unfold pCond; split
 ·split
  ·split
   ·exact .ok _
   ·exact (pS_e _ _ _).err ‹_›
  ·exact .bad _
 ·exact (pS_e _ _ _).err ‹_›
theorem pMany_e (A : Alg) (st : Bs → R A.T) (h : ∀ l, E3 (st l)) : ∀ m acc l, E3 (pMany A st m acc l) := by
 intro m
 induction m with
 | zero => intro x l; exact .ok _
 | succ m ih =>
  intro x l
  unfold pMany
  split
  ·split
   ·exact ih _ _
   ·exact (h _).err ‹_›
  ·exact .ok _
theorem pBlock_e (A : Alg) (st : Bs → R A.T) (h : ∀ l, E3 (st l)) (o : Nat) (l : Bs) : E3 (pBlock A st o l) := by
 unfold pBlock; split
 ·split
  ·split
   ·exact .ok _
   ·exact (take_e _ _).err ‹_›
  ·exact (pMany_e A st h _ _ _).err ‹_›
 ·exact (enter_e _ _ _).err ‹_›
theorem pAssign_e (A : Alg) (o : Nat) (l : Bs) : E3 (pAssign A o l) := by
 unfold pAssign; split
 ·split
  ·split
   ·split
    ·exact .ok _
    ·exact (take_e _ _).err ‹_›
   ·exact (pS_e _ _ _).err ‹_›
  ·exact (take_e _ _).err ‹_›
 ·exact (pName_e _).err ‹_›
theorem pRead_e (A : Alg) (l : Bs) : E3 (pRead A l) := by
 unfold pRead; split
 ·split
  ·exact .ok _
  ·exact (take_e _ _).err ‹_›
 ·exact (pName_e _).err ‹_›
theorem pAssert_e (A : Alg) (o : Nat) (l : Bs) : E3 (pAssert A o l) := by
 unfold pAssert; split
 ·split
  ·exact .ok _
  ·exact (take_e _ _).err ‹_›
 ·exact (pCond_e _ _ _).err ‹_›
theorem pIf_e (A : Alg) (blk : Bs → R (List A.T)) (h : ∀ l, E3 (blk l)) (o : Nat) (l : Bs) : E3 (pIf A blk o l) := by
 unfold pIf; split
 ·split
  ·split
   ·split
    ·exact .ok _
    ·exact (h _).err ‹_›
   ·exact .ok _
  ·exact (h _).err ‹_›
 ·exact (pCond_e _ _ _).err ‹_›
theorem pWhile_e (A : Alg) (blk : Bs → R (List A.T)) (h : ∀ l, E3 (blk l)) (o : Nat) (l : Bs) : E3 (pWhile A blk o l) := by
 unfold pWhile; split
 ·split
  ·exact .ok _
  ·exact (h _).err ‹_›
 ·exact (pCond_e _ _ _).err ‹_›
theorem pStmt_e (A : Alg) : ∀ n o l, E3 (pStmt A n o l) := by
 intro n
 induction n with
 | zero => intro o l; exact .bad _
 | succ n ih =>
  intro o l
  unfold pStmt
  split
  ·exact pRead_e A l
  ·split
   ·exact pAssert_e A o l
   ·split
    ·exact pIf_e A _ (fun l => pBlock_e A _ (ih _) o l) o l
    ·split
     ·exact pWhile_e A _ (fun l => pBlock_e A _ (ih _) o l) o l
     ·exact pAssign_e A o l
theorem parse_e (A : Alg) (src : Bs) : E3 (parse A src) := by
 unfold parse
 split
 ·intro e h; cases h; simp
 ·have hp : E3 (pProg A (skip src)) := by
   unfold pProg; split
   ·split
    ·exact .ok _
    ·exact .bad _
   ·exact (pMany_e A _ (pStmt_e A _ _) _ _ _).err ‹_›
  split
  ·exact .ok _
  ·next e left hq => intro e h; cases h; exact fun k => hp _ hq k
theorem print_e (src : Bs) : E3 (print src) := by
 unfold print; split
 ·exact .ok _
 ·exact (parse_e Pr src).err ‹_›
end Sp
end Go.Proofs.YtiopfihjmkfdmaaGreatDoor
namespace Go.Proofs.YtiopfihjmkfdmaaGreatDoor
open Go.RowKit
set_option maxRecDepth 100000
set_option maxHeartbeats 1000000
theorem num_calls (n : Int) (w : World) : Calls Tryz.prog 18 #[.int .i64 n] w fun e w' => e = .returned (.int .i64 n) ∧ w' = w := by
 go_enter Tryz.func18, Tryz.ntmps18
 go_wp2_with fail
 go_ret
 exact ⟨rfl, rfl⟩
theorem Laid2.after {w w' : World} (h : Laid2 w) (hb : Below w.heap.size w w') : Laid2 w' := h.below hb h.laid.size
end Go.Proofs.YtiopfihjmkfdmaaGreatDoor
namespace Go.Proofs.YtiopfihjmkfdmaaGreatDoor
open Go.RowKit
set_option maxRecDepth 100000
set_option maxHeartbeats 2000000
theorem ErrAt.weaken {w : World} {B B' : Nat} {v : Value} {er : Nat × Nat} (h : ErrAt w B v er) (hB : B' ≤ B) : ErrAt w B' v er := by
 rcases h with h | ⟨N, h1, h2, h3⟩
 ·exact .inl h
 ·exact .inr ⟨N, Nat.le_trans hB h1, h2, h3⟩
theorem ErrAt.set {w : World} {B S i : Nat} {v u : Value} {er : Nat × Nat} (h : ErrAt w B v er) (hS : S < B) : ErrAt (w.setCell ⟨S, i, none⟩ u) B v er := by
 rcases h with h | ⟨N, h1, h2, h3⟩
 ·exact .inl h
 ·exact .inr ⟨N, h1, h2, by rw [Below.heap_setCell _ _ _ _ (by show N ≠ S; omega)]; exact h3⟩
theorem ownsRow9_weaken {base base' n : Nat} {e : TypeId} {sz : Nat} {w : World} {v : Value} {vs : List Value} (h : w.ownsRow base e sz v n vs) (hb : base' ≤ base) : w.ownsRow base' e sz v n vs := by
 obtain ⟨h1, h2⟩ := h
 refine ⟨h1, ?_⟩
 rcases h2 with h2 | ⟨g, cap, cur, rfl, hg, r⟩
 ·exact .inl h2
 ·exact .inr ⟨g, cap, cur, rfl, Nat.le_trans hb hg, r⟩
theorem within_yes (n g : Int) (w : World) (h : 0 ≤ n) (h' : n ≤ g) : Calls Tryz.prog 42 #[.int .i64 n, .int .i64 g] w fun e w' => e = .returned (.bool true) ∧ w' = w := by
 go_enter Tryz.func42, Tryz.ntmps42
 go_wp2_with fail
 go_ret
 exact ⟨rfl, rfl⟩
end Go.Proofs.YtiopfihjmkfdmaaGreatDoor
namespace Go.Proofs.YtiopfihjmkfdmaaGreatDoor
open Go.RowKit
set_option maxRecDepth 100000
set_option maxHeartbeats 2000000
end Go.Proofs.YtiopfihjmkfdmaaGreatDoor
namespace Go.Proofs.YtiopfihjmkfdmaaGreatDoor
namespace Sp
structure Hom (A B : Alg) where
 s : A.S → B.S
 t : A.T → B.T
 num : ∀ n, s (A.num n) = B.num n
 name : ∀ k, s (A.name k) = B.name k
 neg : ∀ x, s (A.neg x) = B.neg (s x)
 bin : ∀ k x y, s (A.bin k x y) = B.bin k (s x) (s y)
 assign : ∀ k x, t (A.assign k x) = B.assign k (s x)
 read : ∀ k, t (A.read k) = B.read k
 assert : ∀ k x y, t (A.assert k x y) = B.assert k (s x) (s y)
 ite : ∀ k x y xs ys, t (A.ite k x y xs ys) = B.ite k (s x) (s y) (xs.map t) (ys.map fun l => l.map t)
 loop : ∀ k x y xs, t (A.loop k x y xs) = B.loop k (s x) (s y) (xs.map t)
def mapR {α β : Type} (f : α → β) : R α → R β
 | .ok (x, l) => .ok (f x, l)
 | .error e => .error e
theorem pChain_hom {A B : Alg} (h : Hom A B) (lv : Nat) (u : Bs → R A.S) (v : Bs → R B.S) (huv : ∀ l, v l = mapR h.s (u l)) : ∀ m x l, pChain B lv v m (h.s x) l = mapR h.s (pChain A lv u m x l)
 | 0, _, _ => rfl
 | m + 1, x, l => by
  unfold pChain
  cases opOf (tok l) with
  | none => rfl
  | some k =>
   simp only
   by_cases hk : opLevel k = lv
   ·rw [if_pos hk, if_pos hk, huv]
    cases u (next l) with
    | error e => rfl
    | ok yl =>
     obtain ⟨y, l1⟩ := yl
     show pChain B lv v m (B.bin k (h.s x) (h.s y)) l1 = _
     rw [← h.bin]
     exact pChain_hom h lv u v huv m _ _
   ·rw [if_neg hk, if_neg hk]; rfl
theorem pWith_hom {A B : Alg} (h : Hom A B) (lv : Nat) (u : Bs → R A.S) (v : Bs → R B.S) (huv : ∀ l, v l = mapR h.s (u l)) (l : Bs) : pWith B lv v l = mapR h.s (pWith A lv u l) := by
 unfold pWith
 rw [huv]
 cases u l with
 | error e => rfl
 | ok xl => exact pChain_hom h lv u v huv _ _ _
theorem pSum_hom {A B : Alg} (h : Hom A B) (u : Bs → R A.S) (v : Bs → R B.S) (huv : ∀ l, v l = mapR h.s (u l)) (l : Bs) : pSum B v l = mapR h.s (pSum A u l) :=
 pWith_hom h 0 _ _ (pWith_hom h 1 u v huv) l
theorem pUnary_hom {A B : Alg} (h : Hom A B) : ∀ n o l, pUnary B n o l = mapR h.s (pUnary A n o l)
 | 0, _, _ => rfl
 | n + 1, o, l => by
  unfold pUnary
  split
  ·cases numVal (tok l) with
   | none => rfl
   | some v => show (.ok (B.num v, next l) : R B.S) = _; rw [← h.num]; rfl
  ·split
   ·cases pName l with
    | error e => rfl
    | ok kl => show (.ok (B.name kl.1, kl.2) : R B.S) = _; rw [← h.name]; rfl
   ·split
    ·cases enter [45] o l with
     | error e => rfl
     | ok l1 =>
      simp only
      rw [pUnary_hom h n (o + 1) l1]
      cases pUnary A n (o + 1) l1 with
      | error e => rfl
      | ok xl => show (.ok (B.neg (h.s xl.1), xl.2) : R B.S) = _; rw [← h.neg]; rfl
    ·cases enter [40] o l with
     | error e => rfl
     | ok l1 =>
      simp only
      rw [pSum_hom h _ _ (pUnary_hom h n (o + 1)) l1]
      cases pSum A (pUnary A n (o + 1)) l1 with
      | error e => rfl
      | ok xl =>
       show (match take [41] xl.2 with
        | .ok l3 => (.ok (h.s xl.1, l3) : R B.S)
        | .error e => .error e) = mapR h.s (match take [41] xl.2 with
        | .ok l3 => (.ok (xl.1, l3) : R A.S)
        | .error e => .error e)
       cases take [41] xl.2 <;> rfl
theorem pS_hom {A B : Alg} (h : Hom A B) (o : Nat) (l : Bs) : pS B o l = mapR h.s (pS A o l) := pSum_hom h _ _ (pUnary_hom h _ o) l
def mapC {A B : Alg} (h : Hom A B) (c : Nat × A.S × A.S) : Nat × B.S × B.S := (c.1, h.s c.2.1, h.s c.2.2)
theorem pCond_hom {A B : Alg} (h : Hom A B) (o : Nat) (l : Bs) : pCond B o l = mapR (mapC h) (pCond A o l) := by
 unfold pCond
 rw [pS_hom h]
 cases pS A o l with
 | error e => rfl
 | ok xl =>
  show (match relOf (tok xl.2) with
   | some k => (match pS B o (next xl.2) with
    | .ok (y, l2) => (.ok ((k, h.s xl.1, y), l2) : R (Nat × B.S × B.S))
    | .error e => .error e)
   | none => bad 2 xl.2) = mapR (mapC h) (match relOf (tok xl.2) with
   | some k => (match pS A o (next xl.2) with
    | .ok (y, l2) => (.ok ((k, xl.1, y), l2) : R (Nat × A.S × A.S))
    | .error e => .error e)
   | none => bad 2 xl.2)
  cases relOf (tok xl.2) with
  | none => rfl
  | some k =>
   simp only
   rw [pS_hom h]
   cases pS A o (next xl.2) <;> rfl
theorem pMany_hom {A B : Alg} (h : Hom A B) (u : Bs → R A.T) (v : Bs → R B.T) (huv : ∀ l, v l = mapR h.t (u l)) : ∀ m acc l, pMany B v m (acc.map h.t) l = mapR (List.map h.t) (pMany A u m acc l)
 | 0, _, _ => rfl
 | m + 1, acc, l => by
  unfold pMany
  split
  ·rw [huv]
   cases u l with
   | error e => rfl
   | ok xl =>
    show pMany B v m (acc.map h.t ++ [h.t xl.1]) xl.2 = _
    rw [show acc.map h.t ++ [h.t xl.1] = (acc ++ [xl.1]).map h.t by simp]
    exact pMany_hom h u v huv m _ _
  ·rfl
theorem pBlock_hom {A B : Alg} (h : Hom A B) (u : Bs → R A.T) (v : Bs → R B.T) (huv : ∀ l, v l = mapR h.t (u l)) (o : Nat) (l : Bs) : pBlock B v o l = mapR (List.map h.t) (pBlock A u o l) := by
 unfold pBlock
 cases enter [123] o l with
 | error e => rfl
 | ok l1 =>
  simp only
  rw [show pMany B v (l1.length + 1) [] l1 = mapR (List.map h.t) (pMany A u (l1.length + 1) [] l1) from pMany_hom h u v huv _ [] l1]
  cases pMany A u (l1.length + 1) [] l1 with
  | error e => rfl
  | ok xl =>
   show (match take [125] xl.2 with
    | .ok l3 => (.ok (xl.1.map h.t, l3) : R (List B.T))
    | .error e => .error e) = mapR (List.map h.t) (match take [125] xl.2 with
    | .ok l3 => (.ok (xl.1, l3) : R (List A.T))
    | .error e => .error e)
   cases take [125] xl.2 <;> rfl
theorem pStmt_hom {A B : Alg} (h : Hom A B) : ∀ n o l, pStmt B n o l = mapR h.t (pStmt A n o l)
 | 0, _, _ => rfl
 | n + 1, o, l => by
  unfold pStmt
  split
  ·unfold pRead
   cases pName (next l) with
   | error e => rfl
   | ok kl =>
    simp only
    cases take [59] kl.2 with
    | error e => rfl
    | ok l2 => show (.ok (B.read kl.1, l2) : R B.T) = _; rw [← h.read]; rfl
  ·split
   ·unfold pAssert
    rw [pCond_hom h]
    cases pCond A o (next l) with
    | error e => rfl
    | ok cl =>
     obtain ⟨⟨k, x, y⟩, l1⟩ := cl
     show (match take [59] l1 with
      | .ok l2 => (.ok (B.assert k (h.s x) (h.s y), l2) : R B.T)
      | .error e => .error e) = mapR h.t (match take [59] l1 with
      | .ok l2 => (.ok (A.assert k x y, l2) : R A.T)
      | .error e => .error e)
     rw [← h.assert]
     cases take [59] l1 <;> rfl
   ·split
    ·unfold pIf
     rw [pCond_hom h]
     cases pCond A o (next l) with
     | error e => rfl
     | ok cl =>
      obtain ⟨⟨k, x, y⟩, l1⟩ := cl
      show (match pBlock B (pStmt B n (o + 1)) o l1 with
       | .ok (xs, l2) => if tok l2 = wElse then (match pBlock B (pStmt B n (o + 1)) o (next l2) with
         | .ok (ys, l3) => (.ok (B.ite k (h.s x) (h.s y) xs (some ys), l3) : R B.T)
         | .error e => .error e) else .ok (B.ite k (h.s x) (h.s y) xs none, l2)
       | .error e => .error e) = mapR h.t (match pBlock A (pStmt A n (o + 1)) o l1 with
       | .ok (xs, l2) => if tok l2 = wElse then (match pBlock A (pStmt A n (o + 1)) o (next l2) with
         | .ok (ys, l3) => (.ok (A.ite k x y xs (some ys), l3) : R A.T)
         | .error e => .error e) else .ok (A.ite k x y xs none, l2)
       | .error e => .error e)
      rw [pBlock_hom h _ _ (pStmt_hom h n (o + 1))]
      cases pBlock A (pStmt A n (o + 1)) o l1 with
      | error e => rfl
      | ok xl =>
       obtain ⟨xs, l2⟩ := xl
       simp only [mapR]
       by_cases he : tok l2 = wElse
       ·rw [if_pos he, if_pos he, pBlock_hom h _ _ (pStmt_hom h n (o + 1))]
        cases pBlock A (pStmt A n (o + 1)) o (next l2) with
        | error e => rfl
        | ok yl =>
         show (.ok (B.ite k (h.s x) (h.s y) (xs.map h.t) (some (yl.1.map h.t)), yl.2) : R B.T) = .ok (h.t (A.ite k x y xs (some yl.1)), yl.2)
         rw [h.ite]; rfl
       ·rw [if_neg he, if_neg he]
        show (.ok (B.ite k (h.s x) (h.s y) (xs.map h.t) none, l2) : R B.T) = .ok (h.t (A.ite k x y xs none), l2)
        rw [h.ite]; rfl
    ·split
     ·unfold pWhile
      rw [pCond_hom h]
      cases pCond A o (next l) with
      | error e => rfl
      | ok cl =>
       obtain ⟨⟨k, x, y⟩, l1⟩ := cl
       show (match pBlock B (pStmt B n (o + 1)) o l1 with
        | .ok (xs, l2) => (.ok (B.loop k (h.s x) (h.s y) xs, l2) : R B.T)
        | .error e => .error e) = mapR h.t (match pBlock A (pStmt A n (o + 1)) o l1 with
        | .ok (xs, l2) => (.ok (A.loop k x y xs, l2) : R A.T)
        | .error e => .error e)
       rw [pBlock_hom h _ _ (pStmt_hom h n (o + 1))]
       cases pBlock A (pStmt A n (o + 1)) o l1 with
       | error e => rfl
       | ok xl =>
        show (.ok (B.loop k (h.s x) (h.s y) (xl.1.map h.t), xl.2) : R B.T) = .ok (h.t (A.loop k x y xl.1), xl.2)
        rw [h.loop]
     ·unfold pAssign
      cases pName l with
      | error e => rfl
      | ok kl =>
       simp only
       cases take [61] kl.2 with
       | error e => rfl
       | ok l2 =>
        simp only
        rw [pS_hom h]
        cases pS A o l2 with
        | error e => rfl
        | ok xl =>
         show (match take [59] xl.2 with
          | .ok l4 => (.ok (B.assign kl.1 (h.s xl.1), l4) : R B.T)
          | .error e => .error e) = mapR h.t (match take [59] xl.2 with
          | .ok l4 => (.ok (A.assign kl.1 xl.1, l4) : R A.T)
          | .error e => .error e)
         rw [← h.assign]
         cases take [59] xl.2 <;> rfl
theorem parse_hom {A B : Alg} (h : Hom A B) (s : Bs) : parse B s = match parse A s with
  | .ok xs => .ok (xs.map h.t)
  | .error e => .error e := by
 unfold parse
 split
 ·rfl
 ·unfold pProg
  rw [show pMany B (pStmt B ((skip s).length + 1) 0) ((skip s).length + 1) [] (skip s) = mapR (List.map h.t) (pMany A (pStmt A ((skip s).length + 1) 0) ((skip s).length + 1) [] (skip s)) from pMany_hom h _ _ (pStmt_hom h _ 0) _ [] _]
  cases pMany A (pStmt A ((skip s).length + 1) 0) ((skip s).length + 1) [] (skip s) with
  | error e => rfl
  | ok xl =>
   simp only [mapR]
   by_cases hl : xl.2 = []
   ·rw [if_pos hl, if_pos hl]
   ·rw [if_neg hl, if_neg hl]; rfl
end Sp
end Go.Proofs.YtiopfihjmkfdmaaGreatDoor
namespace Go.Proofs.YtiopfihjmkfdmaaGreatDoor
namespace Sp
inductive Sm where
 | num (n : Nat)
 | name (k : Nat)
 | neg (x : Sm)
 | bin (k : Nat) (x y : Sm)
inductive Bl where
 | nil
 | assign (k : Nat) (x : Sm) (rest : Bl)
 | read (k : Nat) (rest : Bl)
 | assert (k : Nat) (x y : Sm) (rest : Bl)
 | ite (k : Nat) (x y : Sm) (xs : Bl) (els : Bool) (ys : Bl) (rest : Bl)
 | loop (k : Nat) (x y : Sm) (xs : Bl) (rest : Bl)
def joinB (fs : List (Bl → Bl)) : Bl := fs.foldr (fun f b => f b) .nil
def Tr : Alg where
 S := Sm
 num := .num
 name := .name
 neg := .neg
 bin := .bin
 T := Bl → Bl
 assign k x := .assign k x
 read k := .read k
 assert k x y := .assert k x y
 ite k x y xs ys := .ite k x y (joinB xs) ys.isSome (joinB (ys.getD []))
 loop k x y xs := .loop k x y (joinB xs)
def foldS (A : Alg) : Sm → A.S
 | .num n => A.num n
 | .name k => A.name k
 | .neg x => A.neg (foldS A x)
 | .bin k x y => A.bin k (foldS A x) (foldS A y)
def tree (src : Bs) : Except (Nat × Nat) Bl := match parse Tr src with
 | .ok fs => .ok (joinB fs)
 | .error e => .error e
end Sp
end Go.Proofs.YtiopfihjmkfdmaaGreatDoor
namespace Go.Proofs.YtiopfihjmkfdmaaGreatDoor
namespace Sp
def cS : Sm → Ct → Ct
 | .num _, ct => ct
 | .name _, ct => ct
 | .neg x, ct => cS x ct
 | .bin k x y, ct => cS y (if 3 ≤ k then siteUp (cS x ct) else cS x ct)
def cB : Bl → Ct → Ct
 | .nil, ct => ct
 | .assign _ x t, ct => cB t (cS x (ptUp ct))
 | .read _ t, ct => cB t (ptUp ct)
 | .assert _ x y t, ct => cB t (cS y (cS x (siteUp (ptUp ct))))
 | .ite _ x y xs els ys t, ct => cB t (if els then cB ys (cB xs (cS y (cS x (ptUp ct)))) else cB xs (cS y (cS x (ptUp ct))))
 | .loop _ x y xs t, ct => cB t (cB xs (cS y (cS x (ptUp ct))))
structure Dom where
 V : Type
 dec : DecidableEq V
 num : Int → V
 whole : V
 neg : V → V
 work : Nat → V → V → Option V
 nought : V → Bool
 join : V → V → V
 may : Nat → V → V → Bool
 bound : Nat → V → V → Option V
 widen : V → V → V
 narrow : V → V → V
 fuel : Nat
abbrev Dom.Env (D : Dom) := Fin 8 → D.V
abbrev Dom.St (D : Dom) := Option D.Env
inductive Tel (V : Type) where
 | point (p : Int) (s : Fin 8 → V)
 | site (q : Int) (bad : Bool)
structure Pol where
 delay : Nat
 narrow : Nat
 unroll : Nat
section
variable (D : Dom)
def jn : D.St → D.St → D.St
 | none, t => t
 | some s, none => some s
 | some s, some t => some fun k => D.join (s k) (t k)
def eachV (f : D.V → D.V → D.V) : D.St → D.St → D.St
 | some s, some t => some fun k => f (s k) (t k)
 | _, _ => none
def eqS (s t : D.St) : Bool := match s, t with
 | none, none => true
 | some s, some t => @decide (∀ k, s k = t k) (@Nat.decidableForallFin 8 (fun k => s k = t k) (fun k => D.dec (s k) (t k)))
 | _, _ => false
theorem eqS_iff (s t : D.St) : eqS D s t = true ↔ s = t := by
 cases s with
 | none => cases t <;> simp [eqS]
 | some s =>
  cases t with
  | none => simp [eqS]
  | some t =>
   unfold eqS
   simp only [decide_eq_true_eq, Option.some.injEq]
   exact ⟨fun h => funext h, fun h k => by rw [h]⟩
def getV (s : D.Env) (k : Nat) : D.V := if h : k < 8 then s ⟨k, h⟩ else D.whole
def setV (s : D.Env) (k : Nat) (v : D.V) : D.Env := fun j => if j.val = k then v else s j
def telP (p : Int) : D.St → List (Tel D.V)
 | none => []
 | some s => [.point p s]
abbrev Res := List (Tel D.V) × D.St
def mirror (r : Nat) : Nat := match r with
 | 0 => 5 | 1 => 4 | 2 => 2 | 3 => 3 | 4 => 1 | _ => 0
def opp (r : Nat) : Nat := match r with
 | 0 => 4 | 1 => 5 | 2 => 3 | 3 => 2 | 4 => 0 | _ => 1
def anS : Sm → Ct → D.Env → List (Tel D.V) × Option D.V
 | .num n, _, _ => ([], some (D.num (n : Int)))
 | .name k, _, s => ([], some (getV D s k))
 | .neg x, ct, s => ((anS x ct s).1, (anS x ct s).2.map D.neg)
 | .bin k x y, ct, s => match anS x ct s with
  | (e, none) => (e, none)
  | (e, some a) => (match anS y (if 3 ≤ k then siteUp (cS x ct) else cS x ct) s with
   | (e', none) => (e ++ e', none)
   | (e', some b) => (e ++ e' ++ (if 3 ≤ k then [.site (cS x ct).2 (D.nought b)] else []), D.work k a b))
def bndV (side : Sm) (r : Nat) (other : D.V) (s : D.St) : D.St := match s with
 | none => none
 | some s => (match side with
  | .name k => (match D.bound r (getV D s k) other with
   | some v => some (setV D s k v)
   | none => none)
  | _ => some s)
def behindV (r : Nat) (x y : Sm) (a b : D.V) (s : D.Env) : D.St :=
 if D.may r a b then bndV D y (mirror r) a (bndV D x r b (some s)) else none
def anC (k : Nat) (x y : Sm) (ct : Ct) : D.St → List (Tel D.V) × D.St × D.St
 | none => ([], none, none)
 | some s => (match anS D x ct s with
  | (e, none) => (e, none, none)
  | (e, some a) => (match anS D y (cS x ct) s with
   | (e', none) => (e ++ e', none, none)
   | (e', some b) => (e ++ e', behindV D k x y a b s, behindV D (opp k) x y a b s)))
def nxtV (cond : D.St → List (Tel D.V) × D.St × D.St) (body : D.St → Res D) (s i : D.St) : D.St := jn D s (body (cond i).2.1).2
def unrF (cond : D.St → List (Tel D.V) × D.St × D.St) (body : D.St → Res D) (p : Int) : Nat → D.St → D.St → List (Tel D.V) × D.St × D.St
 | 0, out, s => ([], out, s)
 | n + 1, out, s =>
  (telP D p s ++ (cond s).1 ++ (body (cond s).2.1).1 ++ (unrF cond body p n (jn D out (cond s).2.2) (body (cond s).2.1).2).1, (unrF cond body p n (jn D out (cond s).2.2) (body (cond s).2.1).2).2)
def fixF (next : D.St → D.St) (delay : Nat) : Nat → Nat → D.St → D.St
 | 0, _, i => i
 | f + 1, k, i => if eqS D (jn D i (next i)) i = true then i else fixF next delay f (k + 1) (if delay < k then eachV D D.widen i (jn D i (next i)) else jn D i (next i))
def narF (next : D.St → D.St) : Nat → D.St → D.St
 | 0, i => i
 | n + 1, i => narF next n (eachV D D.narrow i (next i))
def allV (P : Pol) (cond : D.St → List (Tel D.V) × D.St × D.St) (body : D.St → Res D) (s : D.St) : D.St :=
 narF D (nxtV D cond body s) P.narrow (fixF D (nxtV D cond body s) P.delay D.fuel 1 s)
def anW (P : Pol) (cond : D.St → List (Tel D.V) × D.St × D.St) (body : D.St → Res D) (p : Int) (s : D.St) : Res D :=
 let u := unrF D cond body p P.unroll none s
 let i := allV D P cond body u.2.2
 (u.1 ++ telP D p i ++ (cond i).1 ++ (body (cond i).2.1).1, jn D u.2.1 (cond i).2.2)
def thenR (r : Res D) (f : D.St → Res D) : Res D := (r.1 ++ (f r.2).1, (f r.2).2)
def stP (p : Int) (f : D.Env → Res D) : D.St → Res D
 | none => ([], none)
 | some s => (.point p s :: (f s).1, (f s).2)
def stAssign (k : Nat) (x : Sm) (ct : Ct) (s : D.Env) : Res D := ((anS D x ct s).1, (anS D x ct s).2.map fun v => setV D s k v)
def stRead (k : Nat) (s : D.Env) : Res D := ([], some (setV D s k D.whole))
def stAssert (site : Int) (k : Nat) (x y : Sm) (ct : Ct) (s : D.Env) : Res D := ((anC D k x y ct (some s)).1 ++ [.site site (anC D k x y ct (some s)).2.2.isSome], (anC D k x y ct (some s)).2.1)
def stIf (cond : D.St → List (Tel D.V) × D.St × D.St) (f g : D.St → Res D) (s : D.Env) : Res D :=
 ((cond (some s)).1 ++ (f (cond (some s)).2.1).1 ++ (g (cond (some s)).2.2).1, jn D (f (cond (some s)).2.1).2 (g (cond (some s)).2.2).2)
def anB (P : Pol) : Bl → Ct → D.St → Res D
 | .nil, _, s => ([], s)
 | .assign k x t, ct, s => thenR D (stP D ct.1 (stAssign D k x (ptUp ct)) s) (anB P t (cS x (ptUp ct)))
 | .read k t, ct, s => thenR D (stP D ct.1 (stRead D k) s) (anB P t (ptUp ct))
 | .assert k x y t, ct, s => thenR D (stP D ct.1 (stAssert D ct.2 k x y (siteUp (ptUp ct))) s) (anB P t (cS y (cS x (siteUp (ptUp ct)))))
 | .ite k x y xs true ys t, ct, s => thenR D (stP D ct.1 (stIf D (anC D k x y (ptUp ct)) (anB P xs (cS y (cS x (ptUp ct)))) (anB P ys (cB xs (cS y (cS x (ptUp ct)))))) s) (anB P t (cB ys (cB xs (cS y (cS x (ptUp ct))))))
 | .ite k x y xs false _ t, ct, s => thenR D (stP D ct.1 (stIf D (anC D k x y (ptUp ct)) (anB P xs (cS y (cS x (ptUp ct)))) (fun s => ([], s))) s) (anB P t (cB xs (cS y (cS x (ptUp ct)))))
 | .loop k x y xs t, ct, s => thenR D (stP D ct.1 (fun s => anW D P (anC D k x y (ptUp ct)) (anB P xs (cS y (cS x (ptUp ct)))) ct.1 (some s)) s) (anB P t (cB xs (cS y (cS x (ptUp ct)))))
abbrev Found := List (D.St) × List Nat
def tell1 (F : Found D) : Tel D.V → Found D
 | .point p s => (F.1.modify p.toNat (fun f => jn D f (some s)), F.2)
 | .site q bad => (F.1, F.2.modify q.toNat (fun n => max n (if bad then 2 else 1)))
def tell (F : Found D) (es : List (Tel D.V)) : Found D := es.foldl (tell1 D) F
def reportOf (P : Pol) (t : Bl) : Found D :=
 let r := anB D P t (0, 0) (some fun _ => D.num 0)
 tell D (List.replicate ((cB t (0, 0)).1 + 1).toNat none, List.replicate (cB t (0, 0)).2.toNat 0) (r.1 ++ telP D (cB t (0, 0)).1 r.2)
end
structure Iv where
 a : Int
 b : Int
deriving DecidableEq
def ivWhole : Iv := ⟨-32768, 32767⟩
def hull2 (a b : Int) : Iv := if a < -32768 ∨ 32767 < b then ivWhole else ⟨a, b⟩
def minL : List Int → Int
 | [] => 0
 | x :: xs => xs.foldl min x
def maxL : List Int → Int
 | [] => 0
 | x :: xs => xs.foldl max x
def hullL (l : List Int) : Iv := hull2 (minL l) (maxL l)
def besides (y : Iv) : List Int := (if y.a < 0 then [y.a, min y.b (-1)] else []) ++ (if 0 < y.b then [max y.a 1, y.b] else [])
def ivDivide (x y : Iv) : Option Iv := if besides y = [] then none else some (hullL ((besides y).flatMap fun q => [x.a.tdiv q, x.b.tdiv q]))
def ivRest (x y : Iv) : Option Iv := if max (-y.a) y.b - 1 < 0 then none else some (hull2 (min (max x.a (-(max (-y.a) y.b - 1))) 0) (max (min x.b (max (-y.a) y.b - 1)) 0))
def ivWork (k : Nat) (x y : Iv) : Option Iv :=
 if k = 0 then some (hull2 (x.a + y.a) (x.b + y.b)) else if k = 1 then some (hull2 (x.a - y.b) (x.b - y.a))
 else if k = 2 then some (hullL [x.a * y.a, x.a * y.b, x.b * y.a, x.b * y.b])
 else if k = 3 then ivDivide x y else ivRest x y
def ivMeet (x y : Iv) : Option Iv := if max x.a y.a ≤ min x.b y.b then some ⟨max x.a y.a, min x.b y.b⟩ else none
def ivMay (r : Nat) (x y : Iv) : Bool :=
 if r = 0 then decide (x.a < y.b) else if r = 1 then decide (x.a ≤ y.b) else if r = 2 then (ivMeet x y).isSome
 else if r = 3 then !(decide (x = y) && decide (x.a = x.b)) else if r = 4 then decide (y.a ≤ x.b) else decide (y.a < x.b)
def ivBelow (x : Iv) (n : Int) : Option Iv := if n = -32768 then none else ivMeet x ⟨-32768, n - 1⟩
def ivAbove (x : Iv) (n : Int) : Option Iv := if n = 32767 then none else ivMeet x ⟨n + 1, 32767⟩
def ivBeside (x right : Iv) : Option Iv := if right.a ≠ right.b then some x else if x.a = right.a then ivAbove x right.a else if x.b = right.b then ivBelow x right.b else some x
def ivBound (r : Nat) (x right : Iv) : Option Iv :=
 if r = 0 then ivBelow x right.b else if r = 1 then ivMeet x ⟨-32768, right.b⟩ else if r = 2 then ivMeet x right else if r = 3 then ivBeside x right
 else if r = 4 then ivMeet x ⟨right.a, 32767⟩ else ivAbove x right.a
def stepBelow (steps : List Int) (n : Int) : Int := steps.foldl (fun st s => if s ≤ n then max st s else st) (-32768)
def stepAbove (steps : List Int) (n : Int) : Int := steps.foldl (fun st s => if n ≤ s then min st s else st) 32767
def ivWiden (steps : List Int) (x y : Iv) : Iv := ⟨if y.a < x.a then stepBelow steps y.a else x.a, if x.b < y.b then stepAbove steps y.b else x.b⟩
def ivNarrow (x y : Iv) : Iv := ⟨if x.a = -32768 then y.a else x.a, if x.b = 32767 then y.b else x.b⟩
def ivDom (steps : List Int) : Dom where
 V := Iv
 dec := inferInstance
 num n := ⟨n, n⟩
 whole := ivWhole
 neg x := hull2 (-x.b) (-x.a)
 work := ivWork
 nought x := decide (x.a ≤ 0) && decide (0 ≤ x.b)
 join x y := ⟨min x.a y.a, max x.b y.b⟩
 may := ivMay
 bound := ivBound
 widen := ivWiden steps
 narrow := ivNarrow
 fuel := 1100000
def nuS : Sm → List Int
 | .num n => [(n : Int)]
 | .name _ => []
 | .neg x => nuS x
 | .bin _ x y => nuS x ++ nuS y
def nuB : Bl → List Int
 | .nil => []
 | .assign _ x rest => nuS x ++ nuB rest
 | .read _ rest => nuB rest
 | .assert _ x y rest => nuS x ++ nuS y ++ nuB rest
 | .ite _ x y xs _ ys rest => nuS x ++ nuS y ++ nuB xs ++ nuB ys ++ nuB rest
 | .loop _ x y xs rest => nuS x ++ nuS y ++ nuB xs ++ nuB rest
end Sp
end Go.Proofs.YtiopfihjmkfdmaaGreatDoor
