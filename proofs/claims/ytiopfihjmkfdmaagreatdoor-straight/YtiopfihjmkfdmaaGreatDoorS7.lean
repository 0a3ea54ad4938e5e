import Derived.Test.YtiopfihjmkfdmaaGreatDoorS4
import Derived.Maps.AppendAt
import Derived.OwnWalk
namespace Go.Proofs.YtiopfihjmkfdmaaGreatDoor
open Go.RowKit
set_option maxRecDepth 100000
set_option maxHeartbeats 400000
def rnCells (vv : Value) (stop : Int) (st : List Int) (iv : Value) (fuel : Nat) : Array Value :=
 #[vv, .int .i64 stop, .int .i16 (st.getD 0 0), .int .i16 (st.getD 1 0), .int .i16 (st.getD 2 0), .int .i16 (st.getD 3 0), .int .i16 (st.getD 4 0), .int .i16 (st.getD 5 0), .int .i16 (st.getD 6 0), .int .i16 (st.getD 7 0), iv, .int .i64 (fuel : Int)]
def visCell (x : Int × List Int) : List Value := [.int .i64 x.1, .int .i16 (x.2.getD 0 0), .int .i16 (x.2.getD 1 0), .int .i16 (x.2.getD 2 0), .int .i16 (x.2.getD 3 0), .int .i16 (x.2.getD 4 0), .int .i16 (x.2.getD 5 0), .int .i16 (x.2.getD 6 0), .int .i16 (x.2.getD 7 0)]
def visCells (vis : List (Int × List Int)) : List Value := (vis.map visCell).flatten
def InAt (base : Nat) (w : World) (v : Value) (l : List Int) : Prop :=
 (∃ a c, v = .slice a 0 c ∧ l = []) ∨ ∃ g off cap, v = .slice (some ⟨g, off, none⟩) l.length cap ∧ g < base ∧ l.length ≤ cap ∧ ∀ i n, l[i]? = some n → w.cell? ⟨g, off + i, none⟩ = some (.int .i16 n)
def RunAt (base b : Nat) (stop : Int) (r : Sp.Rst) (w : World) : Prop :=
 ∃ vv iv, w.heap[b]? = some (.cells (rnCells vv stop r.st iv r.fuel) 181) ∧ w.ownsRow base 80 9 vv r.vis.length (visCells r.vis) ∧ InAt base w iv r.ins ∧ base ≤ b ∧ r.st.length = 8 ∧ r.vis.length + r.fuel ≤ 500
structure RKeep (base b : Nat) (w w' : World) : Prop where
 below : Below base w w'
 others : ∀ k, k < w.heap.size → k ≠ b → (∀ c fz, w.heap[k]? ≠ some (.cells c 80 fz)) → w'.heap[k]? = w.heap[k]?
theorem below_alloc1 (w : World) (o : Obj) : Below w.heap.size w (w.alloc o) := (Below.refl _ _).alloc (Nat.le_refl _) o
theorem RKeep.refl (B b : Nat) (w : World) : RKeep B b w w := ⟨Below.refl _ _, fun _ _ _ _ => rfl⟩
theorem RKeep.trans {B b : Nat} {w1 w2 w3 : World} (h : RKeep B b w1 w2) (k : RKeep B b w2 w3) : RKeep B b w1 w3 :=
 ⟨h.below.trans k.below, fun i hi hb hn => by
  have e := h.others i hi hb hn
  rw [k.others i (Nat.lt_of_lt_of_le hi h.below.size) hb (by rw [e]; exact hn), e]⟩
theorem RKeep.of_below {B b : Nat} {w w' : World} (h : Below w.heap.size w w') (hB : B ≤ w.heap.size) : RKeep B b w w' :=
 ⟨h.mono hB, fun k hk _ _ => h.block k hk⟩
theorem RKeep.alloc {B b : Nat} {w w' : World} (h : RKeep B b w w') (hB : B ≤ w.heap.size) (o : Obj) : RKeep B b w (w'.alloc o) := by
 have hs := h.below.size
 exact ⟨h.below.alloc (by omega) o, fun k hk hb hn => by rw [Below.heap_alloc _ _ _ (by omega)]; exact h.others k hk hb hn⟩
theorem RKeep.drew {B b : Nat} {w w' : World} (h : RKeep B b w w') : RKeep B b w w'.drew := ⟨h.below.drew, h.others⟩
theorem RKeep.setB {B b : Nat} {w w' : World} (h : RKeep B b w w') (hB : B ≤ b) (i : Nat) (u : Value) : RKeep B b w (w'.setCell ⟨b, i, none⟩ u) :=
 ⟨h.below.setCell (p := ⟨b, i, none⟩) hB u, fun k hk hb hn => by rw [Below.heap_setCell _ _ _ _ hb]; exact h.others k hk hb hn⟩
theorem RKeep.cell {B b : Nat} {w w' : World} (h : RKeep B b w w') {k : Nat} {c : Array Value} {e : TypeId} {fz : Nat × Nat} (hk : w.heap[k]? = some (.cells c e fz)) (hb : k ≠ b) (he : e ≠ 80) : w'.heap[k]? = some (.cells c e fz) := by
 rw [h.others k (heap_lt hk) hb (fun c' fz' e' => by rw [hk] at e'; cases e'; exact he rfl)]; exact hk
theorem InAt.below {base : Nat} {w w' : World} {v : Value} {l : List Int} (h : InAt base w v l) (hb : Below base w w') : InAt base w' v l := by
 rcases h with h | ⟨g, off, cap, h1, h2, h3, h4⟩
 ·exact .inl h
 ·exact .inr ⟨g, off, cap, h1, h2, h3, fun i n hn => by rw [hb.cell (p := ⟨g, off + i, none⟩) h2]; exact h4 i n hn⟩
theorem ownsRow9_keep {base n : Nat} {e : TypeId} {sz : Nat} {w w' : World} {v : Value} {vs : List Value} (h : w.ownsRow base e sz v n vs) (hk : ∀ g, v.ownBlock = some g → w'.heap[g]? = w.heap[g]?) : w'.ownsRow base e sz v n vs := by
 obtain ⟨h1, h2⟩ := h
 refine ⟨h1, ?_⟩
 rcases h2 with h2 | ⟨g, cap, cur, rfl, hg, hh, r⟩
 ·exact .inl h2
 ·exact .inr ⟨g, cap, cur, rfl, hg, by rw [hk g rfl]; exact hh, r⟩
theorem ownsRow9_lt {base n : Nat} {e : TypeId} {sz : Nat} {w : World} {v : Value} {vs : List Value} (h : w.ownsRow base e sz v n vs) : ∀ g, v.ownBlock = some g → base ≤ g ∧ g < w.heap.size ∧ ∃ c, w.heap[g]? = some (.cells c e) := by
 intro g hg
 rcases h.2 with ⟨rfl, _⟩ | ⟨g', cap, cur, rfl, hb, hh, _⟩
 ·simp [Value.ownBlock] at hg
 ·simp [Value.ownBlock] at hg
  subst hg
  exact ⟨hb, heap_lt hh, cur, hh⟩
theorem RunAt.lt {base b : Nat} {stop : Int} {r : Sp.Rst} {w : World} (h : RunAt base b stop r w) : b < w.heap.size := by
 obtain ⟨vv, iv, h1, _⟩ := h; exact heap_lt h1
theorem RunAt.ge {base b : Nat} {stop : Int} {r : Sp.Rst} {w : World} (h : RunAt base b stop r w) : base ≤ b := by
 obtain ⟨vv, iv, _, _, _, h4, _⟩ := h; exact h4
theorem RunAt.le {base b : Nat} {stop : Int} {r : Sp.Rst} {w : World} (h : RunAt base b stop r w) : base ≤ w.heap.size := by
 have := h.lt; have := h.ge; omega
theorem RunAt.below {base b : Nat} {stop : Int} {r : Sp.Rst} {w w' : World} (h : RunAt base b stop r w) (hb : Below w.heap.size w w') : RunAt base b stop r w' := by
 have hle := h.le
 obtain ⟨vv, iv, h1, h2, h3, h4, h5⟩ := h
 refine ⟨vv, iv, by rw [hb.block b (heap_lt h1)]; exact h1, ownsRow9_keep h2 (fun g hg => hb.block g (ownsRow9_lt h2 g hg).2.1), h3.below (hb.mono hle), h4, h5⟩
theorem RunAt.row_ne {base b : Nat} {w : World} {vv iv : Value} {stop : Int} {st : List Int} {fuel n : Nat} {vs : List Value} (h : w.heap[b]? = some (.cells (rnCells vv stop st iv fuel) 181)) (ho : w.ownsRow base 80 9 vv n vs) : ∀ g, vv.ownBlock = some g → g ≠ b := by
 intro g hg e
 obtain ⟨_, _, c, hc⟩ := ownsRow9_lt ho g hg
 rw [e, h] at hc
 cases hc
end Go.Proofs.YtiopfihjmkfdmaaGreatDoor
namespace Go.Proofs.YtiopfihjmkfdmaaGreatDoor
open Go.RowKit
set_option maxRecDepth 100000
set_option maxHeartbeats 2000000
def SidesPost (base b : Nat) (r : Sp.Rst) (w : World) : Except Int (Int × Int) → Ending → World → Prop
 | .ok (x, y), e, w' => e = .returned (.tuple #[.int .i16 x, .int .i16 y, .bool true]) ∧ RunAt base b 0 r w' ∧ RKeep base b w w'
 | .error s, e, w' => ∃ m n, e = .returned (.tuple #[.int .i16 m, .int .i16 n, .bool false]) ∧ RunAt base b s r w' ∧ RKeep base b w w'
def CondPost (base b : Nat) (r : Sp.Rst) (w : World) : Except Int Bool → Ending → World → Prop
 | .ok h, e, w' => e = .returned (.tuple #[.bool h, .bool true]) ∧ RunAt base b 0 r w' ∧ RKeep base b w w'
 | .error s, e, w' => ∃ h, e = .returned (.tuple #[.bool h, .bool false]) ∧ RunAt base b s r w' ∧ RKeep base b w w'
end Go.Proofs.YtiopfihjmkfdmaaGreatDoor
namespace Go.Proofs.YtiopfihjmkfdmaaGreatDoor
namespace Sp
structure Hom (A B : Alg) where
 s : A.S → B.S
 t : A.T → B.T
 num : ∀ n, s (A.num n) = B.num n
 name : ∀ k, s (A.name k) = B.name k
 neg : ∀ x, s (A.neg x) = B.neg (s x)
 bin : ∀ k x y, s (A.bin k x y) = B.bin k (s x) (s y)
 assign : ∀ k x, t (A.assign k x) = B.assign k (s x)
 read : ∀ k, t (A.read k) = B.read k
 assert : ∀ k x y, t (A.assert k x y) = B.assert k (s x) (s y)
 ite : ∀ k x y xs ys, t (A.ite k x y xs ys) = B.ite k (s x) (s y) (xs.map t) (ys.map fun l => l.map t)
 loop : ∀ k x y xs, t (A.loop k x y xs) = B.loop k (s x) (s y) (xs.map t)
def mapR {α β : Type} (f : α → β) : R α → R β
 | .ok (x, l) => .ok (f x, l)
 | .error e => .error e
theorem pChain_hom {A B : Alg} (h : Hom A B) (lv : Nat) (u : Bs → R A.S) (v : Bs → R B.S) (huv : ∀ l, v l = mapR h.s (u l)) : ∀ m x l, pChain B lv v m (h.s x) l = mapR h.s (pChain A lv u m x l)
 | 0, _, _ => rfl
 | m + 1, x, l => by
  unfold pChain
  cases opOf (tok l) with
  | none => rfl
  | some k =>
   simp only
   by_cases hk : opLevel k = lv
   ·rw [if_pos hk, if_pos hk, huv]
    cases u (next l) with
    | error e => rfl
    | ok yl =>
     obtain ⟨y, l1⟩ := yl
     show pChain B lv v m (B.bin k (h.s x) (h.s y)) l1 = _
     rw [← h.bin]
     exact pChain_hom h lv u v huv m _ _
   ·rw [if_neg hk, if_neg hk]; rfl
theorem pWith_hom {A B : Alg} (h : Hom A B) (lv : Nat) (u : Bs → R A.S) (v : Bs → R B.S) (huv : ∀ l, v l = mapR h.s (u l)) (l : Bs) : pWith B lv v l = mapR h.s (pWith A lv u l) := by
 unfold pWith
 rw [huv]
 cases u l with
 | error e => rfl
 | ok xl => exact pChain_hom h lv u v huv _ _ _
theorem pSum_hom {A B : Alg} (h : Hom A B) (u : Bs → R A.S) (v : Bs → R B.S) (huv : ∀ l, v l = mapR h.s (u l)) (l : Bs) : pSum B v l = mapR h.s (pSum A u l) :=
 pWith_hom h 0 _ _ (pWith_hom h 1 u v huv) l
theorem pUnary_hom {A B : Alg} (h : Hom A B) : ∀ n o l, pUnary B n o l = mapR h.s (pUnary A n o l)
 | 0, _, _ => rfl
 | n + 1, o, l => by
  unfold pUnary
  split
  ·cases numVal (tok l) with
   | none => rfl
   | some v => show (.ok (B.num v, next l) : R B.S) = _; rw [← h.num]; rfl
  ·split
   ·cases pName l with
    | error e => rfl
    | ok kl => show (.ok (B.name kl.1, kl.2) : R B.S) = _; rw [← h.name]; rfl
   ·split
    ·cases enter [45] o l with
     | error e => rfl
     | ok l1 =>
      simp only
      rw [pUnary_hom h n (o + 1) l1]
      cases pUnary A n (o + 1) l1 with
      | error e => rfl
      | ok xl => show (.ok (B.neg (h.s xl.1), xl.2) : R B.S) = _; rw [← h.neg]; rfl
    ·cases enter [40] o l with
     | error e => rfl
     | ok l1 =>
      simp only
      rw [pSum_hom h _ _ (pUnary_hom h n (o + 1)) l1]
      cases pSum A (pUnary A n (o + 1)) l1 with
      | error e => rfl
      | ok xl =>
       show (match take [41] xl.2 with
        | .ok l3 => (.ok (h.s xl.1, l3) : R B.S)
        | .error e => .error e) = mapR h.s (match take [41] xl.2 with
        | .ok l3 => (.ok (xl.1, l3) : R A.S)
        | .error e => .error e)
       cases take [41] xl.2 <;> rfl
theorem pS_hom {A B : Alg} (h : Hom A B) (o : Nat) (l : Bs) : pS B o l = mapR h.s (pS A o l) := pSum_hom h _ _ (pUnary_hom h _ o) l
def mapC {A B : Alg} (h : Hom A B) (c : Nat × A.S × A.S) : Nat × B.S × B.S := (c.1, h.s c.2.1, h.s c.2.2)
theorem pCond_hom {A B : Alg} (h : Hom A B) (o : Nat) (l : Bs) : pCond B o l = mapR (mapC h) (pCond A o l) := by
 unfold pCond
 rw [pS_hom h]
 cases pS A o l with
 | error e => rfl
 | ok xl =>
  show (match relOf (tok xl.2) with
   | some k => (match pS B o (next xl.2) with
    | .ok (y, l2) => (.ok ((k, h.s xl.1, y), l2) : R (Nat × B.S × B.S))
    | .error e => .error e)
   | none => bad 2 xl.2) = mapR (mapC h) (match relOf (tok xl.2) with
   | some k => (match pS A o (next xl.2) with
    | .ok (y, l2) => (.ok ((k, xl.1, y), l2) : R (Nat × A.S × A.S))
    | .error e => .error e)
   | none => bad 2 xl.2)
  cases relOf (tok xl.2) with
  | none => rfl
  | some k =>
   simp only
   rw [pS_hom h]
   cases pS A o (next xl.2) <;> rfl
theorem pMany_hom {A B : Alg} (h : Hom A B) (u : Bs → R A.T) (v : Bs → R B.T) (huv : ∀ l, v l = mapR h.t (u l)) : ∀ m acc l, pMany B v m (acc.map h.t) l = mapR (List.map h.t) (pMany A u m acc l)
 | 0, _, _ => rfl
 | m + 1, acc, l => by
  unfold pMany
  split
  ·rw [huv]
   cases u l with
   | error e => rfl
   | ok xl =>
    show pMany B v m (acc.map h.t ++ [h.t xl.1]) xl.2 = _
    rw [show acc.map h.t ++ [h.t xl.1] = (acc ++ [xl.1]).map h.t by simp]
    exact pMany_hom h u v huv m _ _
  ·rfl
theorem pBlock_hom {A B : Alg} (h : Hom A B) (u : Bs → R A.T) (v : Bs → R B.T) (huv : ∀ l, v l = mapR h.t (u l)) (o : Nat) (l : Bs) : pBlock B v o l = mapR (List.map h.t) (pBlock A u o l) := by
 unfold pBlock
 cases enter [123] o l with
 | error e => rfl
 | ok l1 =>
  simp only
  rw [show pMany B v (l1.length + 1) [] l1 = mapR (List.map h.t) (pMany A u (l1.length + 1) [] l1) from pMany_hom h u v huv _ [] l1]
  cases pMany A u (l1.length + 1) [] l1 with
  | error e => rfl
  | ok xl =>
   show (match take [125] xl.2 with
    | .ok l3 => (.ok (xl.1.map h.t, l3) : R (List B.T))
    | .error e => .error e) = mapR (List.map h.t) (match take [125] xl.2 with
    | .ok l3 => (.ok (xl.1, l3) : R (List A.T))
    | .error e => .error e)
   cases take [125] xl.2 <;> rfl
theorem pStmt_hom {A B : Alg} (h : Hom A B) : ∀ n o l, pStmt B n o l = mapR h.t (pStmt A n o l)
 | 0, _, _ => rfl
 | n + 1, o, l => by
  unfold pStmt
  split
  ·unfold pRead
   cases pName (next l) with
   | error e => rfl
   | ok kl =>
    simp only
    cases take [59] kl.2 with
    | error e => rfl
    | ok l2 => show (.ok (B.read kl.1, l2) : R B.T) = _; rw [← h.read]; rfl
  ·split
   ·unfold pAssert
    rw [pCond_hom h]
    cases pCond A o (next l) with
    | error e => rfl
    | ok cl =>
     obtain ⟨⟨k, x, y⟩, l1⟩ := cl
     show (match take [59] l1 with
      | .ok l2 => (.ok (B.assert k (h.s x) (h.s y), l2) : R B.T)
      | .error e => .error e) = mapR h.t (match take [59] l1 with
      | .ok l2 => (.ok (A.assert k x y, l2) : R A.T)
      | .error e => .error e)
     rw [← h.assert]
     cases take [59] l1 <;> rfl
   ·split
    ·unfold pIf
     rw [pCond_hom h]
     cases pCond A o (next l) with
     | error e => rfl
     | ok cl =>
      obtain ⟨⟨k, x, y⟩, l1⟩ := cl
      show (match pBlock B (pStmt B n (o + 1)) o l1 with
       | .ok (xs, l2) => if tok l2 = wElse then (match pBlock B (pStmt B n (o + 1)) o (next l2) with
         | .ok (ys, l3) => (.ok (B.ite k (h.s x) (h.s y) xs (some ys), l3) : R B.T)
         | .error e => .error e) else .ok (B.ite k (h.s x) (h.s y) xs none, l2)
       | .error e => .error e) = mapR h.t (match pBlock A (pStmt A n (o + 1)) o l1 with
       | .ok (xs, l2) => if tok l2 = wElse then (match pBlock A (pStmt A n (o + 1)) o (next l2) with
         | .ok (ys, l3) => (.ok (A.ite k x y xs (some ys), l3) : R A.T)
         | .error e => .error e) else .ok (A.ite k x y xs none, l2)
       | .error e => .error e)
      rw [pBlock_hom h _ _ (pStmt_hom h n (o + 1))]
      cases pBlock A (pStmt A n (o + 1)) o l1 with
      | error e => rfl
      | ok xl =>
       obtain ⟨xs, l2⟩ := xl
       simp only [mapR]
       by_cases he : tok l2 = wElse
       ·rw [if_pos he, if_pos he, pBlock_hom h _ _ (pStmt_hom h n (o + 1))]
        cases pBlock A (pStmt A n (o + 1)) o (next l2) with
        | error e => rfl
        | ok yl =>
         show (.ok (B.ite k (h.s x) (h.s y) (xs.map h.t) (some (yl.1.map h.t)), yl.2) : R B.T) = .ok (h.t (A.ite k x y xs (some yl.1)), yl.2)
         rw [h.ite]; rfl
       ·rw [if_neg he, if_neg he]
        show (.ok (B.ite k (h.s x) (h.s y) (xs.map h.t) none, l2) : R B.T) = .ok (h.t (A.ite k x y xs none), l2)
        rw [h.ite]; rfl
    ·split
     ·unfold pWhile
      rw [pCond_hom h]
      cases pCond A o (next l) with
      | error e => rfl
      | ok cl =>
       obtain ⟨⟨k, x, y⟩, l1⟩ := cl
       show (match pBlock B (pStmt B n (o + 1)) o l1 with
        | .ok (xs, l2) => (.ok (B.loop k (h.s x) (h.s y) xs, l2) : R B.T)
        | .error e => .error e) = mapR h.t (match pBlock A (pStmt A n (o + 1)) o l1 with
        | .ok (xs, l2) => (.ok (A.loop k x y xs, l2) : R A.T)
        | .error e => .error e)
       rw [pBlock_hom h _ _ (pStmt_hom h n (o + 1))]
       cases pBlock A (pStmt A n (o + 1)) o l1 with
       | error e => rfl
       | ok xl =>
        show (.ok (B.loop k (h.s x) (h.s y) (xl.1.map h.t), xl.2) : R B.T) = .ok (h.t (A.loop k x y xl.1), xl.2)
        rw [h.loop]
     ·unfold pAssign
      cases pName l with
      | error e => rfl
      | ok kl =>
       simp only
       cases take [61] kl.2 with
       | error e => rfl
       | ok l2 =>
        simp only
        rw [pS_hom h]
        cases pS A o l2 with
        | error e => rfl
        | ok xl =>
         show (match take [59] xl.2 with
          | .ok l4 => (.ok (B.assign kl.1 (h.s xl.1), l4) : R B.T)
          | .error e => .error e) = mapR h.t (match take [59] xl.2 with
          | .ok l4 => (.ok (A.assign kl.1 xl.1, l4) : R A.T)
          | .error e => .error e)
         rw [← h.assign]
         cases take [59] xl.2 <;> rfl
theorem parse_hom {A B : Alg} (h : Hom A B) (s : Bs) : parse B s = match parse A s with
  | .ok xs => .ok (xs.map h.t)
  | .error e => .error e := by
 unfold parse
 split
 ·rfl
 ·unfold pProg
  rw [show pMany B (pStmt B ((skip s).length + 1) 0) ((skip s).length + 1) [] (skip s) = mapR (List.map h.t) (pMany A (pStmt A ((skip s).length + 1) 0) ((skip s).length + 1) [] (skip s)) from pMany_hom h _ _ (pStmt_hom h _ 0) _ [] _]
  cases pMany A (pStmt A ((skip s).length + 1) 0) ((skip s).length + 1) [] (skip s) with
  | error e => rfl
  | ok xl =>
   simp only [mapR]
   by_cases hl : xl.2 = []
   ·rw [if_pos hl, if_pos hl]
   ·rw [if_neg hl, if_neg hl]; rfl
end Sp
end Go.Proofs.YtiopfihjmkfdmaaGreatDoor
