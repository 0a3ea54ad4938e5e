import Derived.Test.YtiopfihjmkfdmaaGreatDoorX1
namespace Go.Proofs.YtiopfihjmkfdmaaGreatDoor
namespace Sp
structure Hom (A B:Alg) where
 s:A.S→B.S
 t:A.T→B.T
 num:∀ n,s (A.num n)=B.num n
 name:∀ k,s (A.name k)=B.name k
 neg:∀ x,s (A.neg x)=B.neg (s x)
 bin:∀ k x y,s (A.bin k x y)=B.bin k (s x) (s y)
 assign:∀ k x,t (A.assign k x)=B.assign k (s x)
 read:∀ k,t (A.read k)=B.read k
 assert:∀ k x y,t (A.assert k x y)=B.assert k (s x) (s y)
 ite:∀ k x y xs ys,t (A.ite k x y xs ys)=B.ite k (s x) (s y) (xs.map t) (ys.map fun l=>l.map t)
 loop:∀ k x y xs,t (A.loop k x y xs)=B.loop k (s x) (s y) (xs.map t)
def mapR {α β:Type} (f:α→β):R α→R β
 | .ok (x,l)=>.ok (f x,l)
 | .error e=>.error e
theorem pChain_hom {A B:Alg} (h:Hom A B) (lv:Nat) (u:Bs→R A.S) (v:Bs→R B.S) (huv:∀ l,v l=mapR h.s (u l)):∀ m x l,pChain B lv v m (h.s x) l=mapR h.s (pChain A lv u m x l)
 | 0,_,_=>rfl
 | m + 1,x,l=>by
  unfold pChain
  cases opOf (tok l) with
  | none=>rfl
  | some k =>
   simp only
   by_cases hk:opLevel k=lv
   ·rw [if_pos hk,if_pos hk,huv]
    cases u (next l) with
    | error e=>rfl
    | ok yl =>
     obtain ⟨y,l1⟩:=yl
     show pChain B lv v m (B.bin k (h.s x) (h.s y)) l1=_
     rw [← h.bin]
     exact pChain_hom h lv u v huv m _ _
   ·rw [if_neg hk,if_neg hk]; rfl
theorem pWith_hom {A B:Alg} (h:Hom A B) (lv:Nat) (u:Bs→R A.S) (v:Bs→R B.S) (huv:∀ l,v l=mapR h.s (u l)) (l:Bs):pWith B lv v l=mapR h.s (pWith A lv u l):=by
 unfold pWith
 rw [huv]
 cases u l with
 | error e=>rfl
 | ok xl=>exact pChain_hom h lv u v huv _ _ _
theorem pSum_hom {A B:Alg} (h:Hom A B) (u:Bs→R A.S) (v:Bs→R B.S) (huv:∀ l,v l=mapR h.s (u l)) (l:Bs):pSum B v l=mapR h.s (pSum A u l) :=
 pWith_hom h 0 _ _ (pWith_hom h 1 u v huv) l
theorem pUnary_hom {A B:Alg} (h:Hom A B):∀ n o l,pUnary B n o l=mapR h.s (pUnary A n o l)
 | 0,_,_=>rfl
 | n + 1,o,l=>by
  unfold pUnary
  split
  ·cases numVal (tok l) with
   | none=>rfl
   | some v=>show (.ok (B.num v,next l):R B.S)=_; rw [← h.num]; rfl
  ·split
   ·cases pName l with
    | error e=>rfl
    | ok kl=>show (.ok (B.name kl.1,kl.2):R B.S)=_; rw [← h.name]; rfl
   ·split
    ·cases enter [45] o l with
     | error e=>rfl
     | ok l1 =>
      simp only
      rw [pUnary_hom h n (o + 1) l1]
      cases pUnary A n (o + 1) l1 with
      | error e=>rfl
      | ok xl=>show (.ok (B.neg (h.s xl.1),xl.2):R B.S)=_; rw [← h.neg]; rfl
    ·cases enter [40] o l with
     | error e=>rfl
     | ok l1 =>
      simp only
      rw [pSum_hom h _ _ (pUnary_hom h n (o + 1)) l1]
      cases pSum A (pUnary A n (o + 1)) l1 with
      | error e=>rfl
      | ok xl =>
       show (match take [41] xl.2 with
        | .ok l3=>(.ok (h.s xl.1,l3):R B.S)
        | .error e=>.error e)=mapR h.s (match take [41] xl.2 with
        | .ok l3=>(.ok (xl.1,l3):R A.S)
        | .error e=>.error e)
       cases take [41] xl.2 <;> rfl
theorem pS_hom {A B:Alg} (h:Hom A B) (o:Nat) (l:Bs):pS B o l=mapR h.s (pS A o l):=pSum_hom h _ _ (pUnary_hom h _ o) l
def mapC {A B:Alg} (h:Hom A B) (c:Nat × A.S × A.S):Nat × B.S × B.S:=(c.1,h.s c.2.1,h.s c.2.2)
theorem pCond_hom {A B:Alg} (h:Hom A B) (o:Nat) (l:Bs):pCond B o l=mapR (mapC h) (pCond A o l):=by
 unfold pCond
 rw [pS_hom h]
 cases pS A o l with
 | error e=>rfl
 | ok xl =>
  show (match relOf (tok xl.2) with
   | some k=>(match pS B o (next xl.2) with
    | .ok (y,l2)=>(.ok ((k,h.s xl.1,y),l2):R (Nat × B.S × B.S))
    | .error e=>.error e)
   | none=>bad 2 xl.2)=mapR (mapC h) (match relOf (tok xl.2) with
   | some k=>(match pS A o (next xl.2) with
    | .ok (y,l2)=>(.ok ((k,xl.1,y),l2):R (Nat × A.S × A.S))
    | .error e=>.error e)
   | none=>bad 2 xl.2)
  cases relOf (tok xl.2) with
  | none=>rfl
  | some k =>
   simp only
   rw [pS_hom h]
   cases pS A o (next xl.2) <;> rfl
theorem pMany_hom {A B:Alg} (h:Hom A B) (u:Bs→R A.T) (v:Bs→R B.T) (huv:∀ l,v l=mapR h.t (u l)):∀ m acc l,pMany B v m (acc.map h.t) l=mapR (List.map h.t) (pMany A u m acc l)
 | 0,_,_=>rfl
 | m + 1,acc,l=>by
  unfold pMany
  split
  ·rw [huv]
   cases u l with
   | error e=>rfl
   | ok xl =>
    show pMany B v m (acc.map h.t ++ [h.t xl.1]) xl.2=_
    rw [show acc.map h.t ++ [h.t xl.1]=(acc ++ [xl.1]).map h.t by simp]
    exact pMany_hom h u v huv m _ _
  ·rfl
theorem pBlock_hom {A B:Alg} (h:Hom A B) (u:Bs→R A.T) (v:Bs→R B.T) (huv:∀ l,v l=mapR h.t (u l)) (o:Nat) (l:Bs):pBlock B v o l=mapR (List.map h.t) (pBlock A u o l):=by
 unfold pBlock
 cases enter [123] o l with
 | error e=>rfl
 | ok l1 =>
  simp only
  rw [show pMany B v (l1.length + 1) [] l1=mapR (List.map h.t) (pMany A u (l1.length + 1) [] l1) from pMany_hom h u v huv _ [] l1]
  cases pMany A u (l1.length + 1) [] l1 with
  | error e=>rfl
  | ok xl =>
   show (match take [125] xl.2 with
    | .ok l3=>(.ok (xl.1.map h.t,l3):R (List B.T))
    | .error e=>.error e)=mapR (List.map h.t) (match take [125] xl.2 with
    | .ok l3=>(.ok (xl.1,l3):R (List A.T))
    | .error e=>.error e)
   cases take [125] xl.2 <;> rfl
theorem pStmt_hom {A B:Alg} (h:Hom A B):∀ n o l,pStmt B n o l=mapR h.t (pStmt A n o l)
 | 0,_,_=>rfl
 | n + 1,o,l=>by
  unfold pStmt
  split
  ·unfold pRead
   cases pName (next l) with
   | error e=>rfl
   | ok kl =>
    simp only
    cases take [59] kl.2 with
    | error e=>rfl
    | ok l2=>show (.ok (B.read kl.1,l2):R B.T)=_; rw [← h.read]; rfl
  ·split
   ·unfold pAssert
    rw [pCond_hom h]
    cases pCond A o (next l) with
    | error e=>rfl
    | ok cl =>
     obtain ⟨⟨k,x,y⟩,l1⟩:=cl
     show (match take [59] l1 with
      | .ok l2=>(.ok (B.assert k (h.s x) (h.s y),l2):R B.T)
      | .error e=>.error e)=mapR h.t (match take [59] l1 with
      | .ok l2=>(.ok (A.assert k x y,l2):R A.T)
      | .error e=>.error e)
     rw [← h.assert]
     cases take [59] l1 <;> rfl
   ·split
    ·unfold pIf
     rw [pCond_hom h]
     cases pCond A o (next l) with
     | error e=>rfl
     | ok cl =>
      obtain ⟨⟨k,x,y⟩,l1⟩:=cl
      show (match pBlock B (pStmt B n (o + 1)) o l1 with
       | .ok (xs,l2)=>if tok l2=wElse then (match pBlock B (pStmt B n (o + 1)) o (next l2) with
         | .ok (ys,l3)=>(.ok (B.ite k (h.s x) (h.s y) xs (some ys),l3):R B.T)
         | .error e=>.error e) else .ok (B.ite k (h.s x) (h.s y) xs none,l2)
       | .error e=>.error e)=mapR h.t (match pBlock A (pStmt A n (o + 1)) o l1 with
       | .ok (xs,l2)=>if tok l2=wElse then (match pBlock A (pStmt A n (o + 1)) o (next l2) with
         | .ok (ys,l3)=>(.ok (A.ite k x y xs (some ys),l3):R A.T)
         | .error e=>.error e) else .ok (A.ite k x y xs none,l2)
       | .error e=>.error e)
      rw [pBlock_hom h _ _ (pStmt_hom h n (o + 1))]
      cases pBlock A (pStmt A n (o + 1)) o l1 with
      | error e=>rfl
      | ok xl =>
       obtain ⟨xs,l2⟩:=xl
       simp only [mapR]
       by_cases he:tok l2=wElse
       ·rw [if_pos he,if_pos he,pBlock_hom h _ _ (pStmt_hom h n (o + 1))]
        cases pBlock A (pStmt A n (o + 1)) o (next l2) with
        | error e=>rfl
        | ok yl =>
         show (.ok (B.ite k (h.s x) (h.s y) (xs.map h.t) (some (yl.1.map h.t)),yl.2):R B.T)=.ok (h.t (A.ite k x y xs (some yl.1)),yl.2)
         rw [h.ite]; rfl
       ·rw [if_neg he,if_neg he]
        show (.ok (B.ite k (h.s x) (h.s y) (xs.map h.t) none,l2):R B.T)=.ok (h.t (A.ite k x y xs none),l2)
        rw [h.ite]; rfl
    ·split
     ·unfold pWhile
      rw [pCond_hom h]
      cases pCond A o (next l) with
      | error e=>rfl
      | ok cl =>
       obtain ⟨⟨k,x,y⟩,l1⟩:=cl
       show (match pBlock B (pStmt B n (o + 1)) o l1 with
        | .ok (xs,l2)=>(.ok (B.loop k (h.s x) (h.s y) xs,l2):R B.T)
        | .error e=>.error e)=mapR h.t (match pBlock A (pStmt A n (o + 1)) o l1 with
        | .ok (xs,l2)=>(.ok (A.loop k x y xs,l2):R A.T)
        | .error e=>.error e)
       rw [pBlock_hom h _ _ (pStmt_hom h n (o + 1))]
       cases pBlock A (pStmt A n (o + 1)) o l1 with
       | error e=>rfl
       | ok xl =>
        show (.ok (B.loop k (h.s x) (h.s y) (xl.1.map h.t),xl.2):R B.T)=.ok (h.t (A.loop k x y xl.1),xl.2)
        rw [h.loop]
     ·unfold pAssign
      cases pName l with
      | error e=>rfl
      | ok kl =>
       simp only
       cases take [61] kl.2 with
       | error e=>rfl
       | ok l2 =>
        simp only
        rw [pS_hom h]
        cases pS A o l2 with
        | error e=>rfl
        | ok xl =>
         show (match take [59] xl.2 with
          | .ok l4=>(.ok (B.assign kl.1 (h.s xl.1),l4):R B.T)
          | .error e=>.error e)=mapR h.t (match take [59] xl.2 with
          | .ok l4=>(.ok (A.assign kl.1 xl.1,l4):R A.T)
          | .error e=>.error e)
         rw [← h.assign]
         cases take [59] xl.2 <;> rfl
theorem parse_hom {A B:Alg} (h:Hom A B) (s:Bs):parse B s=match parse A s with
  | .ok xs=>.ok (xs.map h.t)
  | .error e=>.error e:=by
 unfold parse
 split
 ·rfl
 ·unfold pProg
  rw [show pMany B (pStmt B ((skip s).length + 1) 0) ((skip s).length + 1) [] (skip s)=mapR (List.map h.t) (pMany A (pStmt A ((skip s).length + 1) 0) ((skip s).length + 1) [] (skip s)) from pMany_hom h _ _ (pStmt_hom h _ 0) _ [] _]
  cases pMany A (pStmt A ((skip s).length + 1) 0) ((skip s).length + 1) [] (skip s) with
  | error e=>rfl
  | ok xl =>
   simp only [mapR]
   by_cases hl:xl.2=[]
   ·rw [if_pos hl,if_pos hl]
   ·rw [if_neg hl,if_neg hl]; rfl
end Sp
end Go.Proofs.YtiopfihjmkfdmaaGreatDoor
