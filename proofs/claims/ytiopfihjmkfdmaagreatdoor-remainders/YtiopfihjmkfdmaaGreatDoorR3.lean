import Derived.Test.YtiopfihjmkfdmaaGreatDoorR2
import Derived.Maps.AppendAt
namespace Go.Proofs.YtiopfihjmkfdmaaGreatDoor
open Option renaming none→M,some→Y
open Go.Obj renaming cells→L
open Go.Proofs.Tryz Sp
open Go.RowKit
set_option maxRecDepth 100000
set_option maxHeartbeats 16000000
namespace Sp
section
variable{A B:eR}
structure Jz(A B:eR) where
 s:A.S->B.S
 t:A.T->B.T
 num:∀n,s (A.num n)=B.num n
 name:∀k,s (A.name k)=B.name k
 neg:∀x,s (A.neg x)=B.neg (s x)
 bin:∀k x y,s (A.bin k x y)=B.bin k (s x) (s y)
 assign:∀k x,t (A.assign k x)=B.assign k (s x)
 read:∀k,t (A.read k)=B.read k
 assert:∀k x y,t (A.assert k x y)=B.assert k (s x) (s y)
 ite:∀k x y xs ys,t (A.ite k x y xs ys)=B.ite k (s x) (s y) (xs.map t) (ys.map fun l=>l.map t)
 loop:∀k x y xs,t (A.loop k x y xs)=B.loop k (s x) (s y) (xs.map t)
def js{α β:Type}(f:α->β):R α->R β
 | .ok (x,l)=>.ok (f x,l)
 | .error e=>.error e
theorem xt(h:Jz A B)(lv:Nat)(u:Bs->R A.S)(v:Bs->R B.S)(KA:∀l,v l=js h.s (u l)):∀m x l,bH B lv v m (h.s x) l=js h.s (bH A lv u m x l)
 | 0,_,_=>rfl
 | m+1,x,l=>by
  unfold bH;cases ep (tok l) with
  | none=>rfl
  | some k =>
   simp only;by_cases hk:cK k=lv
   ·rw[if_pos hk,if_pos hk,KA]
    cases u (next l) with
    | error e=>rfl
    | ok yl =>obtain⟨y,l1⟩:=yl;show bH B lv v m (B.bin k (h.s x) (h.s y)) l1=_;rw[<-h.bin];exact xt h lv u v KA m _ _
   ·rw[if_neg hk,if_neg hk];rfl
theorem y9(h:Jz A B)(lv:Nat)(u:Bs->R A.S)(v:Bs->R B.S)(KA:∀l,v l=js h.s (u l))(l:Bs):bP B lv v l=js h.s (bP A lv u l):=by
 unfold bP;rw[KA];cases u l with
 | error e=>rfl
 | ok xl=>exact xt h lv u v KA _ _ _
theorem B3(h:Jz A B)(u:Bs->R A.S)(v:Bs->R B.S)(KA:∀l,v l=js h.s (u l))(l:Bs):og B v l=js h.s (og A u l) :=
 y9 h 0 _ _ (y9 h 1 u v KA) l
theorem qi(h:Jz A B):∀n o l,bk B n o l=js h.s (bk A n o l)
 | 0,_,_=>rfl
 | n+1,o,l=>by
  unfold bk;split
  ·cases gA (tok l) with
   | none=>rfl
   | some v=>show(.ok (B.num v,next l):R B.S)=_;rw[<-h.num];rfl
  ·split
   ·cases dG l with
    | error e=>rfl
    | ok kl=>show(.ok (B.name kl.1,kl.2):R B.S)=_;rw[<-h.name];rfl
   ·split
    ·cases enter [45] o l with
     | error e=>rfl
     | ok l1 =>
      simp only;rw[qi h n (o+1) l1];cases bk A n (o+1) l1 with
      | error e=>rfl
      | ok xl=>show(.ok (B.neg (h.s xl.1),xl.2):R B.S)=_;rw[<-h.neg];rfl
    ·cases enter [40] o l with
     | error e=>rfl
     | ok l1 =>
      simp only;rw[B3 h _ _ (qi h n (o+1)) l1];cases og A (bk A n (o+1)) l1 with
      | error e=>rfl
      | ok xl =>
       show(match take [41] xl.2 with
        | .ok l3=>(.ok (h.s xl.1,l3):R B.S)
        | .error e=>.error e)=js h.s (match take [41] xl.2 with
        | .ok l3=>(.ok (xl.1,l3):R A.S)
        | .error e=>.error e)
       cases take [41] xl.2<;>rfl
theorem F6(h:Jz A B)(o:Nat)(l:Bs):pS B o l=js h.s (pS A o l):=B3 h _ _ (qi h _ o) l
def Va(h:Jz A B)(c:Nat × A.S × A.S):Nat × B.S × B.S:=(c.1,h.s c.2.1,h.s c.2.2)
theorem s9(h:Jz A B)(o:Nat)(l:Bs):bh B o l=js (Va h) (bh A o l):=by
 unfold bh;rw[F6 h];cases pS A o l with
 | error e=>rfl
 | ok xl =>
  show(match ea (tok xl.2) with
   | some k=>(match pS B o (next xl.2) with
    | .ok (y,l2)=>(.ok ((k,h.s xl.1,y),l2):R (Nat × B.S × B.S))
    | .error e=>.error e)
   | none=>bad 2 xl.2)=js (Va h) (match ea (tok xl.2) with
   | some k=>(match pS A o (next xl.2) with
    | .ok (y,l2)=>(.ok ((k,xl.1,y),l2):R (Nat × A.S × A.S))
    | .error e=>.error e)
   | none=>bad 2 xl.2)
  cases ea (tok xl.2) with
  | none=>rfl
  | some k =>simp only;rw[F6 h];cases pS A o (next xl.2)<;>rfl
theorem sY(h:Jz A B)(u:Bs->R A.T)(v:Bs->R B.T)(KA:∀l,v l=js h.t (u l)):∀m acc l,cX B v m (acc.map h.t) l=js (List.map h.t) (cX A u m acc l)
 | 0,_,_=>rfl
 | m+1,acc,l=>by
  unfold cX;split
  ·rw[KA]
   cases u l with
   | error e=>rfl
   | ok xl =>show cX B v m (acc.map h.t ++ [h.t xl.1]) xl.2=_;rw[show acc.map h.t ++ [h.t xl.1]=(acc ++ [xl.1]).map h.t by simp];exact sY h u v KA m _ _
  ·rfl
theorem qE(h:Jz A B)(u:Bs->R A.T)(v:Bs->R B.T)(KA:∀l,v l=js h.t (u l))(o:Nat)(l:Bs):aO B v o l=js (List.map h.t) (aO A u o l):=by
 unfold aO;cases enter [123] o l with
 | error e=>rfl
 | ok l1 =>
  simp only;rw[show cX B v (l1.length+1) [] l1=js (List.map h.t) (cX A u (l1.length+1) [] l1) from sY h u v KA _ [] l1];cases cX A u (l1.length+1) [] l1 with
  | error e=>rfl
  | ok xl =>
   show(match take [125] xl.2 with
    | .ok l3=>(.ok (xl.1.map h.t,l3):R (List B.T))
    | .error e=>.error e)=js (List.map h.t) (match take [125] xl.2 with
    | .ok l3=>(.ok (xl.1,l3):R (List A.T))
    | .error e=>.error e)
   cases take [125] xl.2<;>rfl
theorem pf(h:Jz A B):∀n o l,bN B n o l=js h.t (bN A n o l)
 | 0,_,_=>rfl
 | n+1,o,l=>by
  unfold bN;split
  ·unfold gG
   cases dG (next l) with
   | error e=>rfl
   | ok kl =>
    simp only;cases take [59] kl.2 with
    | error e=>rfl
    | ok l2=>show(.ok (B.read kl.1,l2):R B.T)=_;rw[<-h.read];rfl
  ·split
   ·unfold cY
    rw[s9 h];cases bh A o (next l) with
    | error e=>rfl
    | ok cl =>
     obtain⟨⟨k,x,y⟩,l1⟩:=cl;show(match take [59] l1 with
      | .ok l2=>(.ok (B.assert k (h.s x) (h.s y),l2):R B.T)
      | .error e=>.error e)=js h.t (match take [59] l1 with
      | .ok l2=>(.ok (A.assert k x y,l2):R A.T)
      | .error e=>.error e)
     rw[<-h.assert];cases take [59] l1<;>rfl
   ·split
    ·unfold qR
     rw[s9 h];cases bh A o (next l) with
     | error e=>rfl
     | ok cl =>
      obtain⟨⟨k,x,y⟩,l1⟩:=cl;show(match aO B (bN B n (o+1)) o l1 with
       | .ok (xs,l2)=>if tok l2=kt then(match aO B (bN B n (o+1)) o (next l2) with
         | .ok (ys,l3)=>(.ok (B.ite k (h.s x) (h.s y) xs (Y ys),l3):R B.T)
         | .error e=>.error e) else .ok (B.ite k (h.s x) (h.s y) xs M,l2)
       | .error e=>.error e)=js h.t (match aO A (bN A n (o+1)) o l1 with
       | .ok (xs,l2)=>if tok l2=kt then(match aO A (bN A n (o+1)) o (next l2) with
         | .ok (ys,l3)=>(.ok (A.ite k x y xs (Y ys),l3):R A.T)
         | .error e=>.error e) else .ok (A.ite k x y xs M,l2)
       | .error e=>.error e)
      rw[qE h _ _ (pf h n (o+1))];cases aO A (bN A n (o+1)) o l1 with
      | error e=>rfl
      | ok xl =>
       obtain⟨xs,l2⟩:=xl;simp only[js];by_cases he:tok l2=kt
       ·rw[if_pos he,if_pos he,qE h _ _ (pf h n (o+1))]
        cases aO A (bN A n (o+1)) o (next l2) with
        | error e=>rfl
        | ok yl =>show(.ok (B.ite k (h.s x) (h.s y) (xs.map h.t) (Y (yl.1.map h.t)),yl.2):R B.T)=.ok (h.t (A.ite k x y xs (Y yl.1)),yl.2);rw[h.ite];rfl
       ·rw[if_neg he,if_neg he]
        show(.ok (B.ite k (h.s x) (h.s y) (xs.map h.t) M,l2):R B.T)=.ok (h.t (A.ite k x y xs M),l2);rw[h.ite];rfl
    ·split
     ·unfold eA
      rw[s9 h];cases bh A o (next l) with
      | error e=>rfl
      | ok cl =>
       obtain⟨⟨k,x,y⟩,l1⟩:=cl;show(match aO B (bN B n (o+1)) o l1 with
        | .ok (xs,l2)=>(.ok (B.loop k (h.s x) (h.s y) xs,l2):R B.T)
        | .error e=>.error e)=js h.t (match aO A (bN A n (o+1)) o l1 with
        | .ok (xs,l2)=>(.ok (A.loop k x y xs,l2):R A.T)
        | .error e=>.error e)
       rw[qE h _ _ (pf h n (o+1))];cases aO A (bN A n (o+1)) o l1 with
       | error e=>rfl
       | ok xl =>show(.ok (B.loop k (h.s x) (h.s y) (xl.1.map h.t),xl.2):R B.T)=.ok (h.t (A.loop k x y xl.1),xl.2);rw[h.loop]
     ·unfold cu
      cases dG l with
      | error e=>rfl
      | ok kl =>
       simp only;cases take [61] kl.2 with
       | error e=>rfl
       | ok l2 =>
        simp only;rw[F6 h];cases pS A o l2 with
        | error e=>rfl
        | ok xl =>
         show(match take [59] xl.2 with
          | .ok l4=>(.ok (B.assign kl.1 (h.s xl.1),l4):R B.T)
          | .error e=>.error e)=js h.t (match take [59] xl.2 with
          | .ok l4=>(.ok (A.assign kl.1 xl.1,l4):R A.T)
          | .error e=>.error e)
         rw[<-h.assign];cases take [59] xl.2<;>rfl
theorem y5(h:Jz A B)(s:Bs):parse B s=match parse A s with
  | .ok xs=>.ok (xs.map h.t)
  | .error e=>.error e:=by
 unfold parse;split
 ·rfl
 ·unfold pO
  rw[show cX B (bN B ((skip s).length+1) 0) ((skip s).length+1) [] (skip s)=js (List.map h.t) (cX A (bN A ((skip s).length+1) 0) ((skip s).length+1) [] (skip s)) from sY h _ _ (pf h _ 0) _ [] _];cases cX A (bN A ((skip s).length+1) 0) ((skip s).length+1) [] (skip s) with
  | error e=>rfl
  | ok xl =>
   simp only[js];by_cases hl:xl.2=[]
   ·rw[if_pos hl,if_pos hl]
   ·rw[if_neg hl,if_neg hl];rfl
end
end Sp
section
variable{base n sz:Nat}
variable{vs:List Value}
theorem below_alloc1(w:Wd)(o:Obj):ω w (w.alloc o):=(Below.refl _ _).alloc (Nat.le_refl _) o
theorem aY{e:TypeId}{w w':Wd}{v:Value}(h:w.ownsRow base e sz v n vs)(hk:∀g,v.ownBlock=Y g->w'.heap[g]?=w.heap[g]?):w'.ownsRow base e sz v n vs:=by
 obtain⟨h1,h2⟩:=h;refine⟨h1,?_⟩
 rcases h2 with h2 | ⟨g,cap,cur,rfl,hg,hh,r⟩
 ·exact .inl h2
 ·exact .inr ⟨g,cap,cur,rfl,hg,by rw[hk g rfl];exact hh,r⟩
theorem bJ{e:TypeId}{w:Wd}{v:Value}(h:w.ownsRow base e sz v n vs):∀g,v.ownBlock=Y g->base<=g/\g<w.heap.size/\∃c,w.heap[g]?=Y (L c e):=by
 intro g hg
 rcases h.2 with⟨rfl,_⟩ | ⟨g',cap,cur,rfl,hb,hh,_⟩
 ·simp[Value.ownBlock]at hg
 ·simp[Value.ownBlock]at hg
  subst hg;exact⟨hb,ad hh,cur,hh⟩
end
end Go.Proofs.YtiopfihjmkfdmaaGreatDoor
