import Derived.Test.YtiopfihjmkfdmabGreatDoorC2
import Derived.Maps.AppendAt
namespace Go.Proofs.YtiopfihjmkfdmabGreatDoor
open Option renaming none->M,some->Y
open Go.Obj renaming cells->L
open Go.Proofs.Tryz Sp
open Go.RowKit
set_option maxRecDepth 100000
set_option maxHeartbeats 16000000
namespace Sp
section
variable{A B:fE}
structure L5(A B:fE) where
 s:A.S->B.S
 t:A.T->B.T
 num:∀n,s (A.num n)=B.num n
 name:∀k,s (A.name k)=B.name k
 neg:∀x,s (A.neg x)=B.neg (s x)
 bin:∀k x y,s (A.bin k x y)=B.bin k (s x) (s y)
 assign:∀k x,t (A.assign k x)=B.assign k (s x)
 read:∀k,t (A.read k)=B.read k
 assert:∀k x y,t (A.assert k x y)=B.assert k (s x) (s y)
 ite:∀k x y xs ys,t (A.ite k x y xs ys)=B.ite k (s x) (s y) (xs.map t) (ys.map λl=>l.map t)
 loop:∀k x y xs,t (A.loop k x y xs)=B.loop k (s x) (s y) (xs.map t)
def j7{α β:Type}(f:α->β):R α->R β
 |.ok (x,l)=>.ok (f x,l)
 |.error e=>.error e
theorem yx(h:L5 A B)(lv:Nat)(u:Bs->R A.S)(v:Bs->R B.S)(Nd:∀l,v l=j7 h.s (u l)):∀m x l,bK B lv v m (h.s x) l=j7 h.s (bK A lv u m x l)
 |0,_,_=>rfl
 |m+1,x,l=>by
  unfold bK;cases eA (tok l) with
  |none=>rfl
  |some k=>
   simp only;by_cases hk:cT k=lv
   .rw[Á hk,Á hk,Nd]
    cases u (next l) with
    |error e=>rfl
    |ok yl=>obtain⟨y,l1⟩:=yl;show bK B lv v m (B.bin k (h.s x) (h.s y)) l1=_;rw[<-h.bin];exact yx h lv u v Nd m _ _
   .rw[Â hk,Â hk];rfl
theorem Bc(h:L5 A B)(lv:Nat)(u:Bs->R A.S)(v:Bs->R B.S)(Nd:∀l,v l=j7 h.s (u l))(l:Bs):bS B lv v l=j7 h.s (bS A lv u l):=by
 unfold bS;rw[Nd];cases u l with
 |error e=>rfl
 |ok xl=>exact yx h lv u v Nd _ _ _
theorem DZ(h:L5 A B)(u:Bs->R A.S)(v:Bs->R B.S)(Nd:∀l,v l=j7 h.s (u l))(l:Bs):oI B v l=j7 h.s (oI A u l):=
 Bc h 0 _ _ (Bc h 1 u v Nd) l
theorem rO(h:L5 A B):∀n o l,bp B n o l=j7 h.s (bp A n o l)
 |0,_,_=>rfl
 |n+1,o,l=>by
  unfold bp;split
  .cases gh (tok l) with
   |none=>rfl
   |some v=>show(.ok (B.num v,next l):R B.S)=_;rw[<-h.num];rfl
  .split
   .cases dN l with
    |error e=>rfl
    |ok kl=>show(.ok (B.name kl.1,kl.2):R B.S)=_;rw[<-h.name];rfl
   .split
    .cases enter [45] o l with
     |error e=>rfl
     |ok l1=>
      simp only;rw[rO h n (o+1) l1];cases bp A n (o+1) l1 with
      |error e=>rfl
      |ok xl=>show(.ok (B.neg (h.s xl.1),xl.2):R B.S)=_;rw[<-h.neg];rfl
    .cases enter [40] o l with
     |error e=>rfl
     |ok l1=>
      simp only;rw[DZ h _ _ (rO h n (o+1)) l1];cases oI A (bp A n (o+1)) l1 with
      |error e=>rfl
      |ok xl=>
       show(match take [41] xl.2 with
        |.ok l3=>(.ok (h.s xl.1,l3):R B.S)
        |.error e=>.error e)=j7 h.s (match take [41] xl.2 with
        |.ok l3=>(.ok (xl.1,l3):R A.S)
        |.error e=>.error e)
       cases take [41] xl.2<;>rfl
theorem GC(h:L5 A B)(o:Nat)(l:Bs):pS B o l=j7 h.s (pS A o l):=DZ h _ _ (rO h _ o) l
def YV(h:L5 A B)(c:Nat×A.S×A.S):Nat×B.S×B.S:=(c.1,h.s c.2.1,h.s c.2.2)
theorem uE(h:L5 A B)(o:Nat)(l:Bs):bo B o l=j7 (YV h) (bo A o l):=by
 unfold bo;rw[GC h];cases pS A o l with
 |error e=>rfl
 |ok xl=>
  show(match eg (tok xl.2) with
   |some k=>(match pS B o (next xl.2) with
    |.ok (y,l2)=>(.ok ((k,h.s xl.1,y),l2):R (Nat×B.S×B.S))
    |.error e=>.error e)
   |none=>bad 2 xl.2)=j7 (YV h) (match eg (tok xl.2) with
   |some k=>(match pS A o (next xl.2) with
    |.ok (y,l2)=>(.ok ((k,xl.1,y),l2):R (Nat×A.S×A.S))
    |.error e=>.error e)
   |none=>bad 2 xl.2)
  cases eg (tok xl.2) with
  |none=>rfl
  |some k=>simp only;rw[GC h];cases pS A o (next xl.2)<;>rfl
theorem uV(h:L5 A B)(u:Bs->R A.T)(v:Bs->R B.T)(Nd:∀l,v l=j7 h.t (u l)):∀m acc l,dh B v m (acc.map h.t) l=j7 (List.map h.t) (dh A u m acc l)
 |0,_,_=>rfl
 |m+1,acc,l=>by
  unfold dh;split
  .rw[Nd]
   cases u l with
   |error e=>rfl
   |ok xl=>show dh B v m (acc.map h.t++[h.t xl.1]) xl.2=_;rw[show acc.map h.t++[h.t xl.1]=(acc++[xl.1]).map h.t by simp];exact uV h u v Nd m _ _
  .rfl
theorem rY(h:L5 A B)(u:Bs->R A.T)(v:Bs->R B.T)(Nd:∀l,v l=j7 h.t (u l))(o:Nat)(l:Bs):aR B v o l=j7 (List.map h.t) (aR A u o l):=by
 unfold aR;cases enter [123] o l with
 |error e=>rfl
 |ok l1=>
  simp only;rw[show dh B v (l1.length+1) [] l1=j7 (List.map h.t) (dh A u (l1.length+1) [] l1) from uV h u v Nd _ [] l1];cases dh A u (l1.length+1) [] l1 with
  |error e=>rfl
  |ok xl=>
   show(match take [125] xl.2 with
    |.ok l3=>(.ok (xl.1.map h.t,l3):R (List B.T))
    |.error e=>.error e)=j7 (List.map h.t) (match take [125] xl.2 with
    |.ok l3=>(.ok (xl.1,l3):R (List A.T))
    |.error e=>.error e)
   cases take [125] xl.2<;>rfl
theorem qA(h:L5 A B):∀n o l,bL B n o l=j7 h.t (bL A n o l)
 |0,_,_=>rfl
 |n+1,o,l=>by
  unfold bL;split
  .unfold gX
   cases dN (next l) with
   |error e=>rfl
   |ok kl=>
    simp only;cases take [59] kl.2 with
    |error e=>rfl
    |ok l2=>show(.ok (B.read kl.1,l2):R B.T)=_;rw[<-h.read];rfl
  .split
   .unfold de
    rw[uE h];cases bo A o (next l) with
    |error e=>rfl
    |ok cl=>
     obtain⟨⟨k,x,y⟩,l1⟩:=cl;show(match take [59] l1 with
      |.ok l2=>(.ok (B.assert k (h.s x) (h.s y),l2):R B.T)
      |.error e=>.error e)=j7 h.t (match take [59] l1 with
      |.ok l2=>(.ok (A.assert k x y,l2):R A.T)
      |.error e=>.error e)
     rw[<-h.assert];cases take [59] l1<;>rfl
   .split
    .unfold Ð
     rw[uE h];cases bo A o (next l) with
     |error e=>rfl
     |ok cl=>
      obtain⟨⟨k,x,y⟩,l1⟩:=cl;show(match aR B (bL B n (o+1)) o l1 with
       | .ok (xs,l2)=>if tok l2=lI then(match aR B (bL B n (o+1)) o (next l2) with
         |.ok (ys,l3)=>(.ok (B.ite k (h.s x) (h.s y) xs (Y ys),l3):R B.T)
         |.error e=>.error e) else .ok (B.ite k (h.s x) (h.s y) xs M,l2)
       |.error e=>.error e)=j7 h.t (match aR A (bL A n (o+1)) o l1 with
       | .ok (xs,l2)=>if tok l2=lI then(match aR A (bL A n (o+1)) o (next l2) with
         |.ok (ys,l3)=>(.ok (A.ite k x y xs (Y ys),l3):R A.T)
         |.error e=>.error e) else .ok (A.ite k x y xs M,l2)
       |.error e=>.error e)
      rw[rY h _ _ (qA h n (o+1))];cases aR A (bL A n (o+1)) o l1 with
      |error e=>rfl
      |ok xl=>
       obtain⟨xs,l2⟩:=xl;simp only[j7];by_cases he:tok l2=lI
       .rw[Á he,Á he,rY h _ _ (qA h n (o+1))]
        cases aR A (bL A n (o+1)) o (next l2) with
        |error e=>rfl
        |ok yl=>show(.ok (B.ite k (h.s x) (h.s y) (xs.map h.t) (Y (yl.1.map h.t)),yl.2):R B.T)=.ok (h.t (A.ite k x y xs (Y yl.1)),yl.2);rw[h.ite];rfl
       .rw[Â he,Â he]
        show(.ok (B.ite k (h.s x) (h.s y) (xs.map h.t) M,l2):R B.T)=.ok (h.t (A.ite k x y xs M),l2);rw[h.ite];rfl
    .split
     .unfold eF
      rw[uE h];cases bo A o (next l) with
      |error e=>rfl
      |ok cl=>
       obtain⟨⟨k,x,y⟩,l1⟩:=cl;show(match aR B (bL B n (o+1)) o l1 with
        |.ok (xs,l2)=>(.ok (B.loop k (h.s x) (h.s y) xs,l2):R B.T)
        |.error e=>.error e)=j7 h.t (match aR A (bL A n (o+1)) o l1 with
        |.ok (xs,l2)=>(.ok (A.loop k x y xs,l2):R A.T)
        |.error e=>.error e)
       rw[rY h _ _ (qA h n (o+1))];cases aR A (bL A n (o+1)) o l1 with
       |error e=>rfl
       |ok xl=>show(.ok (B.loop k (h.s x) (h.s y) (xl.1.map h.t),xl.2):R B.T)=.ok (h.t (A.loop k x y xl.1),xl.2);rw[h.loop]
     .unfold cC
      cases dN l with
      |error e=>rfl
      |ok kl=>
       simp only;cases take [61] kl.2 with
       |error e=>rfl
       |ok l2=>
        simp only;rw[GC h];cases pS A o l2 with
        |error e=>rfl
        |ok xl=>
         show(match take [59] xl.2 with
          |.ok l4=>(.ok (B.assign kl.1 (h.s xl.1),l4):R B.T)
          |.error e=>.error e)=j7 h.t (match take [59] xl.2 with
          |.ok l4=>(.ok (A.assign kl.1 xl.1,l4):R A.T)
          |.error e=>.error e)
         rw[<-h.assign];cases take [59] xl.2<;>rfl
theorem AV(h:L5 A B)(s:Bs):parse B s=match parse A s with
  |.ok xs=>.ok (xs.map h.t)
  |.error e=>.error e:=by
 unfold parse;split
 .rfl
 .unfold pK
  rw[show dh B (bL B ((skip s).length+1) 0) ((skip s).length+1) [] (skip s)=j7 (List.map h.t) (dh A (bL A ((skip s).length+1) 0) ((skip s).length+1) [] (skip s)) from uV h _ _ (qA h _ 0) _ [] _];cases dh A (bL A ((skip s).length+1) 0) ((skip s).length+1) [] (skip s) with
  |error e=>rfl
  |ok xl=>
   simp only[j7];by_cases hl:xl.2=[]
   .rw[Á hl,Á hl]
   .rw[Â hl,Â hl];rfl
end
end Sp
section
variable{base n sz:Nat}
variable{vs:List Value}
theorem below_alloc1(w:Wd)(o:Obj):ω w (w.alloc o):=(Å).alloc È o
theorem aY{e:TypeId}{w w':Wd}{v:Value}(h:w.ownsRow base e sz v n vs)(hk:∀g,v.ownBlock=Y g->w'.heap[g]?=w.heap[g]?):w'.ownsRow base e sz v n vs:=by
 obtain⟨h1,h2⟩:=h;refine⟨h1,?_⟩
 rcases h2 with h2|⟨g,cap,cur,rfl,hg,hh,r⟩
 .exact .inl h2
 .exact .inr ⟨g,cap,cur,rfl,hg,by rw[hk g rfl];exact hh,r⟩
theorem bk{e:TypeId}{w:Wd}{v:Value}(h:w.ownsRow base e sz v n vs):∀g,v.ownBlock=Y g->base<=g/\g<w.heap.size/\∃c,w.heap[g]?=Y (L c e):=by
 intro g hg
 rcases h.2 with⟨rfl,_⟩|⟨g',cap,cur,rfl,hb,hh,_⟩
 .simp[Value.ownBlock]at hg
 .simp[Value.ownBlock]at hg
  subst hg;exact⟨hb,ah hh,cur,hh⟩
end
end Go.Proofs.YtiopfihjmkfdmabGreatDoor
