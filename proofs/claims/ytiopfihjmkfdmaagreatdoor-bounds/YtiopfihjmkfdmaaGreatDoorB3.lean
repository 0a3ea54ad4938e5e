import Derived.Test.YtiopfihjmkfdmaaGreatDoorB2
import Derived.Maps.AppendAt
namespace Go.Proofs.YtiopfihjmkfdmaaGreatDoor
open Go.Proofs.Tryz Sp
open Go.RowKit
set_option maxRecDepth 100000
set_option maxHeartbeats 16000000
namespace Sp
section
variable{A B:eW}
structure JV(A B:eW) where
 s:A.S->B.S
 t:A.T->B.T
 num:∀n,s (A.num n)=B.num n
 name:∀k,s (A.name k)=B.name k
 neg:∀x,s (A.neg x)=B.neg (s x)
 bin:∀k x y,s (A.bin k x y)=B.bin k (s x) (s y)
 assign:∀k x,t (A.assign k x)=B.assign k (s x)
 read:∀k,t (A.read k)=B.read k
 assert:∀k x y,t (A.assert k x y)=B.assert k (s x) (s y)
 ite:∀k x y xs ys,t (A.ite k x y xs ys)=B.ite k (s x) (s y) (xs.map t) (ys.map fun l=>l.map t)
 loop:∀k x y xs,t (A.loop k x y xs)=B.loop k (s x) (s y) (xs.map t)
def jg{α β:Type}(f:α->β):R α->R β
 | .ok (x,l)=>.ok (f x,l)
 | .error e=>.error e
theorem wE(h:JV A B)(lv:Nat)(u:Bs->R A.S)(v:Bs->R B.S)(Kw:∀l,v l=jg h.s (u l)):∀m x l,bC B lv v m (h.s x) l=jg h.s (bC A lv u m x l)
 | 0,_,_=>rfl
 | m+1,x,l=>by
  unfold bC;cases eb (tok l) with
  | none=>rfl
  | some k =>
   simp only;by_cases hk:cL k=lv
   ·rw[if_pos hk,if_pos hk,Kw]
    cases u (next l) with
    | error e=>rfl
    | ok yl =>obtain⟨y,l1⟩:=yl;show bC B lv v m (B.bin k (h.s x) (h.s y)) l1=_;rw[<-h.bin];exact wE h lv u v Kw m _ _
   ·rw[if_neg hk,if_neg hk];rfl
theorem yA(h:JV A B)(lv:Nat)(u:Bs->R A.S)(v:Bs->R B.S)(Kw:∀l,v l=jg h.s (u l))(l:Bs):bL B lv v l=jg h.s (bL A lv u l):=by
 unfold bL;rw[Kw];cases u l with
 | error e=>rfl
 | ok xl=>exact wE h lv u v Kw _ _ _
theorem CQ(h:JV A B)(u:Bs->R A.S)(v:Bs->R B.S)(Kw:∀l,v l=jg h.s (u l))(l:Bs):mO B v l=jg h.s (mO A u l) :=
 yA h 0 _ _ (yA h 1 u v Kw) l
theorem qg(h:JV A B):∀n o l,bo B n o l=jg h.s (bo A n o l)
 | 0,_,_=>rfl
 | n+1,o,l=>by
  unfold bo;split
  ·cases fE (tok l) with
   | none=>rfl
   | some v=>show(.ok (B.num v,next l):R B.S)=_;rw[<-h.num];rfl
  ·split
   ·cases dE l with
    | error e=>rfl
    | ok kl=>show(.ok (B.name kl.1,kl.2):R B.S)=_;rw[<-h.name];rfl
   ·split
    ·cases enter [45] o l with
     | error e=>rfl
     | ok l1 =>
      simp only;rw[qg h n (o+1) l1];cases bo A n (o+1) l1 with
      | error e=>rfl
      | ok xl=>show(.ok (B.neg (h.s xl.1),xl.2):R B.S)=_;rw[<-h.neg];rfl
    ·cases enter [40] o l with
     | error e=>rfl
     | ok l1 =>
      simp only;rw[CQ h _ _ (qg h n (o+1)) l1];cases mO A (bo A n (o+1)) l1 with
      | error e=>rfl
      | ok xl =>
       show(match take [41] xl.2 with
        | .ok l3=>(.ok (h.s xl.1,l3):R B.S)
        | .error e=>.error e)=jg h.s (match take [41] xl.2 with
        | .ok l3=>(.ok (xl.1,l3):R A.S)
        | .error e=>.error e)
       cases take [41] xl.2<;>rfl
theorem FM(h:JV A B)(o:Nat)(l:Bs):pS B o l=jg h.s (pS A o l):=CQ h _ _ (qg h _ o) l
def UI(h:JV A B)(c:Nat × A.S × A.S):Nat × B.S × B.S:=(c.1,h.s c.2.1,h.s c.2.2)
theorem rZ(h:JV A B)(o:Nat)(l:Bs):bn B o l=jg (UI h) (bn A o l):=by
 unfold bn;rw[FM h];cases pS A o l with
 | error e=>rfl
 | ok xl =>
  show(match dQ (tok xl.2) with
   | some k=>(match pS B o (next xl.2) with
    | .ok (y,l2)=>(.ok ((k,h.s xl.1,y),l2):R (Nat × B.S × B.S))
    | .error e=>.error e)
   | none=>bad 2 xl.2)=jg (UI h) (match dQ (tok xl.2) with
   | some k=>(match pS A o (next xl.2) with
    | .ok (y,l2)=>(.ok ((k,xl.1,y),l2):R (Nat × A.S × A.S))
    | .error e=>.error e)
   | none=>bad 2 xl.2)
  cases dQ (tok xl.2) with
  | none=>rfl
  | some k =>simp only;rw[FM h];cases pS A o (next xl.2)<;>rfl
theorem su(h:JV A B)(u:Bs->R A.T)(v:Bs->R B.T)(Kw:∀l,v l=jg h.t (u l)):∀m acc l,cZ B v m (acc.map h.t) l=jg (List.map h.t) (cZ A u m acc l)
 | 0,_,_=>rfl
 | m+1,acc,l=>by
  unfold cZ;split
  ·rw[Kw]
   cases u l with
   | error e=>rfl
   | ok xl =>show cZ B v m (acc.map h.t ++ [h.t xl.1]) xl.2=_;rw[show acc.map h.t ++ [h.t xl.1]=(acc ++ [xl.1]).map h.t by simp];exact su h u v Kw m _ _
  ·rfl
theorem qo(h:JV A B)(u:Bs->R A.T)(v:Bs->R B.T)(Kw:∀l,v l=jg h.t (u l))(o:Nat)(l:Bs):aS B v o l=jg (List.map h.t) (aS A u o l):=by
 unfold aS;cases enter [123] o l with
 | error e=>rfl
 | ok l1 =>
  simp only;rw[show cZ B v (l1.length+1) [] l1=jg (List.map h.t) (cZ A u (l1.length+1) [] l1) from su h u v Kw _ [] l1];cases cZ A u (l1.length+1) [] l1 with
  | error e=>rfl
  | ok xl =>
   show(match take [125] xl.2 with
    | .ok l3=>(.ok (xl.1.map h.t,l3):R (List B.T))
    | .error e=>.error e)=jg (List.map h.t) (match take [125] xl.2 with
    | .ok l3=>(.ok (xl.1,l3):R (List A.T))
    | .error e=>.error e)
   cases take [125] xl.2<;>rfl
theorem po(h:JV A B):∀n o l,bH B n o l=jg h.t (bH A n o l)
 | 0,_,_=>rfl
 | n+1,o,l=>by
  unfold bH;split
  ·unfold gx
   cases dE (next l) with
   | error e=>rfl
   | ok kl =>
    simp only;cases take [59] kl.2 with
    | error e=>rfl
    | ok l2=>show(.ok (B.read kl.1,l2):R B.T)=_;rw[<-h.read];rfl
  ·split
   ·unfold cY
    rw[rZ h];cases bn A o (next l) with
    | error e=>rfl
    | ok cl =>
     obtain⟨⟨k,x,y⟩,l1⟩:=cl;show(match take [59] l1 with
      | .ok l2=>(.ok (B.assert k (h.s x) (h.s y),l2):R B.T)
      | .error e=>.error e)=jg h.t (match take [59] l1 with
      | .ok l2=>(.ok (A.assert k x y,l2):R A.T)
      | .error e=>.error e)
     rw[<-h.assert];cases take [59] l1<;>rfl
   ·split
    ·unfold qF
     rw[rZ h];cases bn A o (next l) with
     | error e=>rfl
     | ok cl =>
      obtain⟨⟨k,x,y⟩,l1⟩:=cl;show(match aS B (bH B n (o+1)) o l1 with
       | .ok (xs,l2)=>if tok l2=j0 then(match aS B (bH B n (o+1)) o (next l2) with
         | .ok (ys,l3)=>(.ok (B.ite k (h.s x) (h.s y) xs (some ys),l3):R B.T)
         | .error e=>.error e) else .ok (B.ite k (h.s x) (h.s y) xs none,l2)
       | .error e=>.error e)=jg h.t (match aS A (bH A n (o+1)) o l1 with
       | .ok (xs,l2)=>if tok l2=j0 then(match aS A (bH A n (o+1)) o (next l2) with
         | .ok (ys,l3)=>(.ok (A.ite k x y xs (some ys),l3):R A.T)
         | .error e=>.error e) else .ok (A.ite k x y xs none,l2)
       | .error e=>.error e)
      rw[qo h _ _ (po h n (o+1))];cases aS A (bH A n (o+1)) o l1 with
      | error e=>rfl
      | ok xl =>
       obtain⟨xs,l2⟩:=xl;simp only[jg];by_cases he:tok l2=j0
       ·rw[if_pos he,if_pos he,qo h _ _ (po h n (o+1))]
        cases aS A (bH A n (o+1)) o (next l2) with
        | error e=>rfl
        | ok yl =>show(.ok (B.ite k (h.s x) (h.s y) (xs.map h.t) (some (yl.1.map h.t)),yl.2):R B.T)=.ok (h.t (A.ite k x y xs (some yl.1)),yl.2);rw[h.ite];rfl
       ·rw[if_neg he,if_neg he]
        show(.ok (B.ite k (h.s x) (h.s y) (xs.map h.t) none,l2):R B.T)=.ok (h.t (A.ite k x y xs none),l2);rw[h.ite];rfl
    ·split
     ·unfold ef
      rw[rZ h];cases bn A o (next l) with
      | error e=>rfl
      | ok cl =>
       obtain⟨⟨k,x,y⟩,l1⟩:=cl;show(match aS B (bH B n (o+1)) o l1 with
        | .ok (xs,l2)=>(.ok (B.loop k (h.s x) (h.s y) xs,l2):R B.T)
        | .error e=>.error e)=jg h.t (match aS A (bH A n (o+1)) o l1 with
        | .ok (xs,l2)=>(.ok (A.loop k x y xs,l2):R A.T)
        | .error e=>.error e)
       rw[qo h _ _ (po h n (o+1))];cases aS A (bH A n (o+1)) o l1 with
       | error e=>rfl
       | ok xl =>show(.ok (B.loop k (h.s x) (h.s y) (xl.1.map h.t),xl.2):R B.T)=.ok (h.t (A.loop k x y xl.1),xl.2);rw[h.loop]
     ·unfold cy
      cases dE l with
      | error e=>rfl
      | ok kl =>
       simp only;cases take [61] kl.2 with
       | error e=>rfl
       | ok l2 =>
        simp only;rw[FM h];cases pS A o l2 with
        | error e=>rfl
        | ok xl =>
         show(match take [59] xl.2 with
          | .ok l4=>(.ok (B.assign kl.1 (h.s xl.1),l4):R B.T)
          | .error e=>.error e)=jg h.t (match take [59] xl.2 with
          | .ok l4=>(.ok (A.assign kl.1 xl.1,l4):R A.T)
          | .error e=>.error e)
         rw[<-h.assign];cases take [59] xl.2<;>rfl
theorem yx(h:JV A B)(s:Bs):parse B s=match parse A s with
  | .ok xs=>.ok (xs.map h.t)
  | .error e=>.error e:=by
 unfold parse;split
 ·rfl
 ·unfold ou
  rw[show cZ B (bH B ((skip s).length+1) 0) ((skip s).length+1) [] (skip s)=jg (List.map h.t) (cZ A (bH A ((skip s).length+1) 0) ((skip s).length+1) [] (skip s)) from su h _ _ (po h _ 0) _ [] _];cases cZ A (bH A ((skip s).length+1) 0) ((skip s).length+1) [] (skip s) with
  | error e=>rfl
  | ok xl =>
   simp only[jg];by_cases hl:xl.2=[]
   ·rw[if_pos hl,if_pos hl]
   ·rw[if_neg hl,if_neg hl];rfl
end
end Sp
section
variable{base n sz:Nat}
variable{vs:List Value}
theorem below_alloc1(w:Wd)(o:Obj):Below w.heap.size w (w.alloc o):=(Below.refl _ _).alloc (Nat.le_refl _) o
theorem aZ{e:TypeId}{w w':Wd}{v:Value}(h:w.ownsRow base e sz v n vs)(hk:∀g,v.ownBlock=some g->w'.heap[g]?=w.heap[g]?):w'.ownsRow base e sz v n vs:=by
 obtain⟨h1,h2⟩:=h;refine⟨h1,?_⟩
 rcases h2 with h2 | ⟨g,cap,cur,rfl,hg,hh,r⟩
 ·exact .inl h2
 ·exact .inr ⟨g,cap,cur,rfl,hg,by rw[hk g rfl];exact hh,r⟩
theorem bj{e:TypeId}{w:Wd}{v:Value}(h:w.ownsRow base e sz v n vs):∀g,v.ownBlock=some g->base<=g/\g<w.heap.size/\∃c,w.heap[g]?=some (.cells c e):=by
 intro g hg
 rcases h.2 with⟨rfl,_⟩ | ⟨g',cap,cur,rfl,hb,hh,_⟩
 ·simp[Value.ownBlock]at hg
 ·simp[Value.ownBlock]at hg
  subst hg;exact⟨hb,ah hh,cur,hh⟩
end
end Go.Proofs.YtiopfihjmkfdmaaGreatDoor
