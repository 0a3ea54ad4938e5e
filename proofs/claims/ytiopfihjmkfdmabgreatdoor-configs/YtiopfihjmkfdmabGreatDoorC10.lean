import Derived.Test.YtiopfihjmkfdmabGreatDoorC3
import Derived.Test.YtiopfihjmkfdmabGreatDoorC9
namespace Go.Proofs.YtiopfihjmkfdmabGreatDoor
open Option renaming none->M,some->Y
open Go.Proofs.Tryz Sp
namespace Sp
section
variable{t l l':Bs}
variable{k v:Nat}
abbrev Ct:=Int×Int
def wh(n:Int):Int:=IntKind.i16.wrap n
def work(k:Nat)(x y:Int):Option Int:=
 if k=0 then Y (wh (x+y)) else if k=1 then Y (wh (x-y)) else if k=2 then Y (wh (x*y))
 else if y=0 then M else if k=3 then Y (wh (x.tdiv y)) else Y (x.tmod y)
def holds(k:Nat)(x y:Int):Bool:=
 if k=0 then decide (x<y) else if k=1 then decide (x<=y) else if k=2 then x==y else if k=3 then x != y
 else if k=4 then decide (y<=x) else decide (y<x)
def aD(ct:Ct):Ct:=(RowKit.wrap64 (ct.1+1),ct.2)
def aL(ct:Ct):Ct:=(ct.1,RowKit.wrap64 (ct.2+1))
inductive Sm where
 |num (n:Nat)
 |name (k:Nat)
 |neg (x:Sm)
 |bin (k:Nat) (x y:Sm)
inductive Bl where
 |nil
 |assign (k:Nat) (x:Sm) (rest:Bl)
 |read (k:Nat) (rest:Bl)
 |assert (k:Nat) (x y:Sm) (rest:Bl)
 |ite (k:Nat) (x y:Sm) (xs:Bl) (els:Bool) (ys:Bl) (rest:Bl)
 |loop (k:Nat) (x y:Sm) (xs:Bl) (rest:Bl)
def aO(fs:List (Bl->Bl)):Bl:=fs.foldr (λf b=>f b) .nil
def Tr:fE where
 S:=Sm
 num:=.num
 name:=.name
 neg:=.neg
 bin:=.bin
 T:=Bl->Bl
 assign k x:=.assign k x
 read k:=.read k
 assert k x y:=.assert k x y
 ite k x y xs ys:=.ite k x y (aO xs) ys.isSome (aO (ys.getD []))
 loop k x y xs:=.loop k x y (aO xs)
def gY(A:fE):Sm->A.S
 |.num n=>A.num n
 |.name k=>A.name k
 |.neg x=>A.neg (gY A x)
 |.bin k x y=>A.bin k (gY A x) (gY A y)
def ji(A:fE):Bl->List A.T
 |.nil=>[]
 |.assign k x rest=>A.assign k (gY A x)::ji A rest
 |.read k rest=>A.read k::ji A rest
 |.assert k x y rest=>A.assert k (gY A x) (gY A y)::ji A rest
 |.ite k x y xs els ys rest=>A.ite k (gY A x) (gY A y) (ji A xs) (if els then Y (ji A ys) else M)::ji A rest
 |.loop k x y xs rest=>A.loop k (gY A x) (gY A y) (ji A xs)::ji A rest
def Ī(A:fE)(p:(Bl->Bl)×A.T):Prop:=∀rest,ji A (p.1 rest)=p.2::ji A rest
abbrev TR(A:fE):={p:(Bl->Bl)×A.T // Ī A p}
theorem mP(A:fE):∀(xs:List (TR A)),ji A (aO (xs.map λx=>x.1.1))=xs.map λx=>x.1.2
 |[]=>rfl
 |x::xs=>by show ji A (x.1.1 (aO (xs.map λx=>x.1.1)))=_;rw[x.2,mP A xs];rfl
def Vi(A:fE):fE where
 S:=Sm
 num:=.num
 name:=.name
 neg:=.neg
 bin:=.bin
 T:=TR A
 assign k x:=⟨(.assign k x,A.assign k (gY A x)),λ_=>rfl⟩
 read k:=⟨(.read k,A.read k),λ_=>rfl⟩
 assert k x y:=⟨(.assert k x y,A.assert k (gY A x) (gY A y)),λ_=>rfl⟩
 ite k x y xs ys:=⟨(.ite k x y (aO (xs.map λx=>x.1.1)) ys.isSome (aO ((ys.getD []).map λx=>x.1.1)),A.ite k (gY A x) (gY A y) (xs.map λx=>x.1.2) (ys.map λl=>l.map λx=>x.1.2)),λrest=>by show A.ite k (gY A x) (gY A y) (ji A (aO (xs.map λx=>x.1.1))) (if ys.isSome then Y (ji A (aO ((ys.getD []).map λx=>x.1.1))) else M)::ji A rest=_;rw[mP,mP];cases ys<;>rfl⟩
 loop k x y xs:=⟨(.loop k x y (aO (xs.map λx=>x.1.1)),A.loop k (gY A x) (gY A y) (xs.map λx=>x.1.2)),λrest=>by show A.loop k (gY A x) (gY A y) (ji A (aO (xs.map λx=>x.1.1)))::ji A rest=_;rw[mP]⟩
def YC(A:fE):L5 (Vi A) Tr where
 s:=id
 t x:=x.1.1
 num _:=rfl
 name _:=rfl
 neg _:=rfl
 bin _ _ _:=rfl
 assign _ _:=rfl
 read _:=rfl
 assert _ _ _:=rfl
 ite k x y xs ys:=by cases ys<;>rfl
 loop _ _ _ _:=rfl
def ģ(A:fE):L5 (Vi A) A where
 s:=gY A
 t x:=x.1.2
 num _:=rfl
 name _:=rfl
 neg _:=rfl
 bin _ _ _:=rfl
 assign _ _:=rfl
 read _:=rfl
 assert _ _ _:=rfl
 ite _ _ _ _ _:=rfl
 loop _ _ _ _:=rfl
def tree(src:Bs):Except (Nat×Nat) Bl:=match parse Tr src with
 |.ok fs=>.ok (aO fs)
 |.error e=>.error e
theorem Hx(A:fE)(src:Bs):parse A src=(match tree src with
  |.ok b=>.ok (ji A b)
  |.error e=>.error e):=by
 unfold tree;rw[AV (ģ A),AV (YC A)];cases parse (Vi A) src with
 |error e=>rfl
 |ok xs=>exact Ë Except.ok (mP A xs).symm
theorem vo(A:fE)(lv:Nat)(part:Bs->R A.S)(m:Nat)(x:A.S)(l:Bs):bK A lv part (m+1) x l=(match eA (tok l) with
  | some k=>if cT k=lv then(match part (next l) with
    |.ok (y,l')=>bK A lv part m (A.bin k x y) l'
    |.error e=>.error e) else .ok (x,l)
  |none=>.ok (x,l)):=rfl
theorem sO(h:eA t=Y k):k<5:=by
 unfold eA at h
 repeat (split at h;(cases h;decide))
 cases h
theorem zA(h:eg t=Y k):k<6:=by
 unfold eg at h
 repeat (split at h;(cases h;decide))
 cases h
theorem xX(A:fE)(st:Bs->R A.T)(m:Nat)(acc:List A.T)(l:Bs):dh A st (m+1) acc l=(if aC l=2 then(match st l with
   |.ok (x,l1)=>dh A st m (acc++[x]) l1
   |.error e=>.error e) else .ok (acc,l)):=rfl
theorem uo(h:dN l=.ok (k,l')):k<8:=by
 unfold dN at h;split at h
 .next k' hk=>
  cases h
  unfold aS at hk;split at hk
  .split at hk
   .cases hk;omega
   .cases hk
  .cases hk
 .cases h
theorem LP(h:gh t=Y v):v<=32767:=by
 unfold gh at h;split at h
 .cases h
 .split at h
  .cases h;omega
  .cases h
end
end Sp
section
namespace Sp
namespace Pn
section
variable{τ:Type}
def QL(Q:Nat->τ->Prop):Nat->List τ->Prop
 |_,[]=>True
 |n,x::xs=>∃a b,a+b<=n/\Q a x/\QL Q b xs
theorem QL.mono{Q:Nat->τ->Prop}:∀{n m:Nat} {xs:List τ},QL Q n xs->n<=m->QL Q m xs
 |_,_,[],_,_=>trivial
 |_,_,_::_,⟨a,b,h,h1,h2⟩,k=>⟨a,b,À,h1,h2⟩
theorem QL.snoc{Q:Nat->τ->Prop}:∀{n m:Nat} {xs:List τ} {x:τ},QL Q n xs->Q m x->QL Q (n+m) (xs++[x])
 |n,m,[],x,_,hx=>⟨m,n,À,hx,trivial⟩
 |n,m,y::ys,x,⟨a,b,h,h1,h2⟩,hx=>⟨a,b+m,À,h1,QL.snoc h2 hx⟩
structure Made(A:fE)(P:Nat->A.S->Prop)(Q:Nat->A.T->Prop):Prop where
 pm:∀n m x,P n x->n<=m->P m x
 qm:∀n m x,Q n x->n<=m->Q m x
 num:∀v,v<=32767->P 0 (A.num v)
 name:∀k,k<8->P 0 (A.name k)
 neg:∀n x,P n x->P n (A.neg x)
 bin:∀k n m x y,k<5->P n x->P m y->P (n+m+1) (A.bin k x y)
 assign:∀k n x,k<8->P n x->Q (n+1) (A.assign k x)
 read:∀k,k<8->Q 1 (A.read k)
 assert:∀k n m x y,k<6->P n x->P m y->Q (n+m+1) (A.assert k x y)
 ite:∀k n m j x y xs,k<6->P n x->P m y->QL Q j xs->Q (n+m+j+1) (A.ite k x y xs M)
 iteElse:∀k n m j i x y xs ys,k<6->P n x->P m y->QL Q j xs->QL Q i ys->Q (n+m+j+i+1) (A.ite k x y xs (Y ys))
 loop:∀k n m j x y xs,k<6->P n x->P m y->QL Q j xs->Q (n+m+j+1) (A.loop k x y xs)
end
section
variable {A: fE}{P: Nat->A.S->Prop}{Q: Nat->A.T->Prop}(H: Made A P Q)
section
variable{lv o k:Nat}
variable{l l' s:Bs}
def Reads(P:Nat->A.S->Prop)(u:Bs->R A.S):Prop:=∀l x l',u l=.ok (x,l')->l'.length<l.length/\P (l.length-l'.length) x
include H in
theorem Pz{u:Bs->R A.S}(hu:Reads P u):∀m a (x:A.S) l (y:A.S) l',P a x->bK A lv u m x l=.ok (y,l')->l'.length<=l.length/\P (a+(l.length-l'.length)) y:=by
 intro m
 induction m with
 |zero=>intro a x l y l' hx h;cases h;exact⟨È,by simpa using hx⟩
 |succ m ih=>
  intro a x l y l' hx h;rw[vo A lv u m x l]at h;split at h
  .next k hk=>
   split at h
   .split at h
    .next z l1 hz=>
     obtain⟨h1,h2⟩:=hu _ _ _ hz;have h0:(next l).length<l.length:=by apply gl;rw[<-ef];apply List.length_pos_iff.2;intro e;rw[e]at hk;simp[eA]at hk
     obtain⟨h3,h4⟩:=ih _ _ _ _ _ (H.bin k a _ x z (sO hk) hx h2) h;exact⟨À,H.pm _ _ _ h4 À⟩
    .cases h
   .cases h;exact⟨È,by simpa using hx⟩
  .cases h;exact⟨È,by simpa using hx⟩
include H in
theorem Jy{u:Bs->R A.S}(hu:Reads P u):Reads P (bS A lv u):=by
 intro l x l' h;unfold bS at h;split at h
 .next y l1 hy=>
  obtain⟨h1,h2⟩:=hu _ _ _ hy;obtain⟨h3,h4⟩:=Pz H hu _ _ _ _ _ _ h2 h;exact⟨À,H.pm _ _ _ h4 À⟩
 .cases h
include H in
theorem Qj{u:Bs->R A.S}(hu:Reads P u):Reads P (oI A u):=Jy H (Jy H hu)
include H in
theorem Oz:∀n o,Reads P (bp A n o):=by
 intro n
 induction n with
 |zero=>intro o l x l' h;cases h
 |succ n ih=>
  intro o l x l' h;unfold bp at h;split at h
  .next hk=>
   split at h
   .next v hv=>cases h;exact⟨gl (dj (.inr (.inl hk))),H.pm _ _ _ (H.num v (LP hv)) Ì⟩
   .cases h
  .split at h
   .next kM=>
    split at h
    .next k l1 hk=>
     obtain⟨h5,h6⟩:=gP hk;cases h
     exact⟨by rw[h6];exact gl (dj (.inl kM)),H.pm _ _ _ (H.name k (uo hk)) Ì⟩
    .cases h
   .split at h
    .split at h
     .next l1 he=>
      obtain⟨ht,_,rfl⟩:=cI he;have h0:=aJ ht Ä;split at h
      .next y l2 hy=>
       cases h
       obtain⟨h1,h2⟩:=ih _ _ _ _ hy;exact⟨À,H.pm _ _ _ (H.neg _ _ h2) À⟩
      .cases h
     .cases h
    .split at h
     .next l1 he=>
      obtain⟨ht,_,rfl⟩:=cI he;have h0:=aJ ht Ä;split at h
      .next y l2 hy=>
       obtain⟨h1,h2⟩:=Qj H (ih _) _ _ _ hy;split at h
       .next l3 ht3=>
        obtain⟨_,rfl⟩:=cd ht3;have:=cr l2;cases h
        exact⟨À,H.pm _ _ _ h2 À⟩
       .cases h
      .cases h
     .cases h
include H in
theorem Vk{x:A.S}(h:pS A o l=.ok (x,l')):l'.length<l.length/\P (l.length-l'.length) x:=Qj H (Oz H _ _) _ _ _ h
include H in
theorem CQ{x y:A.S}(h:bo A o l=.ok ((k,x,y),l')):k<6/\l'.length<l.length/\∃a b,a+b<=l.length-l'.length/\P a x/\P b y:=by
 unfold bo at h;split at h
 .next x1 l1 hx=>
  split at h
  .next k1 hk=>
   split at h
   .next y1 l2 hy=>
    cases h
    obtain⟨h1,h2⟩:=Vk H hx;obtain⟨h3,h4⟩:=Vk H hy;have:=cr l1;exact⟨zA hk,À,_,_,À,h2,h4⟩
   .cases h
  .cases h
 .cases h
def GY(Q:Nat->A.T->Prop)(st:Bs->R A.T):Prop:=∀l x l',st l=.ok (x,l')->l'.length<l.length/\Q (l.length-l'.length) x
theorem Jm{st:Bs->R A.T}(hs:GY Q st):∀m a (acc:List A.T) l ys l',QL Q a acc->dh A st m acc l=.ok (ys,l')->l'.length<=l.length/\QL Q (a+(l.length-l'.length)) ys:=by
 intro m
 induction m with
 |zero=>intro a acc l ys l' ha h;cases h;exact⟨È,by simpa using ha⟩
 |succ m ih=>
  intro a acc l ys l' ha h;rw[xX A st m acc l]at h;split at h
  .split at h
   .next x l1 hx=>
    obtain⟨h1,h2⟩:=hs _ _ _ hx;obtain⟨h3,h4⟩:=ih _ _ _ _ _ (ha.snoc h2) h;exact⟨À,h4.mono À⟩
   .cases h
  .cases h;exact⟨È,by simpa using ha⟩
theorem x9{st:Bs->R A.T}(hs:GY Q st){xs:List A.T}(h:aR A st o l=.ok (xs,l')):l'.length<l.length/\QL Q (l.length-l'.length) xs:=by
 unfold aR at h;split at h
 .next l1 he=>
  obtain⟨ht,_,rfl⟩:=cI he;have h0:=aJ ht Ä;split at h
  .next ys l2 hm=>
   obtain⟨h1,h2⟩:=Jm hs _ 0 [] _ _ _ trivial hm;split at h
   .next l3 ht3=>
    obtain⟨_,rfl⟩:=cd ht3;have:=cr l2;cases h
    exact⟨À,h2.mono À⟩
   .cases h
  .cases h
 .cases h
include H in
theorem Sg:∀n o,GY Q (bL A n o):=by
 intro n
 induction n with
 |zero=>intro o l x l' h;cases h
 |succ n ih=>
  intro o l x l' h;unfold bL at h;split at h
  .next ht=>
   have h0:=aJ ht É;unfold gX at h;split at h
   .next k l1 hk=>
    obtain⟨h5,rfl⟩:=gP hk;have h6:=cr (next l);split at h
    .next l2 h2=>
     obtain⟨_,rfl⟩:=cd h2;have:=cr (next (next l));cases h
     exact⟨À,H.qm _ _ _ (H.read k (uo hk)) À⟩
    .cases h
   .cases h
  .split at h
   .next ht=>
    have h0:=aJ ht É;unfold de at h;split at h
    .next k x1 y1 l1 hc=>
     obtain⟨h1,h2,a,b,h3,h4,h5⟩:=CQ H hc;split at h
     .next l2 h6=>
      obtain⟨_,rfl⟩:=cd h6;have:=cr l1;cases h
      exact⟨À,H.qm _ _ _ (H.assert _ _ _ _ _ h1 h4 h5) À⟩
     .cases h
    .cases h
   .split at h
    .next ht=>
     have h0:=aJ ht É;unfold Ð at h;split at h
     .next k x1 y1 l1 hc=>
      obtain⟨h1,h2,a,b,h3,h4,h5⟩:=CQ H hc;split at h
      .next xs l2 hb=>
       obtain⟨h6,h7⟩:=x9 (ih _) hb;split at h
       .split at h
        .next ys l3 DK=>
         obtain⟨h8,h9⟩:=x9 (ih _) DK;have:=cr l2;cases h
         exact⟨À,H.qm _ _ _ (H.iteElse _ _ _ _ _ _ _ _ _ h1 h4 h5 h7 h9) À⟩
        .cases h
       .cases h;exact⟨À,H.qm _ _ _ (H.ite _ _ _ _ _ _ _ h1 h4 h5 h7) À⟩
      .cases h
     .cases h
    .split at h
     .next ht=>
      have h0:=aJ ht É;unfold eF at h;split at h
      .next k x1 y1 l1 hc=>
       obtain⟨h1,h2,a,b,h3,h4,h5⟩:=CQ H hc;split at h
       .next xs l2 hb=>
        obtain⟨h6,h7⟩:=x9 (ih _) hb;cases h
        exact⟨À,H.qm _ _ _ (H.loop _ _ _ _ _ _ _ h1 h4 h5 h7) À⟩
       .cases h
      .cases h
     .unfold cC at h
      split at h
      .next k l1 hk=>
       obtain⟨h5,rfl⟩:=gP hk;have h6:(next l).length<l.length:=by
        have h2:aC l=2:=by
         unfold aS at h5;split at h5
         .split at h5
          .next hc=>exact hc.1
          .cases h5
         .cases h5
        exact gl (dj (.inl h2))
       split at h
       .next l2 h2=>
        obtain⟨_,rfl⟩:=cd h2;have h7:=cr (next l);split at h
        .next x1 l3 hx=>
         obtain⟨h8,h9⟩:=Vk H hx;split at h
         .next l4 gW=>
          obtain⟨_,rfl⟩:=cd gW;have:=cr l3;cases h
          exact⟨À,H.qm _ _ _ (H.assign _ _ _ (uo hk) h9) À⟩
         .cases h
        .cases h
       .cases h
      .cases h
include H in
theorem Kd{xs:List A.T}(h:parse A s=.ok xs):s.length<=400/\QL Q 400 xs:=by
 unfold parse at h;split at h
 .cases h
 .next hs=>
  refine⟨À,?_⟩;have gN:=tf s;split at h
  .next ys hp=>
   cases h
   unfold pK at hp;split at hp
   .next zs l1 hm=>
    split at hp
    .cases hp
     obtain⟨_,h2⟩:=Jm (Sg H _ _) _ 0 [] _ _ _ trivial hm;exact h2.mono À
    .cases hp
   .cases hp
  .cases h
end
end
end Pn
end Sp
end
end Go.Proofs.YtiopfihjmkfdmabGreatDoor
