import Derived.Test.YtiopfihjmkfdmaaGreatDoorR3
import Derived.Test.YtiopfihjmkfdmaaGreatDoorR4
namespace Go.Proofs.YtiopfihjmkfdmaaGreatDoor
open Option renaming none→M,some→Y
open Go.Proofs.Tryz Sp
namespace Sp
section
variable{t l l':Bs}
variable{k v:Nat}
abbrev Ct:=Int × Int
def tX(n:Int):Int:=IntKind.i16.wrap n
def work(k:Nat)(x y:Int):Option Int :=
 if k=0 then Y (tX (x+y)) else if k=1 then Y (tX (x - y)) else if k=2 then Y (tX (x*y))
 else if y=0 then M else if k=3 then Y (tX (x.tdiv y)) else Y (x.tmod y)
def holds(k:Nat)(x y:Int):Bool :=
 if k=0 then decide (x<y) else if k=1 then decide (x<=y) else if k=2 then x == y else if k=3 then x != y
 else if k=4 then decide (y<=x) else decide (y<x)
def aA(ct:Ct):Ct:=(RowKit.wrap64 (ct.1+1),ct.2)
def aJ(ct:Ct):Ct:=(ct.1,RowKit.wrap64 (ct.2+1))
inductive Sm where
 | num (n:Nat)
 | name (k:Nat)
 | neg (x:Sm)
 | bin (k:Nat) (x y:Sm)
inductive Bl where
 | nil
 | assign (k:Nat) (x:Sm) (rest:Bl)
 | read (k:Nat) (rest:Bl)
 | assert (k:Nat) (x y:Sm) (rest:Bl)
 | ite (k:Nat) (x y:Sm) (xs:Bl) (els:Bool) (ys:Bl) (rest:Bl)
 | loop (k:Nat) (x y:Sm) (xs:Bl) (rest:Bl)
def aW(fs:List (Bl->Bl)):Bl:=fs.foldr (fun f b=>f b) .nil
def Tr:eR where
 S:=Sm
 num:=.num
 name:=.name
 neg:=.neg
 bin:=.bin
 T:=Bl->Bl
 assign k x:=.assign k x
 read k:=.read k
 assert k x y:=.assert k x y
 ite k x y xs ys:=.ite k x y (aW xs) ys.isSome (aW (ys.getD []))
 loop k x y xs:=.loop k x y (aW xs)
def gv(A:eR):Sm->A.S
 | .num n=>A.num n
 | .name k=>A.name k
 | .neg x=>A.neg (gv A x)
 | .bin k x y=>A.bin k (gv A x) (gv A y)
def iB(A:eR):Bl->List A.T
 | .nil=>[]
 | .assign k x rest=>A.assign k (gv A x) :: iB A rest
 | .read k rest=>A.read k :: iB A rest
 | .assert k x y rest=>A.assert k (gv A x) (gv A y) :: iB A rest
 | .ite k x y xs els ys rest=>A.ite k (gv A x) (gv A y) (iB A xs) (if els then Y (iB A ys) else M) :: iB A rest
 | .loop k x y xs rest=>A.loop k (gv A x) (gv A y) (iB A xs) :: iB A rest
def Zo(A:eR)(p:(Bl->Bl) × A.T):Prop:=∀rest,iB A (p.1 rest)=p.2 :: iB A rest
abbrev QH(A:eR):={ p:(Bl->Bl) × A.T // Zo A p }
theorem lT(A:eR):∀(xs:List (QH A)),iB A (aW (xs.map fun x=>x.1.1))=xs.map fun x=>x.1.2
 | []=>rfl
 | x :: xs=>by show iB A (x.1.1 (aW (xs.map fun x=>x.1.1)))=_;rw[x.2,lT A xs];rfl
def SO(A:eR):eR where
 S:=Sm
 num:=.num
 name:=.name
 neg:=.neg
 bin:=.bin
 T:=QH A
 assign k x:=⟨(.assign k x,A.assign k (gv A x)),fun _=>rfl⟩
 read k:=⟨(.read k,A.read k),fun _=>rfl⟩
 assert k x y:=⟨(.assert k x y,A.assert k (gv A x) (gv A y)),fun _=>rfl⟩
 ite k x y xs ys:=⟨(.ite k x y (aW (xs.map fun x=>x.1.1)) ys.isSome (aW ((ys.getD []).map fun x=>x.1.1)),A.ite k (gv A x) (gv A y) (xs.map fun x=>x.1.2) (ys.map fun l=>l.map fun x=>x.1.2)),fun rest=>by show A.ite k (gv A x) (gv A y) (iB A (aW (xs.map fun x=>x.1.1))) (if ys.isSome then Y (iB A (aW ((ys.getD []).map fun x=>x.1.1))) else M) :: iB A rest=_;rw[lT,lT];cases ys<;>rfl⟩
 loop k x y xs:=⟨(.loop k x y (aW (xs.map fun x=>x.1.1)),A.loop k (gv A x) (gv A y) (xs.map fun x=>x.1.2)),fun rest=>by show A.loop k (gv A x) (gv A y) (iB A (aW (xs.map fun x=>x.1.1))) :: iB A rest=_;rw[lT]⟩
def U3(A:eR):Jz (SO A) Tr where
 s:=id
 t x:=x.1.1
 num _:=rfl
 name _:=rfl
 neg _:=rfl
 bin _ _ _:=rfl
 assign _ _:=rfl
 read _:=rfl
 assert _ _ _:=rfl
 ite k x y xs ys:=by cases ys<;>rfl
 loop _ _ _ _:=rfl
def Za(A:eR):Jz (SO A) A where
 s:=gv A
 t x:=x.1.2
 num _:=rfl
 name _:=rfl
 neg _:=rfl
 bin _ _ _:=rfl
 assign _ _:=rfl
 read _:=rfl
 assert _ _ _:=rfl
 ite _ _ _ _ _:=rfl
 loop _ _ _ _:=rfl
def tree(src:Bs):Except (Nat × Nat) Bl:=match parse Tr src with
 | .ok fs=>.ok (aW fs)
 | .error e=>.error e
theorem Fp(A:eR)(src:Bs):parse A src=(match tree src with
  | .ok b=>.ok (iB A b)
  | .error e=>.error e):=by
 unfold tree;rw[y5 (Za A),y5 (U3 A)];cases parse (SO A) src with
 | error e=>rfl
 | ok xs =>exact congrArg Except.ok (lT A xs).symm
theorem CJ(A:eR)(lv:Nat)(part:Bs->R A.S)(m:Nat)(x:A.S)(l:Bs):bH A lv part (m+1) x l=(match ep (tok l) with
  | some k=>if cK k=lv then(match part (next l) with
    | .ok (y,l')=>bH A lv part m (A.bin k x y) l'
    | .error e=>.error e) else .ok (x,l)
  | none=>.ok (x,l)):=rfl
theorem rK(h:ep t=Y k):k<5:=by
 unfold ep at h
 repeat (split at h;(cases h;decide))
 cases h
theorem wS(h:ea t=Y k):k<6:=by
 unfold ea at h
 repeat (split at h;(cases h;decide))
 cases h
theorem FJ(A:eR)(st:Bs->R A.T)(m:Nat)(acc:List A.T)(l:Bs):cX A st (m+1) acc l=(if aC l=2 then(match st l with
   | .ok (x,l1)=>cX A st m (acc ++ [x]) l1
   | .error e=>.error e) else .ok (acc,l)):=rfl
theorem sX(h:dG l=.ok (k,l')):k<8:=by
 unfold dG at h;split at h
 ·next k' hk =>
  cases h
  unfold aQ at hk;split at hk
  ·split at hk
   ·cases hk;omega
   ·cases hk
  ·cases hk
 ·cases h
theorem IT(h:gA t=Y v):v<=32767:=by
 unfold gA at h;split at h
 ·cases h
 ·split at h
  ·cases h;omega
  ·cases h
end
end Sp
section
namespace Sp
namespace Pn
section
variable{τ:Type}
def QL(Q:Nat->τ->Prop):Nat->List τ->Prop
 | _,[]=>True
 | n,x :: xs=>∃a b,a+b<=n/\Q a x/\QL Q b xs
theorem QL.mono{Q:Nat->τ->Prop}:∀{n m:Nat} {xs:List τ},QL Q n xs->n<=m->QL Q m xs
 | _,_,[],_,_=>trivial
 | _,_,_ :: _,⟨a,b,h,h1,h2⟩,k=>⟨a,b,by omega,h1,h2⟩
theorem QL.snoc{Q:Nat->τ->Prop}:∀{n m:Nat} {xs:List τ} {x:τ},QL Q n xs->Q m x->QL Q (n+m) (xs ++ [x])
 | n,m,[],x,_,hx=>⟨m,n,by omega,hx,trivial⟩
 | n,m,y :: ys,x,⟨a,b,h,h1,h2⟩,hx=>⟨a,b+m,by omega,h1,QL.snoc h2 hx⟩
structure Made(A:eR)(P:Nat->A.S->Prop)(Q:Nat->A.T->Prop):Prop where
 pm:∀n m x,P n x->n<=m->P m x
 qm:∀n m x,Q n x->n<=m->Q m x
 num:∀v,v<=32767->P 0 (A.num v)
 name:∀k,k<8->P 0 (A.name k)
 neg:∀n x,P n x->P n (A.neg x)
 bin:∀k n m x y,k<5->P n x->P m y->P (n+m+1) (A.bin k x y)
 assign:∀k n x,k<8->P n x->Q (n+1) (A.assign k x)
 read:∀k,k<8->Q 1 (A.read k)
 assert:∀k n m x y,k<6->P n x->P m y->Q (n+m+1) (A.assert k x y)
 ite:∀k n m j x y xs,k<6->P n x->P m y->QL Q j xs->Q (n+m+j+1) (A.ite k x y xs M)
 iteElse:∀k n m j i x y xs ys,k<6->P n x->P m y->QL Q j xs->QL Q i ys->Q (n+m+j+i+1) (A.ite k x y xs (Y ys))
 loop:∀k n m j x y xs,k<6->P n x->P m y->QL Q j xs->Q (n+m+j+1) (A.loop k x y xs)
end
section
variable {A : eR}{P : Nat->A.S->Prop}{Q : Nat->A.T->Prop}(H : Made A P Q)
section
variable{lv o k:Nat}
variable{l l' s:Bs}
def Reads(P:Nat->A.S->Prop)(u:Bs->R A.S):Prop:=∀l x l',u l=.ok (x,l')->l'.length<l.length/\P (l.length - l'.length) x
include H in
theorem Nb{u:Bs->R A.S}(hu:Reads P u):∀m a (x:A.S) l (y:A.S) l',P a x->bH A lv u m x l=.ok (y,l')->l'.length<=l.length/\P (a+(l.length - l'.length)) y:=by
 intro m
 induction m with
 | zero=>intro a x l y l' hx h;cases h;exact⟨Nat.le_refl _,by simpa using hx⟩
 | succ m ih =>
  intro a x l y l' hx h;rw[CJ A lv u m x l]at h;split at h
  ·next k hk =>
   split at h
   ·split at h
    ·next z l1 hz =>
     obtain⟨h1,h2⟩:=hu _ _ _ hz;have h0:(next l).length<l.length:=by apply gm;rw[<-eD];apply List.length_pos_iff.2;intro e;rw[e]at hk;simp[ep]at hk
     obtain⟨h3,h4⟩:=ih _ _ _ _ _ (H.bin k a _ x z (rK hk) hx h2) h;exact⟨by omega,H.pm _ _ _ h4 (by omega)⟩
    ·cases h
   ·cases h;exact⟨Nat.le_refl _,by simpa using hx⟩
  ·cases h;exact⟨Nat.le_refl _,by simpa using hx⟩
include H in
theorem GR{u:Bs->R A.S}(hu:Reads P u):Reads P (bP A lv u):=by
 intro l x l' h;unfold bP at h;split at h
 ·next y l1 hy =>
  obtain⟨h1,h2⟩:=hu _ _ _ hy;obtain⟨h3,h4⟩:=Nb H hu _ _ _ _ _ _ h2 h;exact⟨by omega,H.pm _ _ _ h4 (by omega)⟩
 ·cases h
include H in
theorem LY{u:Bs->R A.S}(hu:Reads P u):Reads P (og A u):=GR H (GR H hu)
include H in
theorem MU:∀n o,Reads P (bk A n o):=by
 intro n
 induction n with
 | zero=>intro o l x l' h;cases h
 | succ n ih =>
  intro o l x l' h;unfold bk at h;split at h
  ·next hk =>
   split at h
   ·next v hv=>cases h;exact⟨gm (dP (.inr (.inl hk))),H.pm _ _ _ (H.num v (IT hv)) (Nat.zero_le _)⟩
   ·cases h
  ·split at h
   ·next gD =>
    split at h
    ·next k l1 hk =>
     obtain⟨h5,h6⟩:=ir hk;cases h
     exact⟨by rw[h6];exact gm (dP (.inl gD)),H.pm _ _ _ (H.name k (sX hk)) (Nat.zero_le _)⟩
    ·cases h
   ·split at h
    ·split at h
     ·next l1 he =>
      obtain⟨ht,_,rfl⟩:=cN he;have h0:=aG ht (by simp);split at h
      ·next y l2 hy =>
       cases h
       obtain⟨h1,h2⟩:=ih _ _ _ _ hy;exact⟨by omega,H.pm _ _ _ (H.neg _ _ h2) (by omega)⟩
      ·cases h
     ·cases h
    ·split at h
     ·next l1 he =>
      obtain⟨ht,_,rfl⟩:=cN he;have h0:=aG ht (by simp);split at h
      ·next y l2 hy =>
       obtain⟨h1,h2⟩:=LY H (ih _) _ _ _ hy;split at h
       ·next l3 VM =>
        obtain⟨_,rfl⟩:=cd VM;have:=bZ l2;cases h
        exact⟨by omega,H.pm _ _ _ h2 (by omega)⟩
       ·cases h
      ·cases h
     ·cases h
include H in
theorem RE{x:A.S}(h:pS A o l=.ok (x,l')):l'.length<l.length/\P (l.length - l'.length) x:=LY H (MU H _ _) _ _ _ h
include H in
theorem Av{x y:A.S}(h:bh A o l=.ok ((k,x,y),l')):k<6/\l'.length<l.length/\∃a b,a+b<=l.length - l'.length/\P a x/\P b y:=by
 unfold bh at h;split at h
 ·next x1 l1 hx =>
  split at h
  ·next k1 hk =>
   split at h
   ·next y1 l2 hy =>
    cases h
    obtain⟨h1,h2⟩:=RE H hx;obtain⟨h3,h4⟩:=RE H hy;have:=bZ l1;exact⟨wS hk,by omega,_,_,by omega,h2,h4⟩
   ·cases h
  ·cases h
 ·cases h
def Fv(Q:Nat->A.T->Prop)(st:Bs->R A.T):Prop:=∀l x l',st l=.ok (x,l')->l'.length<l.length/\Q (l.length - l'.length) x
theorem GA{st:Bs->R A.T}(hs:Fv Q st):∀m a (acc:List A.T) l ys l',QL Q a acc->cX A st m acc l=.ok (ys,l')->l'.length<=l.length/\QL Q (a+(l.length - l'.length)) ys:=by
 intro m
 induction m with
 | zero=>intro a acc l ys l' ha h;cases h;exact⟨Nat.le_refl _,by simpa using ha⟩
 | succ m ih =>
  intro a acc l ys l' ha h;rw[FJ A st m acc l]at h;split at h
  ·split at h
   ·next x l1 hx =>
    obtain⟨h1,h2⟩:=hs _ _ _ hx;obtain⟨h3,h4⟩:=ih _ _ _ _ _ (ha.snoc h2) h;exact⟨by omega,h4.mono (by omega)⟩
   ·cases h
  ·cases h;exact⟨Nat.le_refl _,by simpa using ha⟩
theorem vX{st:Bs->R A.T}(hs:Fv Q st){xs:List A.T}(h:aO A st o l=.ok (xs,l')):l'.length<l.length/\QL Q (l.length - l'.length) xs:=by
 unfold aO at h;split at h
 ·next l1 he =>
  obtain⟨ht,_,rfl⟩:=cN he;have h0:=aG ht (by simp);split at h
  ·next ys l2 hm =>
   obtain⟨h1,h2⟩:=GA hs _ 0 [] _ _ _ trivial hm;split at h
   ·next l3 VM =>
    obtain⟨_,rfl⟩:=cd VM;have:=bZ l2;cases h
    exact⟨by omega,h2.mono (by omega)⟩
   ·cases h
  ·cases h
 ·cases h
include H in
theorem O7:∀n o,Fv Q (bN A n o):=by
 intro n
 induction n with
 | zero=>intro o l x l' h;cases h
 | succ n ih =>
  intro o l x l' h;unfold bN at h;split at h
  ·next ht =>
   have h0:=aG ht (by decide);unfold gG at h;split at h
   ·next k l1 hk =>
    obtain⟨h5,rfl⟩:=ir hk;have h6:=bZ (next l);split at h
    ·next l2 h2 =>
     obtain⟨_,rfl⟩:=cd h2;have:=bZ (next (next l));cases h
     exact⟨by omega,H.qm _ _ _ (H.read k (sX hk)) (by omega)⟩
    ·cases h
   ·cases h
  ·split at h
   ·next ht =>
    have h0:=aG ht (by decide);unfold cY at h;split at h
    ·next k x1 y1 l1 hc =>
     obtain⟨h1,h2,a,b,h3,h4,h5⟩:=Av H hc;split at h
     ·next l2 h6 =>
      obtain⟨_,rfl⟩:=cd h6;have:=bZ l1;cases h
      exact⟨by omega,H.qm _ _ _ (H.assert _ _ _ _ _ h1 h4 h5) (by omega)⟩
     ·cases h
    ·cases h
   ·split at h
    ·next ht =>
     have h0:=aG ht (by decide);unfold qR at h;split at h
     ·next k x1 y1 l1 hc =>
      obtain⟨h1,h2,a,b,h3,h4,h5⟩:=Av H hc;split at h
      ·next xs l2 hb =>
       obtain⟨h6,h7⟩:=vX (ih _) hb;split at h
       ·split at h
        ·next ys l3 BJ =>
         obtain⟨h8,h9⟩:=vX (ih _) BJ;have:=bZ l2;cases h
         exact⟨by omega,H.qm _ _ _ (H.iteElse _ _ _ _ _ _ _ _ _ h1 h4 h5 h7 h9) (by omega)⟩
        ·cases h
       ·cases h;exact⟨by omega,H.qm _ _ _ (H.ite _ _ _ _ _ _ _ h1 h4 h5 h7) (by omega)⟩
      ·cases h
     ·cases h
    ·split at h
     ·next ht =>
      have h0:=aG ht (by decide);unfold eA at h;split at h
      ·next k x1 y1 l1 hc =>
       obtain⟨h1,h2,a,b,h3,h4,h5⟩:=Av H hc;split at h
       ·next xs l2 hb =>
        obtain⟨h6,h7⟩:=vX (ih _) hb;cases h
        exact⟨by omega,H.qm _ _ _ (H.loop _ _ _ _ _ _ _ h1 h4 h5 h7) (by omega)⟩
       ·cases h
      ·cases h
     ·unfold cu at h
      split at h
      ·next k l1 hk =>
       obtain⟨h5,rfl⟩:=ir hk;have h6:(next l).length<l.length:=by
        have h2:aC l=2:=by
         unfold aQ at h5;split at h5
         ·split at h5
          ·next hc=>exact hc.1
          ·cases h5
         ·cases h5
        exact gm (dP (.inl h2))
       split at h
       ·next l2 h2 =>
        obtain⟨_,rfl⟩:=cd h2;have h7:=bZ (next l);split at h
        ·next x1 l3 hx =>
         obtain⟨h8,h9⟩:=RE H hx;split at h
         ·next l4 gB =>
          obtain⟨_,rfl⟩:=cd gB;have:=bZ l3;cases h
          exact⟨by omega,H.qm _ _ _ (H.assign _ _ _ (sX hk) h9) (by omega)⟩
         ·cases h
        ·cases h
       ·cases h
      ·cases h
include H in
theorem G0{xs:List A.T}(h:parse A s=.ok xs):s.length<=400/\QL Q 400 xs:=by
 unfold parse at h;split at h
 ·cases h
 ·next hs =>
  refine⟨by omega,?_⟩;have fK:=qY s;split at h
  ·next ys hp =>
   cases h
   unfold pO at hp;split at hp
   ·next zs l1 hm =>
    split at hp
    ·cases hp
     obtain⟨_,h2⟩:=GA (O7 H _ _) _ 0 [] _ _ _ trivial hm;exact h2.mono (by omega)
    ·cases hp
   ·cases hp
  ·cases h
end
end
end Pn
end Sp
end
end Go.Proofs.YtiopfihjmkfdmaaGreatDoor
