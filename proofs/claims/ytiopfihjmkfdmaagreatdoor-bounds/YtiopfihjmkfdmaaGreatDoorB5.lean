import Derived.Test.YtiopfihjmkfdmaaGreatDoorB3
import Derived.Test.YtiopfihjmkfdmaaGreatDoorB4
namespace Go.Proofs.YtiopfihjmkfdmaaGreatDoor
open Go.Proofs.Tryz Sp
namespace Sp
section
variable{t l l':Bs}
variable{k v:Nat}
abbrev Ct:=Int × Int
def aD(ct:Ct):Ct:=(RowKit.wrap64 (ct.1+1),ct.2)
def aL(ct:Ct):Ct:=(ct.1,RowKit.wrap64 (ct.2+1))
inductive Sm where
 | num (n:Nat)
 | name (k:Nat)
 | neg (x:Sm)
 | bin (k:Nat) (x y:Sm)
inductive Bl where
 | nil
 | assign (k:Nat) (x:Sm) (rest:Bl)
 | read (k:Nat) (rest:Bl)
 | assert (k:Nat) (x y:Sm) (rest:Bl)
 | ite (k:Nat) (x y:Sm) (xs:Bl) (els:Bool) (ys:Bl) (rest:Bl)
 | loop (k:Nat) (x y:Sm) (xs:Bl) (rest:Bl)
def aP(fs:List (Bl->Bl)):Bl:=fs.foldr (fun f b=>f b) .nil
def Tr:eW where
 S:=Sm
 num:=.num
 name:=.name
 neg:=.neg
 bin:=.bin
 T:=Bl->Bl
 assign k x:=.assign k x
 read k:=.read k
 assert k x y:=.assert k x y
 ite k x y xs ys:=.ite k x y (aP xs) ys.isSome (aP (ys.getD []))
 loop k x y xs:=.loop k x y (aP xs)
def gy(A:eW):Sm->A.S
 | .num n=>A.num n
 | .name k=>A.name k
 | .neg x=>A.neg (gy A x)
 | .bin k x y=>A.bin k (gy A x) (gy A y)
def iu(A:eW):Bl->List A.T
 | .nil=>[]
 | .assign k x rest=>A.assign k (gy A x) :: iu A rest
 | .read k rest=>A.read k :: iu A rest
 | .assert k x y rest=>A.assert k (gy A x) (gy A y) :: iu A rest
 | .ite k x y xs els ys rest=>A.ite k (gy A x) (gy A y) (iu A xs) (if els then some (iu A ys) else none) :: iu A rest
 | .loop k x y xs rest=>A.loop k (gy A x) (gy A y) (iu A xs) :: iu A rest
def YL(A:eW)(p:(Bl->Bl) × A.T):Prop:=∀rest,iu A (p.1 rest)=p.2 :: iu A rest
abbrev Qt(A:eW):={ p:(Bl->Bl) × A.T // YL A p }
theorem mf(A:eW):∀(xs:List (Qt A)),iu A (aP (xs.map fun x=>x.1.1))=xs.map fun x=>x.1.2
 | []=>rfl
 | x :: xs=>by show iu A (x.1.1 (aP (xs.map fun x=>x.1.1)))=_;rw[x.2,mf A xs];rfl
def R9(A:eW):eW where
 S:=Sm
 num:=.num
 name:=.name
 neg:=.neg
 bin:=.bin
 T:=Qt A
 assign k x:=⟨(.assign k x,A.assign k (gy A x)),fun _=>rfl⟩
 read k:=⟨(.read k,A.read k),fun _=>rfl⟩
 assert k x y:=⟨(.assert k x y,A.assert k (gy A x) (gy A y)),fun _=>rfl⟩
 ite k x y xs ys:=⟨(.ite k x y (aP (xs.map fun x=>x.1.1)) ys.isSome (aP ((ys.getD []).map fun x=>x.1.1)),A.ite k (gy A x) (gy A y) (xs.map fun x=>x.1.2) (ys.map fun l=>l.map fun x=>x.1.2)),fun rest=>by show A.ite k (gy A x) (gy A y) (iu A (aP (xs.map fun x=>x.1.1))) (if ys.isSome then some (iu A (aP ((ys.getD []).map fun x=>x.1.1))) else none) :: iu A rest=_;rw[mf,mf];cases ys<;>rfl⟩
 loop k x y xs:=⟨(.loop k x y (aP (xs.map fun x=>x.1.1)),A.loop k (gy A x) (gy A y) (xs.map fun x=>x.1.2)),fun rest=>by show A.loop k (gy A x) (gy A y) (iu A (aP (xs.map fun x=>x.1.1))) :: iu A rest=_;rw[mf]⟩
def U1(A:eW):JV (R9 A) Tr where
 s:=id
 t x:=x.1.1
 num _:=rfl
 name _:=rfl
 neg _:=rfl
 bin _ _ _:=rfl
 assign _ _:=rfl
 read _:=rfl
 assert _ _ _:=rfl
 ite k x y xs ys:=by cases ys<;>rfl
 loop _ _ _ _:=rfl
def YK(A:eW):JV (R9 A) A where
 s:=gy A
 t x:=x.1.2
 num _:=rfl
 name _:=rfl
 neg _:=rfl
 bin _ _ _:=rfl
 assign _ _:=rfl
 read _:=rfl
 assert _ _ _:=rfl
 ite _ _ _ _ _:=rfl
 loop _ _ _ _:=rfl
def tree(src:Bs):Except (Nat × Nat) Bl:=match parse Tr src with
 | .ok fs=>.ok (aP fs)
 | .error e=>.error e
theorem E7(A:eW)(src:Bs):parse A src=(match tree src with
  | .ok b=>.ok (iu A b)
  | .error e=>.error e):=by
 unfold tree;rw[yx (YK A),yx (U1 A)];cases parse (R9 A) src with
 | error e=>rfl
 | ok xs =>exact congrArg Except.ok (mf A xs).symm
theorem tG(A:eW)(lv:Nat)(part:Bs->R A.S)(m:Nat)(x:A.S)(l:Bs):bC A lv part (m+1) x l=(match eb (tok l) with
  | some k=>if cL k=lv then(match part (next l) with
    | .ok (y,l')=>bC A lv part m (A.bin k x y) l'
    | .error e=>.error e) else .ok (x,l)
  | none=>.ok (x,l)):=rfl
theorem re(h:eb t=some k):k<5:=by
 unfold eb at h
 repeat (split at h;(cases h;decide))
 cases h
theorem vO(h:dQ t=some k):k<6:=by
 unfold dQ at h
 repeat (split at h;(cases h;decide))
 cases h
theorem vQ(A:eW)(st:Bs->R A.T)(m:Nat)(acc:List A.T)(l:Bs):cZ A st (m+1) acc l=(if aC l=2 then(match st l with
   | .ok (x,l1)=>cZ A st m (acc ++ [x]) l1
   | .error e=>.error e) else .ok (acc,l)):=rfl
theorem se(h:dE l=.ok (k,l')):k<8:=by
 unfold dE at h;split at h
 ·next k' hk =>
  cases h
  unfold aR at hk;split at hk
  ·split at hk
   ·cases hk;omega
   ·cases hk
  ·cases hk
 ·cases h
theorem It(h:fE t=some v):v<=32767:=by
 unfold fE at h;split at h
 ·cases h
 ·split at h
  ·cases h;omega
  ·cases h
end
end Sp
section
namespace Sp
namespace Pn
section
variable{τ:Type}
def QL(Q:Nat->τ->Prop):Nat->List τ->Prop
 | _,[]=>True
 | n,x :: xs=>∃a b,a+b<=n/\Q a x/\QL Q b xs
theorem QL.mono{Q:Nat->τ->Prop}:∀{n m:Nat} {xs:List τ},QL Q n xs->n<=m->QL Q m xs
 | _,_,[],_,_=>trivial
 | _,_,_ :: _,⟨a,b,h,h1,h2⟩,k=>⟨a,b,by omega,h1,h2⟩
theorem QL.snoc{Q:Nat->τ->Prop}:∀{n m:Nat} {xs:List τ} {x:τ},QL Q n xs->Q m x->QL Q (n+m) (xs ++ [x])
 | n,m,[],x,_,hx=>⟨m,n,by omega,hx,trivial⟩
 | n,m,y :: ys,x,⟨a,b,h,h1,h2⟩,hx=>⟨a,b+m,by omega,h1,QL.snoc h2 hx⟩
structure Made(A:eW)(P:Nat->A.S->Prop)(Q:Nat->A.T->Prop):Prop where
 pm:∀n m x,P n x->n<=m->P m x
 qm:∀n m x,Q n x->n<=m->Q m x
 num:∀v,v<=32767->P 0 (A.num v)
 name:∀k,k<8->P 0 (A.name k)
 neg:∀n x,P n x->P n (A.neg x)
 bin:∀k n m x y,k<5->P n x->P m y->P (n+m+1) (A.bin k x y)
 assign:∀k n x,k<8->P n x->Q (n+1) (A.assign k x)
 read:∀k,k<8->Q 1 (A.read k)
 assert:∀k n m x y,k<6->P n x->P m y->Q (n+m+1) (A.assert k x y)
 ite:∀k n m j x y xs,k<6->P n x->P m y->QL Q j xs->Q (n+m+j+1) (A.ite k x y xs none)
 iteElse:∀k n m j i x y xs ys,k<6->P n x->P m y->QL Q j xs->QL Q i ys->Q (n+m+j+i+1) (A.ite k x y xs (some ys))
 loop:∀k n m j x y xs,k<6->P n x->P m y->QL Q j xs->Q (n+m+j+1) (A.loop k x y xs)
end
section
variable {A : eW}{P : Nat->A.S->Prop}{Q : Nat->A.T->Prop}(H : Made A P Q)
section
variable{lv o k:Nat}
variable{l l' s:Bs}
def Reads(P:Nat->A.S->Prop)(u:Bs->R A.S):Prop:=∀l x l',u l=.ok (x,l')->l'.length<l.length/\P (l.length - l'.length) x
include H in
theorem KN{u:Bs->R A.S}(hu:Reads P u):∀m a (x:A.S) l (y:A.S) l',P a x->bC A lv u m x l=.ok (y,l')->l'.length<=l.length/\P (a+(l.length - l'.length)) y:=by
 intro m
 induction m with
 | zero=>intro a x l y l' hx h;cases h;exact⟨Nat.le_refl _,by simpa using hx⟩
 | succ m ih =>
  intro a x l y l' hx h;rw[tG A lv u m x l]at h;split at h
  ·next k hk =>
   split at h
   ·split at h
    ·next z l1 hz =>
     obtain⟨h1,h2⟩:=hu _ _ _ hz;have h0:(next l).length<l.length:=by apply fL;rw[<-dR];apply List.length_pos_iff.2;intro e;rw[e]at hk;simp[eb]at hk
     obtain⟨h3,h4⟩:=ih _ _ _ _ _ (H.bin k a _ x z (re hk) hx h2) h;exact⟨by omega,H.pm _ _ _ h4 (by omega)⟩
    ·cases h
   ·cases h;exact⟨Nat.le_refl _,by simpa using hx⟩
  ·cases h;exact⟨Nat.le_refl _,by simpa using hx⟩
include H in
theorem GO{u:Bs->R A.S}(hu:Reads P u):Reads P (bL A lv u):=by
 intro l x l' h;unfold bL at h;split at h
 ·next y l1 hy =>
  obtain⟨h1,h2⟩:=hu _ _ _ hy;obtain⟨h3,h4⟩:=KN H hu _ _ _ _ _ _ h2 h;exact⟨by omega,H.pm _ _ _ h4 (by omega)⟩
 ·cases h
include H in
theorem MZ{u:Bs->R A.S}(hu:Reads P u):Reads P (mO A u):=GO H (GO H hu)
include H in
theorem My:∀n o,Reads P (bo A n o):=by
 intro n
 induction n with
 | zero=>intro o l x l' h;cases h
 | succ n ih =>
  intro o l x l' h;unfold bo at h;split at h
  ·next hk =>
   split at h
   ·next v hv=>cases h;exact⟨fL (dc (.inr (.inl hk))),H.pm _ _ _ (H.num v (It hv)) (Nat.zero_le _)⟩
   ·cases h
  ·split at h
   ·next zr =>
    split at h
    ·next k l1 hk =>
     obtain⟨h5,h6⟩:=gm hk;cases h
     exact⟨by rw[h6];exact fL (dc (.inl zr)),H.pm _ _ _ (H.name k (se hk)) (Nat.zero_le _)⟩
    ·cases h
   ·split at h
    ·split at h
     ·next l1 he =>
      obtain⟨ht,_,rfl⟩:=cE he;have h0:=aI ht (by simp);split at h
      ·next y l2 hy =>
       cases h
       obtain⟨h1,h2⟩:=ih _ _ _ _ hy;exact⟨by omega,H.pm _ _ _ (H.neg _ _ h2) (by omega)⟩
      ·cases h
     ·cases h
    ·split at h
     ·next l1 he =>
      obtain⟨ht,_,rfl⟩:=cE he;have h0:=aI ht (by simp);split at h
      ·next y l2 hy =>
       obtain⟨h1,h2⟩:=MZ H (ih _) _ _ _ hy;split at h
       ·next l3 PZ =>
        obtain⟨_,rfl⟩:=bU PZ;have:=cj l2;cases h
        exact⟨by omega,H.pm _ _ _ h2 (by omega)⟩
       ·cases h
      ·cases h
     ·cases h
include H in
theorem Sw{x:A.S}(h:pS A o l=.ok (x,l')):l'.length<l.length/\P (l.length - l'.length) x:=MZ H (My H _ _) _ _ _ h
include H in
theorem zF{x y:A.S}(h:bn A o l=.ok ((k,x,y),l')):k<6/\l'.length<l.length/\∃a b,a+b<=l.length - l'.length/\P a x/\P b y:=by
 unfold bn at h;split at h
 ·next x1 l1 hx =>
  split at h
  ·next k1 hk =>
   split at h
   ·next y1 l2 hy =>
    cases h
    obtain⟨h1,h2⟩:=Sw H hx;obtain⟨h3,h4⟩:=Sw H hy;have:=cj l1;exact⟨vO hk,by omega,_,_,by omega,h2,h4⟩
   ·cases h
  ·cases h
 ·cases h
def E8(Q:Nat->A.T->Prop)(st:Bs->R A.T):Prop:=∀l x l',st l=.ok (x,l')->l'.length<l.length/\Q (l.length - l'.length) x
theorem Gu{st:Bs->R A.T}(hs:E8 Q st):∀m a (acc:List A.T) l ys l',QL Q a acc->cZ A st m acc l=.ok (ys,l')->l'.length<=l.length/\QL Q (a+(l.length - l'.length)) ys:=by
 intro m
 induction m with
 | zero=>intro a acc l ys l' ha h;cases h;exact⟨Nat.le_refl _,by simpa using ha⟩
 | succ m ih =>
  intro a acc l ys l' ha h;rw[vQ A st m acc l]at h;split at h
  ·split at h
   ·next x l1 hx =>
    obtain⟨h1,h2⟩:=hs _ _ _ hx;obtain⟨h3,h4⟩:=ih _ _ _ _ _ (ha.snoc h2) h;exact⟨by omega,h4.mono (by omega)⟩
   ·cases h
  ·cases h;exact⟨Nat.le_refl _,by simpa using ha⟩
theorem vW{st:Bs->R A.T}(hs:E8 Q st){xs:List A.T}(h:aS A st o l=.ok (xs,l')):l'.length<l.length/\QL Q (l.length - l'.length) xs:=by
 unfold aS at h;split at h
 ·next l1 he =>
  obtain⟨ht,_,rfl⟩:=cE he;have h0:=aI ht (by simp);split at h
  ·next ys l2 hm =>
   obtain⟨h1,h2⟩:=Gu hs _ 0 [] _ _ _ trivial hm;split at h
   ·next l3 PZ =>
    obtain⟨_,rfl⟩:=bU PZ;have:=cj l2;cases h
    exact⟨by omega,h2.mono (by omega)⟩
   ·cases h
  ·cases h
 ·cases h
include H in
theorem PH:∀n o,E8 Q (bH A n o):=by
 intro n
 induction n with
 | zero=>intro o l x l' h;cases h
 | succ n ih =>
  intro o l x l' h;unfold bH at h;split at h
  ·next ht =>
   have h0:=aI ht (by decide);unfold gx at h;split at h
   ·next k l1 hk =>
    obtain⟨h5,rfl⟩:=gm hk;have h6:=cj (next l);split at h
    ·next l2 h2 =>
     obtain⟨_,rfl⟩:=bU h2;have:=cj (next (next l));cases h
     exact⟨by omega,H.qm _ _ _ (H.read k (se hk)) (by omega)⟩
    ·cases h
   ·cases h
  ·split at h
   ·next ht =>
    have h0:=aI ht (by decide);unfold cY at h;split at h
    ·next k x1 y1 l1 hc =>
     obtain⟨h1,h2,a,b,h3,h4,h5⟩:=zF H hc;split at h
     ·next l2 h6 =>
      obtain⟨_,rfl⟩:=bU h6;have:=cj l1;cases h
      exact⟨by omega,H.qm _ _ _ (H.assert _ _ _ _ _ h1 h4 h5) (by omega)⟩
     ·cases h
    ·cases h
   ·split at h
    ·next ht =>
     have h0:=aI ht (by decide);unfold qF at h;split at h
     ·next k x1 y1 l1 hc =>
      obtain⟨h1,h2,a,b,h3,h4,h5⟩:=zF H hc;split at h
      ·next xs l2 hb =>
       obtain⟨h6,h7⟩:=vW (ih _) hb;split at h
       ·split at h
        ·next ys l3 xG =>
         obtain⟨h8,h9⟩:=vW (ih _) xG;have:=cj l2;cases h
         exact⟨by omega,H.qm _ _ _ (H.iteElse _ _ _ _ _ _ _ _ _ h1 h4 h5 h7 h9) (by omega)⟩
        ·cases h
       ·cases h;exact⟨by omega,H.qm _ _ _ (H.ite _ _ _ _ _ _ _ h1 h4 h5 h7) (by omega)⟩
      ·cases h
     ·cases h
    ·split at h
     ·next ht =>
      have h0:=aI ht (by decide);unfold ef at h;split at h
      ·next k x1 y1 l1 hc =>
       obtain⟨h1,h2,a,b,h3,h4,h5⟩:=zF H hc;split at h
       ·next xs l2 hb =>
        obtain⟨h6,h7⟩:=vW (ih _) hb;cases h
        exact⟨by omega,H.qm _ _ _ (H.loop _ _ _ _ _ _ _ h1 h4 h5 h7) (by omega)⟩
       ·cases h
      ·cases h
     ·unfold cy at h
      split at h
      ·next k l1 hk =>
       obtain⟨h5,rfl⟩:=gm hk;have h6:(next l).length<l.length:=by
        have h2:aC l=2:=by
         unfold aR at h5;split at h5
         ·split at h5
          ·next hc=>exact hc.1
          ·cases h5
         ·cases h5
        exact fL (dc (.inl h2))
       split at h
       ·next l2 h2 =>
        obtain⟨_,rfl⟩:=bU h2;have h7:=cj (next l);split at h
        ·next x1 l3 hx =>
         obtain⟨h8,h9⟩:=Sw H hx;split at h
         ·next l4 hY =>
          obtain⟨_,rfl⟩:=bU hY;have:=cj l3;cases h
          exact⟨by omega,H.qm _ _ _ (H.assign _ _ _ (se hk) h9) (by omega)⟩
         ·cases h
        ·cases h
       ·cases h
      ·cases h
include H in
theorem GN{xs:List A.T}(h:parse A s=.ok xs):s.length<=400/\QL Q 400 xs:=by
 unfold parse at h;split at h
 ·cases h
 ·next hs =>
  refine⟨by omega,?_⟩;have fM:=ri s;split at h
  ·next ys hp =>
   cases h
   unfold ou at hp;split at hp
   ·next zs l1 hm =>
    split at hp
    ·cases hp
     obtain⟨_,h2⟩:=Gu (PH H _ _) _ 0 [] _ _ _ trivial hm;exact h2.mono (by omega)
    ·cases hp
   ·cases hp
  ·cases h
end
end
end Pn
end Sp
end
end Go.Proofs.YtiopfihjmkfdmaaGreatDoor
