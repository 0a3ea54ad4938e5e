import Derived.Test.YtiopfihjmkfdmabGreatDoorC13
namespace Go.Proofs.YtiopfihjmkfdmabGreatDoor
open Option renaming none->M,some->Y
open Go.IntKind renaming i64->O,i16->ψ
open Go.Value renaming int->I,bool->U
open Go.Proofs.Tryz Sp
namespace Sp
section
variable{v n:Int}
structure Cg where
 m:Nat
 r:Int
deriving DecidableEq
def bF(x:Cg)(n:Int):Prop:=if x.m=0 then n=x.r else(n-x.r)%(x.m:Int)=0
instance (x:Cg) (n:Int):Decidable (bF x n):=by unfold bF;infer_instance
def BV:Cg:=⟨1,0⟩
def dR(k:Nat)(v:Int):Cg:=⟨Nat.gcd k 65536,v%(Nat.gcd k 65536:Nat)⟩
def kI(g:Nat)(v:Int):Cg:=⟨g,v%(g:Int)⟩
def jS(x:Cg):Cg:=if x.m=0 then⟨0,wh (-x.r)⟩ else dR x.m (-x.r)
def dI(k:Nat)(x y:Cg):Option Cg:=
 if x.m=0/\y.m=0 then(work k x.r y.r).map λn=>⟨0,n⟩
 else if 3<=k/\y.m=0/\y.r=0 then M
 else if k=0 then Y (dR (Nat.gcd x.m y.m) (x.r+y.r))
 else if k=1 then Y (dR (Nat.gcd x.m y.m) (x.r-y.r))
 else if k=2 then(if(x.m=0/\x.r=0)∨(y.m=0/\y.r=0) then Y ⟨0,0⟩ else Y (dR (Nat.gcd (Nat.gcd (x.m*y.m) ((x.m:Int)*y.r).natAbs) ((y.m:Int)*x.r).natAbs) (x.r*y.r)))
 else if k=3 then Y BV
 else Y (kI (Nat.gcd (Nat.gcd x.m y.m) y.r.natAbs) x.r)
def cD(x y:Cg):Cg:=if Nat.gcd (Nat.gcd x.m y.m) (x.r-y.r).natAbs=0 then x else kI (Nat.gcd (Nat.gcd x.m y.m) (x.r-y.r).natAbs) x.r
theorem mem_iff(x:Cg)(n:Int):bF x n↔(x.m:Int)∣(n-x.r):=by
 unfold bF;by_cases h:x.m=0
 .rw[Á h,h]
  simp;omega
 .rw[Â h]
  exact Int.dvd_iff_emod_eq_zero.symm
theorem Gz{g:Nat}(h:(g:Int)∣n-v):bF (kI g v) n:=by
 rw[mem_iff];show(g:Int)∣n-v%(g:Int);have e:n-v%(g:Int)=(n-v)+(g:Int)*(v / (g:Int)):=by have:=Int.emod_add_mul_ediv v g;omega
 rw[e];exact Int.dvd_add h (Int.dvd_mul_right _ _)
theorem A5(x y:Cg)(n:Int)(h:bF x n):bF (cD x y) n:=by
 unfold cD;by_cases hg:Nat.gcd (Nat.gcd x.m y.m) (x.r-y.r).natAbs=0
 .rw[Á hg];exact h
 .rw[Â hg]
  rw[mem_iff]at h;exact Gz (Int.dvd_trans (Int.natCast_dvd_natCast.2 (Nat.dvd_trans (Nat.gcd_dvd_left _ _) (Nat.gcd_dvd_left _ _))) h)
theorem AN(x y:Cg)(n:Int)(h:bF y n):bF (cD x y) n:=by
 unfold cD;rw[mem_iff]at h;by_cases hg:Nat.gcd (Nat.gcd x.m y.m) (x.r-y.r).natAbs=0
 .rw[Á hg,mem_iff]
  obtain⟨h1,h2⟩:=Nat.gcd_eq_zero_iff.1 hg;obtain⟨h3,h4⟩:=Nat.gcd_eq_zero_iff.1 h1;rw[h4]at h;rw[h3];simp at h⊢;omega
 .rw[Â hg]
  refine Gz ?_;have d1:((Nat.gcd (Nat.gcd x.m y.m) (x.r-y.r).natAbs:Nat):Int)∣(y.m:Int):=Int.natCast_dvd_natCast.2 (Nat.dvd_trans (Nat.gcd_dvd_left _ _) (Nat.gcd_dvd_right _ _));have d2:((Nat.gcd (Nat.gcd x.m y.m) (x.r-y.r).natAbs:Nat):Int)∣x.r-y.r:=Int.ofNat_dvd_left.2 (Nat.gcd_dvd_right _ _);rw[show n-x.r=(n-y.r)-(x.r-y.r) by omega];exact Int.dvd_sub (Int.dvd_trans d1 h) d2
def fM(p:Int->Bool):Nat->Int->Option Int
 |0,_=>M
 |f+1,n=>if p n then Y n else fM p f (n+1)
theorem fQ{p:Int->Bool}:∀{f:Nat} {n g:Int},fM p f n=Y g->p g=true/\n<=g/\g<n+f/\∀k,n<=k->k<g->p k=false
 |0,_,_,h=>by cases h
 |f+1,n,g,h=>by
  unfold fM at h;by_cases hp:p n=true
  .rw[Á hp]at h
   cases h
   exact⟨hp,Ò,À,λk h1 h2=>À⟩
  .rw[Â hp]at h
   obtain⟨h1,h2,h3,h4⟩:=fQ h;refine⟨h1,À,À,λk k1 k2=>?_⟩;by_cases e:k=n
   .subst e;simpa using hp
   .exact h4 k À k2
theorem kJ{p:Int->Bool}:∀{f:Nat} {n:Int},fM p f n=M->∀k,n<=k->k<n+f->p k=false
 |0,_,_,k,h1,h2=>À
 |f+1,n,h,k,h1,h2=>by
  unfold fM at h;by_cases hp:p n=true
  .rw[Á hp]at h;cases h
  .rw[Â hp]at h
   by_cases e:k=n
   .subst e;simpa using hp
   .exact kJ h k À À
def bN(x y:Cg)(n:Int):Bool:=decide (bF x n)&&decide (bF y n)
def bu(x y:Cg):Option Cg:=match fM (bN x y) 65536 (-32768) with
 |none=>M
 |some f=>Y (match fM (bN x y) (32767-f).toNat (f+1) with
  |none=>⟨0,f⟩
  |some g=>kI (g-f).toNat f)
theorem mZ{x y:Cg}:bN x y n=true↔((x.m:Int)∣n-x.r)/\((y.m:Int)∣n-y.r):=by unfold bN;rw[à,Õ,Õ,mem_iff,mem_iff]
theorem xI{x y:Cg}(hn:pr n)(hx:bF x n)(hy:bF y n):∃v,bu x y=Y v/\bF v n:=by
 have hb:bN x y n=true:=by unfold bN;simp[hx,hy]
 unfold pr at hn;unfold bu;cases hf:fM (bN x y) 65536 (-32768) with
 |none=>have:=kJ hf n À À;rw[this]at hb;cases hb
 |some f=>
  obtain⟨f1,f2,f3,f4⟩:=fQ hf;have hfn:f<=n:=by
   rcases Int.lt_or_le n f with h|h
   .have:=f4 n À h
    rw[this]at hb;cases hb
   .exact h
  refine⟨_,rfl,?_⟩;cases hg:fM (bN x y) (32767-f).toNat (f+1) with
  |none=>
   have:n=f:=by
    rcases Int.lt_or_le f n with h|h
    .have:=kJ hg n À À
     rw[this]at hb;cases hb
    .omega
   rw[this,mem_iff];simp
  |some g=>
   obtain⟨g1,g2,g3,g4⟩:=fQ hg;refine Gz ?_;have hD:(((g-f).toNat:Nat):Int)=g-f:=À;rw[hD];obtain⟨fx,fy⟩:=mZ.1 f1;obtain⟨gx,gy⟩:=mZ.1 g1;obtain⟨nx,ny⟩:=mZ.1 hb;have dx:(x.m:Int)∣g-f:=by rw[show g-f=(g-x.r)-(f-x.r) by omega];exact Int.dvd_sub gx fx
   have dy:(y.m:Int)∣g-f:=by rw[show g-f=(g-y.r)-(f-y.r) by omega];exact Int.dvd_sub gy fy
   have tR:0<g-f:=À;have e:=Int.emod_add_mul_ediv (n-f) (g-f);have t1:=Int.emod_nonneg (n-f) (b:=g-f) À;have t2:=Int.emod_lt_of_pos (n-f) tR;rw[Int.dvd_iff_emod_eq_zero]
   rcases Int.lt_or_le 0 ((n-f)%(g-f)) with ht|ht
   .have hc:bN x y (f+(n-f)%(g-f))=true:=by
     rw[mZ];constructor
     .rw[show f+(n-f)%(g-f)-x.r=(n-x.r)-(g-f)*((n-f) / (g-f)) by omega]
      exact Int.dvd_sub nx (Int.dvd_trans dx (Int.dvd_mul_right _ _))
     .rw[show f+(n-f)%(g-f)-y.r=(n-y.r)-(g-f)*((n-f) / (g-f)) by omega]
      exact Int.dvd_sub ny (Int.dvd_trans dy (Int.dvd_mul_right _ _))
    have:=g4 (f+(n-f)%(g-f)) À À;rw[this]at hc;cases hc
   .omega
def sS(r:Nat)(x y:Cg):Bool:=!(decide (x.m=0)&&decide (y.m=0)&&!holds r x.r y.r)&&!(decide (r=2)&&(bu x y).isNone)
def mg(r:Nat)(x y:Cg):Option Cg:=if r=2 then bu x y else Y x
def YK:rv where
 V:=Cg
 dec:=inferInstance
 num n:=⟨0,n⟩
 whole:=BV
 neg:=jS
 work:=dI
 nought x:=decide (bF x 0)
 join:=cD
 may:=sS
 bound:=mg
 widen _ y:=y
 narrow x _:=x
 fuel:=1100000
def cV(x:Cg):Prop:=(x.m=0/\pr x.r)∨(1<=x.m/\x.m<=65536/\0<=x.r/\x.r<x.m)
theorem Jw{g:Nat}(h1:1<=g)(h2:g<=65536)(v:Int):cV (kI g v):=
 .inr ⟨h1,h2,Int.emod_nonneg _ (by show(g:Int)≠0;omega),Int.emod_lt_of_pos _ (by show(0:Int)<g;omega)⟩
theorem Dj(k:Nat)(v:Int):cV (dR k v):=
 Jw (Nat.gcd_pos_of_pos_right k À) (Nat.gcd_le_right k À) v
theorem yV(h:pr n):cV ⟨0,n⟩:=.inl ⟨rfl,h⟩
theorem GQ{x:Cg}(h:cV x):x.m<=65536:=by
 rcases h with h|h
 .omega
 .exact h.2.1
theorem Qf(k:Nat)(x y v:Cg)(hx:cV x)(hy:cV y)(h:dI k x y=Y v):cV v:=by
 unfold dI at h;split at h
 .next h0=>
  rcases hx with⟨_,hx⟩|hx
  .cases hw:work k x.r y.r with
   |none=>rw[hw]at h;cases h
   |some n=>
    rw[hw]at h;cases h
    exact yV (Jv hx hw)
  .omega
 .next h0=>
  split at h
  .cases h
  .split at h
   .cases h;exact Dj _ _
   .split at h
    .cases h;exact Dj _ _
    .split at h
     .split at h
      .cases h;exact yV (by unfold pr;omega)
      .cases h;exact Dj _ _
     .split at h
      .cases h;exact .inr ⟨É,É,É,É⟩
      .cases h
       have mx:=GQ hx;have my:=GQ hy;have hg:0<Nat.gcd x.m y.m:=by
        by_cases e:x.m=0
        .exact Nat.gcd_pos_of_pos_right _ (by have:y.m≠0:=λe2=>h0 ⟨e,e2⟩;omega)
        .exact Nat.gcd_pos_of_pos_left _ À
       have hle:Nat.gcd x.m y.m<=65536:=by
        by_cases e:x.m=0
        .have:y.m≠0:=λe2=>h0 ⟨e,e2⟩
         exact Nat.le_trans (Nat.gcd_le_right _ À) my
        .exact Nat.le_trans (Nat.gcd_le_left _ À) mx
       exact Jw (Nat.gcd_pos_of_pos_left _ hg) (Nat.le_trans (Nat.gcd_le_left _ hg) hle) _
theorem Fp(x y:Cg)(hx:cV x)(hy:cV y):cV (cD x y):=by
 unfold cD;by_cases hg:Nat.gcd (Nat.gcd x.m y.m) (x.r-y.r).natAbs=0
 .rw[Á hg];exact hx
 .rw[Â hg]
  have mx:=GQ hx;have my:=GQ hy;refine Jw À ?_ _;by_cases e:Nat.gcd x.m y.m=0
  .obtain⟨e1,e2⟩:=Nat.gcd_eq_zero_iff.1 e
   rw[e,Nat.gcd_zero_left]
   rcases hx with⟨_,hx⟩|hx
   .rcases hy with⟨_,hy⟩|hy
    .unfold pr at*;omega
    .omega
   .omega
  .refine Nat.le_trans (Nat.gcd_le_left _ À) ?_
   by_cases e1:x.m=0
   .rw[e1,Nat.gcd_zero_left];exact my
   .exact Nat.le_trans (Nat.gcd_le_left _ À) mx
theorem Lb(r:Nat)(x y v:Cg)(hx:cV x)(_:cV y)(h:mg r x y=Y v):cV v:=by
 unfold mg at h;split at h
 .unfold bu at h
  cases hf:fM (bN x y) 65536 (-32768) with
  |none=>rw[hf]at h;cases h
  |some f=>
   rw[hf]at h;simp only at h;obtain⟨_,f2,f3,_⟩:=fQ hf;cases hg:fM (bN x y) (32767-f).toNat (f+1) with
   |none=>
    rw[hg]at h;cases h
    exact yV (by unfold pr;omega)
   |some g=>
    rw[hg]at h;obtain⟨_,g2,g3,_⟩:=fQ hg;cases h
    exact Jw À À _
 .cases h;exact hx
def uO(x:Cg):Nat:=if x.m=0 then 0 else 65537-x.m
theorem Hf(x y:Cg)(hx:cV x)(hy:cV y)(h:cD x y≠x):uO x<uO (cD x y):=by
 have hw:=Fp x y hx hy;unfold cD at*;by_cases hg:Nat.gcd (Nat.gcd x.m y.m) (x.r-y.r).natAbs=0
 .rw[Á hg]at h;exact absurd rfl h
 .rw[Â hg]at h hw⊢
  have mx:=GQ hx;have hgm:=GQ hw;unfold uO;show(if x.m=0 then 0 else 65537-x.m)<(if Nat.gcd (Nat.gcd x.m y.m) (x.r-y.r).natAbs=0 then 0 else 65537-Nat.gcd (Nat.gcd x.m y.m) (x.r-y.r).natAbs);rw[Â hg];have hgm:Nat.gcd (Nat.gcd x.m y.m) (x.r-y.r).natAbs<=65536:=hgm;by_cases hm:x.m=0
  .rw[Á hm];omega
  .rw[Â hm]
   have hd:Nat.gcd (Nat.gcd x.m y.m) (x.r-y.r).natAbs∣x.m:=Nat.dvd_trans (Nat.gcd_dvd_left _ _) (Nat.gcd_dvd_left _ _);have hle:=Nat.le_of_dvd À hd;have db:Nat.gcd (Nat.gcd x.m y.m) (x.r-y.r).natAbs≠x.m:=λe=>by
    apply h;rw[e]
    rcases hx with⟨hx,_⟩|⟨_,_,h3,h4⟩
    .exact absurd hx hm
    .unfold kI
     rw[Int.emod_eq_of_lt h3 h4]
   omega
def Cr:Rk YK where
 wf:=cV
 rk:=uO
 top:=65536
 le x h:=by unfold uO;split<;>omega
 wnum _ h:=yV h
 wwhole:=.inr ⟨É,É,É,É⟩
 wneg x _:=by
  show cV (jS x);unfold jS;split
  .exact yV (uC _)
  .exact Dj _ _
 wwork:=Qf
 wjoin:=Fp
 wbound:=Lb
 wwiden _ _ _ h:=h
 sub x y:=∀n,bF x n->bF y n
 sub_refl _ _ h:=h
 sub_trans _ _ _ h k n hn:=k n (h n hn)
 sub_joinl:=A5
 sub_joinr x y:=AN x y
 sub_narrow _ _ _ h _:=h
 wnarrow _ _ _ h _ _ _ _:=h
 join_lt:=Hf
 widen_le _ _ _ _:=È
 fuel:=É
theorem ķ(steps:List Int):Ab (pd steps) where
 bH x y _ h:=by
  have h1:x.a<=y.a:=h.1;have h2:y.b<=x.b:=h.2;show(⟨min x.a y.a,max x.b y.b⟩:Iv)=x;refine si ?_ ?_
  .show min x.a y.a=x.a;omega
  .show max x.b y.b=x.b;omega
theorem RE(x y:Cg)(hx:cV x)(h:∀n,bF y n->bF x n):cD x y=x:=by
 have h1:(x.m:Int)∣y.r-x.r:=(mem_iff x y.r).1 (h y.r ((mem_iff y y.r).2 Ä));have h2:(x.m:Int)∣y.r+y.m-x.r:=(mem_iff x (y.r+y.m)).1 (h (y.r+y.m) ((mem_iff y _).2 (by rw[show y.r+(y.m:Int)-y.r=y.m by omega];exact Int.dvd_refl _)));have h3:(x.m:Int)∣(y.m:Int):=by
  have:=Int.dvd_sub h2 h1
  rwa[show y.r+(y.m:Int)-x.r-(y.r-x.r)=y.m by omega]at this
 have d1:x.m∣y.m:=Int.natCast_dvd_natCast.1 h3;have d2:x.m∣(x.r-y.r).natAbs:=by
  have:(x.m:Int)∣x.r-y.r:=by
   have:=Int.dvd_neg.2 h1
   rwa[show -(y.r-x.r)=x.r-y.r by omega]at this
  exact Int.ofNat_dvd_left.1 this
 have hg:Nat.gcd (Nat.gcd x.m y.m) (x.r-y.r).natAbs=x.m:=by rw[Nat.gcd_eq_left d1,Nat.gcd_eq_left d2]
 unfold cD;rw[hg];by_cases hm:x.m=0
 .rw[Á hm]
 .rw[Â hm]
  rcases hx with⟨h0,_⟩|⟨_,_,h3,h4⟩
  .exact absurd h0 hm
  .unfold kI
   rw[Int.emod_eq_of_lt h3 h4]
end
end Sp
section
namespace W
open Sp
section
variable{E:Bool}
def mz(x:Iv):Cg:=⟨x.a.toNat,x.b⟩
def vR(x:Cg):Iv:=⟨x.m,x.r⟩
theorem qE{x:Iv}(h:0<=x.a):vR (mz x)=x:=si (Int.toNat_of_nonneg h) rfl
structure aw(E:Bool) where
 l:List Int
def iC(E:Bool)(n:Int):Iv:=bif E then⟨n,n⟩ else⟨0,n⟩
def dV(E:Bool):Iv:=bif E then xA else⟨1,0⟩
def kD(E:Bool)(x:Iv):Iv:=bif E then dE (-x.b) (-x.a) else vR (jS (mz x))
def qj(E:Bool)(k:Nat)(x y:Iv):Option Iv:=bif E then nP k x y else(dI k (mz x) (mz y)).map vR
def iR(E:Bool)(x:Iv):Bool:=bif E then decide (x.a<=0)&&decide (0<=x.b) else decide (bF (mz x) 0)
def dM(E:Bool)(x y:Iv):Iv:=bif E then⟨min x.a y.a,max x.b y.b⟩ else vR (cD (mz x) (mz y))
def nV(E:Bool)(r:Nat)(x y:Iv):Bool:=bif E then dO r x y else sS r (mz x) (mz y)
def iP(E:Bool)(r:Nat)(x y:Iv):Option Iv:=bif E then nY r x y else(mg r (mz x) (mz y)).map vR
def iB(G:aw E)(x y:Iv):Iv:=bif E then bY G.l x y else y
def kC(E:Bool)(x y:Iv):Iv:=bif E then eO x y else x
def Dm(G:aw E):rv where
 V:=Iv
 dec:=inferInstance
 num:=iC E
 whole:=dV E
 neg:=kD E
 work:=qj E
 nought:=iR E
 join:=dM E
 may:=nV E
 bound:=iP E
 widen:=iB G
 narrow:=kC E
 fuel:=1100000
def Wv(E:Bool)(x:Iv):Prop:=bif E then lj x else 0<=x.a/\cV (mz x)
theorem AY{v:Cg}(h:cV v):Wv false (vR v):=⟨Int.natCast_nonneg _,h⟩
theorem PH{o:Option Cg}{v:Iv}(h:o.map vR=Y v):∃u,o=Y u/\vR u=v:=by
 cases o with
 |none=>cases h
 |some u=>exact⟨u,rfl,by cases h;rfl⟩
def Kr(G:aw E):Rk (Dm G) where
 wf:=Wv E
 rk x:=bif E then(x.b-x.a+65535).toNat else uO (mz x)
 top:=131070
 le x h:=by
  cases E
  .exact Nat.le_trans (Cr.le _ h.2) É
  .exact(pd G.l).le x h
 wnum n h:=by
  cases E
  .exact⟨Ò,Cr.wnum n h⟩
  .exact(pd G.l).wnum n h
 wwhole:=by
  cases E
  .exact AY Cr.wwhole
  .exact(pd G.l).wwhole
 wneg x h:=by
  cases E
  .exact AY (Cr.wneg _ h.2)
  .exact(pd G.l).wneg x h
 wwork k x y v h h' e:=by
  cases E
  .obtain⟨u,q,rfl⟩:=PH e
   exact AY (Cr.wwork k _ _ u h.2 h'.2 q)
  .exact(pd G.l).wwork k x y v h h' e
 wjoin x y h h':=by
  cases E
  .exact AY (Cr.wjoin _ _ h.2 h'.2)
  .exact(pd G.l).wjoin x y h h'
 wbound k x y v h h' e:=by
  cases E
  .obtain⟨u,q,rfl⟩:=PH e
   exact AY (Cr.wbound k _ _ u h.2 h'.2 q)
  .exact(pd G.l).wbound k x y v h h' e
 wwiden x y h h':=by
  cases E
  .exact h'
  .exact(pd G.l).wwiden x y h h'
 sub x y:=bif E then y.a<=x.a/\x.b<=y.b else ∀n,bF (mz x) n->bF (mz y) n
 sub_refl x:=by
  cases E
  .exactλ_ h=>h
  .exact(pd G.l).sub_refl x
 sub_trans x y z h k:=by
  cases E
  .exactλn hn=>k n (h n hn)
  .exact(pd G.l).sub_trans x y z h k
 sub_joinl x y:=by
  cases E
  .exact A5 _ _
  .exact(pd G.l).sub_joinl x y
 sub_joinr x y:=by
  cases E
  .exact AN _ _
  .exact(pd G.l).sub_joinr x y
 sub_narrow x y z h k:=by
  cases E
  .exact h
  .exact(pd G.l).sub_narrow x y z h k
 wnarrow x y z h h' h'' k k':=by
  cases E
  .exact h
  .exact(pd G.l).wnarrow x y z h h' h'' k k'
 join_lt x y h h' e:=by
  cases E
  .exact Cr.join_lt _ _ h.2 h'.2 λq=>e (by show vR (cD (mz x) (mz y))=x;rw[show cD (mz x) (mz y)=mz x from q,qE h.1])
  .exact(pd G.l).join_lt x y h h' e
 widen_le x y h h':=by
  cases E
  .exact È
  .exact(pd G.l).widen_le x y h h'
 fuel:=show 8*131070<1100000 by decide
theorem abs(G:aw E):Ab (Kr G) where
 bH x y h k:=by
  cases E
  .show vR (cD (mz x) (mz y))=x
   rw[RE _ _ h.2 k,qE h.1]
  .exact(ķ G.l).bH x y h k
end
end W
end
section
namespace W
open Go
variable {E: Bool}
section
variable{b:Bool}
@[reducible] def aw.ix (_:aw E) (a b:Nat):Nat:=match E with | true=>a | false=>b
@[reducible] def aw.kd (_:aw E):IntKind:=match E with | true=>ψ | false=>O
@[reducible] def aw.Wv (_:aw E) (x:Sp.Iv):Prop:=W.Wv E x
@[reducible] def aw.zS (G:aw E):Array Value:=#[U false,I G.kd 0,I G.kd 0,I G.kd 0,I G.kd 0,I G.kd 0,I G.kd 0,I G.kd 0,I G.kd 0,I G.kd 0,I G.kd 0,I G.kd 0,I G.kd 0,I G.kd 0,I G.kd 0,I G.kd 0,I G.kd 0]
@[reducible] def aw.zE (G:aw E):Array Value:=#[I O 0,U false,I G.kd 0,I G.kd 0,I G.kd 0,I G.kd 0,I G.kd 0,I G.kd 0,I G.kd 0,I G.kd 0,I G.kd 0,I G.kd 0,I G.kd 0,I G.kd 0,I G.kd 0,I G.kd 0,I G.kd 0,I G.kd 0]
@[reducible] def aw.zP (G:aw E):Array Value:=#[U false,I G.kd 0,I G.kd 0,I G.kd 0,I G.kd 0,I G.kd 0,I G.kd 0,I G.kd 0,I G.kd 0,I G.kd 0,I G.kd 0,I G.kd 0,I G.kd 0,I G.kd 0,I G.kd 0,I G.kd 0,I G.kd 0,U false]
abbrev ST:=Option (Fin 8->Sp.Iv)
abbrev Fd:=List ST×List Nat
abbrev cE:=fG Sp.Iv
def told(G:aw E)(b:Bool)(F:Fd)(es:List cE):Fd:=if b then Sp.tell (Dm G) F es else F
theorem eI(G:aw E)(b:Bool)(F:Fd):told G b F []=F:=by cases b<;>rfl
theorem aH(G:aw E)(b:Bool)(F:Fd)(es es':List cE):told G b F (es++es')=told G b (told G b F es) es':=by
 cases b
 .rfl
 .exact List.foldl_append
def ô(F:Fd):cE->Prop
 |.aA p _=>0<=p/\p.toNat<F.1.length
 |.site q _=>0<=q/\q.toNat<F.2.length
def dk(b:Bool)(F:Fd)(es:List cE):Prop:=b=true->∀ev∈es,ô F ev
theorem dk.left{F:Fd}{es es':List cE}(h:dk b F (es++es')):dk b F es:=λhb ev hv=>h hb ev (List.mem_append.2 (.inl hv))
theorem MB(G:aw E)(F:Fd)(x:cE):(cY (Dm G) F x).1.length=F.1.length/\(cY (Dm G) F x).2.length=F.2.length:=by
 cases x with
 |aA p s=>exact⟨List.length_modify ..,rfl⟩
 |site q b=>exact⟨rfl,List.length_modify ..⟩
theorem mY(G:aw E):∀(es:List cE) (F:Fd),(Sp.tell (Dm G) F es).1.length=F.1.length/\(Sp.tell (Dm G) F es).2.length=F.2.length
 |[],_=>⟨rfl,rfl⟩
 |x::es,F=>by obtain⟨h1,h2⟩:=mY G es (cY (Dm G) F x);obtain⟨h3,h4⟩:=MB G F x;exact⟨h1.trans h3,h2.trans h4⟩
theorem jR(G:aw E)(b:Bool)(F:Fd)(es:List cE):(told G b F es).1.length=F.1.length/\(told G b F es).2.length=F.2.length:=by
 cases b
 .exact⟨rfl,rfl⟩
 .exact mY G es F
theorem ô.told{G:aw E}{F:Fd}{es:List cE}{x:cE}(h:ô F x):ô (told G b F es) x:=by
 obtain⟨h1,h2⟩:=jR G b F es;cases x with
 |aA p s=>exact⟨h.1,by rw[h1];exact h.2⟩
 |site q b=>exact⟨h.1,by rw[h2];exact h.2⟩
theorem dk.right{G:aw E}{F:Fd}{es es':List cE}(h:dk b F (es++es')):dk b (W.told G b F es) es':=λhb ev hv=>(h hb ev (List.mem_append.2 (.inr hv))).told
theorem kU(F:Fd)(es:List cE):dk false F es:=λh=>by cases h
end
end W
end
namespace Sp
section
variable{ns ms:List Nat}
variable{l a b t l1 l' src:Bs}
variable{o k lv v:Nat}
theorem lB.Of(h:lB [] l ns):l=[]/\ns=[]:=by
 induction h with
 |nil=>exact⟨rfl,rfl⟩
 |step _ ih=>obtain⟨rfl,rfl⟩:=ih;exact⟨rfl,rfl⟩
theorem lB.head(h:lB a l ns):(l=a/\ns=[])∨∃ms,lB (next a) l ms/\ns=mC a++ms:=by
 induction h with
 |nil=>exact .inl ⟨rfl,rfl⟩
 |@step l ns h ih=>
  right
  rcases ih with⟨rfl,rfl⟩|⟨ms,h1,rfl⟩
  .exact⟨[],.nil,Ä⟩
  .exact⟨_,h1.step,Ä⟩
def bx:Sm->List Nat
 |.num n=>[n]
 |.name _=>[]
 |.neg x=>bx x
 |.bin _ x y=>bx x++bx y
def bD:Bl->List Nat
 |.nil=>[]
 |.assign _ x rest=>bx x++bD rest
 |.read _ rest=>bD rest
 |.assert _ x y rest=>bx x++bx y++bD rest
 |.ite _ x y xs _ ys rest=>bx x++bx y++bD xs++bD ys++bD rest
 |.loop _ x y xs rest=>bx x++bx y++bD xs++bD rest
theorem lA:∀x:Sm,tX x=(bx x).map λn:Nat=>(n:Int)
 |.num _=>rfl
 |.name _=>rfl
 |.neg x=>lA x
 |.bin _ x y=>by show tX x++tX y=(bx x++bx y).map _;rw[lA x,lA y,List.map_append]
theorem gC:∀t:Bl,jb t=(bD t).map λn:Nat=>(n:Int)
 |.nil=>rfl
 |.assign _ x t=>by show tX x++jb t=(bx x++bD t).map _;rw[lA x,gC t,List.map_append]
 |.read _ t=>gC t
 |.assert _ x y t=>by show tX x++tX y++jb t=(bx x++bx y++bD t).map _;simp only[lA,gC t,List.map_append]
 |.ite _ x y xs _ ys t=>by show tX x++tX y++jb xs++jb ys++jb t=(bx x++bx y++bD xs++bD ys++bD t).map _;simp only[lA,gC xs,gC ys,gC t,List.map_append]
 |.loop _ x y xs t=>by show tX x++tX y++jb xs++jb t=(bx x++bx y++bD xs++bD t).map _;simp only[lA,gC xs,gC t,List.map_append]
inductive Way (a:Bs):Bs->List Nat->Prop
 |nil:Way a a []
 |step {l:Bs} {ns:List Nat}:Way a l ns->0<bh l->Way a (next l) (ns++mC l)
theorem Way.trans{c:Bs}(h:Way a b ns)(k:Way b c ms):Way a c (ns++ms):=by
 induction k with
 |nil=>rw[List.append_nil];exact h
 |step _ hp ih=>rw[<-Ô];exact ih.step hp
theorem Way.aaA(h:Way a l ns):lB a l ns:=by
 induction h with
 |nil=>exact .nil
 |step _ _ ih=>exact ih.step
theorem Way.head(h:Way a l ns):(l=a/\ns=[])∨∃ms,0<bh a/\Way (next a) l ms/\ns=mC a++ms:=by
 induction h with
 |nil=>exact .inl ⟨rfl,rfl⟩
 |@step l ns h hp ih=>
  right
  rcases ih with⟨rfl,rfl⟩|⟨ms,h0,h1,rfl⟩
  .exact⟨[],hp,.nil,Ä⟩
  .exact⟨_,h0,h1.step hp,Ä⟩
theorem Way.same:∀(n:Nat) {a:Bs} {ns ms:List Nat},a.length<=n->lB a [] ns->Way a [] ms->ns=ms
 |n,a,ns,ms,hn,h,k=>by
  by_cases ha:a=[]
  .subst ha
   rw[h.Of.2,k.aaA.Of.2]
  .rcases h.head with⟨e,_⟩|⟨sJ,h1,rfl⟩
   .exact absurd e.symm ha
   .rcases k.head with⟨e,_⟩|⟨ms',hp,k1,rfl⟩
    .exact absurd e.symm ha
    .have df:=gl hp
     match n,hn with
     |0,hn=>omega
     |n+1,hn=>rw[Way.same n À h1 k1]
theorem dW(h:tok l=t)(ht:t≠[])(hd:t.head?.any bC=false):Way l (next l) []:=by
 have hp:0<bh l:=by rw[<-ef,h];exact List.length_pos_iff.2 ht
 have:=(Way.nil (a:=l)).step hp
 rwa[mC,Â (pT h hd)]at this
theorem P6(h:aC l=2):Way l (next l) []:=by
 have:=(Way.nil (a:=l)).step (dj (.inl h))
 rwa[mC,Â À]at this
theorem Rs(h:aC l=3):Way l (next l) [bn (tok l)]:=by
 have:=(Way.nil (a:=l)).step (dj (.inr (.inl h)))
 rwa[mC,Á h]at this
theorem Way.more(h:Way a l ns)(k:Way l b []):Way a b ns:=by
 have:=h.trans k
 rwa[List.append_nil]at this
theorem Way.less(h:Way a l [])(k:Way l b ns):Way a b ns:=h.trans k
theorem nt(h:take t l=.ok l1)(ht:t≠[])(hd:t.head?.any bC=false):Way l l1 []:=by obtain⟨h1,rfl⟩:=cd h;exact dW h1 ht hd
theorem uJ(h:enter t o l=.ok l1)(ht:t≠[])(hd:t.head?.any bC=false):Way l l1 []:=by obtain⟨h1,_,rfl⟩:=cI h;exact dW h1 ht hd
theorem Mp(h5:aS l=Y k):aC l=2:=by
 unfold aS at h5;split at h5
 .split at h5
  .next hc=>exact hc.1
  .cases h5
 .cases h5
theorem yW(h:dN l=.ok (k,l1)):Way l l1 []:=by obtain⟨h5,rfl⟩:=gP h;exact P6 (Mp h5)
theorem UU(h:eA (tok l)=Y k):Way l (next l) []:=by
 unfold eA at h;split at h
 .next e=>exact dW e Ä rfl
 .split at h
  .next e=>exact dW e Ä rfl
  .split at h
   .next e=>exact dW e Ä rfl
   .split at h
    .next e=>exact dW e Ä rfl
    .split at h
     .next e=>exact dW e Ä rfl
     .cases h
theorem So(h:eg (tok l)=Y k):Way l (next l) []:=by
 unfold eg at h;split at h
 .next e=>exact dW e Ä rfl
 .split at h
  .next e=>exact dW e Ä rfl
  .split at h
   .next e=>exact dW e Ä rfl
   .split at h
    .next e=>exact dW e Ä rfl
    .split at h
     .next e=>exact dW e Ä rfl
     .split at h
      .next e=>exact dW e Ä rfl
      .cases h
def MG(u:Bs->R Tr.S):Prop:=∀l (x:Sm) l',u l=.ok (x,l')->Way l l' (bx x)
theorem Gv{u:Bs->R Tr.S}(hu:MG u):∀m (x:Sm) l (y:Sm) l',Way a l (bx x)->bK Tr lv u m x l=.ok (y,l')->Way a l' (bx y):=by
 intro m
 induction m with
 |zero=>intro x l y l' hx h;cases h;exact hx
 |succ m ih=>
  intro x l y l' hx h;rw[vo Tr lv u m x l]at h;split at h
  .next k hk=>
   split at h
   .split at h
    .next z l1 hz=>exact ih _ _ _ _ ((hx.more (UU hk)).trans (hu _ _ _ hz)) h
    .cases h
   .cases h;exact hx
  .cases h;exact hx
theorem Bp{u:Bs->R Tr.S}(hu:MG u):MG (bS Tr lv u):=by
 intro l x l' h;unfold bS at h;split at h
 .next y l1 hy=>exact Gv hu _ _ _ _ _ (hu _ _ _ hy) h
 .cases h
theorem FB{u:Bs->R Tr.S}(hu:MG u):MG (oI Tr u):=Bp (Bp hu)
theorem GX(h:gh t=Y v):v=bn t:=by
 unfold gh at h;split at h
 .cases h
 .split at h
  .cases h;rfl
  .cases h
theorem It:∀n o,MG (bp Tr n o):=by
 intro n
 induction n with
 |zero=>intro o l x l' h;cases h
 |succ n ih=>
  intro o l x l' h;unfold bp at h;split at h
  .next h3=>
   split at h
   .next v hv=>
    cases h
    rw[GX hv];exact Rs h3
   .cases h
  .split at h
   .split at h
    .next k l1 hk=>cases h;exact yW hk
    .cases h
   .split at h
    .split at h
     .next l1 he=>
      split at h
      .next y l2 hy=>cases h;exact(uJ he Ä rfl).less (show Way _ _ (bx y) from ih _ _ y _ hy)
      .cases h
     .cases h
    .split at h
     .next l1 he=>
      split at h
      .next y l2 hy=>
       split at h
       .next l3 ht3=>
        cases h
        exact((uJ he Ä rfl).less (FB (ih _) _ _ _ hy)).more (nt ht3 Ä rfl)
       .cases h
      .cases h
     .cases h
theorem Hs{x:Sm}(h:pS Tr o l=.ok (x,l')):Way l l' (bx x):=FB (It _ _) _ _ _ h
theorem qL{x y:Sm}(h:bo Tr o l=.ok ((k,x,y),l')):Way l l' (bx x++bx y):=by
 unfold bo at h;split at h
 .next x1 l1 hx=>
  split at h
  .next k1 hk=>
   split at h
   .next y1 l2 hy=>cases h;exact((Hs hx).more (So hk)).trans (Hs hy)
   .cases h
  .cases h
 .cases h
def oY(f:Bl->Bl):List Nat:=bD (f .nil)
def Rq(f:Bl->Bl):Prop:=∀t,bD (f t)=oY f++bD t
def VM(st:Bs->R Tr.T):Prop:=∀l (f:Bl->Bl) l',st l=.ok (f,l')->Way l l' (oY f)/\Rq f
theorem sl:∀(fs:List (Bl->Bl)),(∀f∈fs,Rq f)->bD (aO fs)=(fs.map oY).flatten
 |[],_=>rfl
 |f::fs,h=>by show bD (f (aO fs))=oY f++(fs.map oY).flatten;rw[h f (List.mem_cons_self ..),sl fs λg hg=>h g (List.mem_cons_of_mem _ hg)]
theorem Bi{st:Bs->R Tr.T}(hs:VM st):∀m (acc:List (Bl->Bl)) l ys l',Way a l (acc.map oY).flatten->(∀f∈acc,Rq f)->dh Tr st m acc l=.ok (ys,l')->Way a l' (ys.map oY).flatten/\∀f∈ys,Rq f:=by
 intro m
 induction m with
 |zero=>intro acc l ys l' hx ha h;cases h;exact⟨hx,ha⟩
 |succ m ih=>
  intro acc l ys l' hx ha h;rw[xX Tr st m acc l]at h;split at h
  .split at h
   .next f l1 hf=>
    obtain⟨h1,h2⟩:=hs _ _ _ hf;refine ih _ _ _ _ ?_ (λz hz=>?_) h
    .have e:(List.map oY (@HAppend.hAppend (List (Bl->Bl)) (List (Bl->Bl)) _ _ acc [f])).flatten=(List.map oY acc).flatten++oY f:=by
      simp only[List.map_append,List.flatten_append];exact Ë ((List.map oY acc).flatten++·) (List.append_nil (oY f))
     exact Eq.mpr (Ë (Way a l1) e) (hx.trans h1)
    .rcases List.mem_append.1 hz with hz|hz
     .exact ha z hz
     .rw[Ö.1 hz];exact h2
   .cases h
  .cases h;exact⟨hx,ha⟩
theorem sh{st:Bs->R Tr.T}(hs:VM st){xs:List (Bl->Bl)}(h:aR Tr st o l=.ok (xs,l')):Way l l' (bD (aO xs)):=by
 unfold aR at h;split at h
 .next l1 he=>
  split at h
  .next ys l2 hm=>
   obtain⟨h1,h2⟩:=Bi hs _ [] _ _ _ .nil (λz hz=>by cases hz) hm;split at h
   .next l3 ht3=>
    cases h
    rw[sl _ h2];exact((uJ he Ä rfl).less h1).more (nt ht3 Ä rfl)
   .cases h
  .cases h
 .cases h
theorem Mh:∀n o,VM (bL Tr n o):=by
 intro n
 induction n with
 |zero=>intro o l x l' h;cases h
 |succ n ih=>
  intro o l f l' h;unfold bL at h;split at h
  .next ht=>
   unfold gX at h;split at h
   .next k l1 hk=>
    split at h
    .next l2 h2=>
     cases h
     exact⟨(dW ht É rfl).less ((yW hk).less (nt h2 Ä rfl)),λt=>rfl⟩
    .cases h
   .cases h
  .split at h
   .next ht=>
    unfold de at h;split at h
    .next k x1 y1 l1 hc=>
     split at h
     .next l2 h6=>
      cases h
      refine⟨(dW ht É rfl).less (Way.more (l:=l1) ?_ (nt h6 Ä rfl)),λt=>?_⟩
      .show Way _ _ (bx x1++bx y1++[])
       rw[List.append_nil];exact qL hc
      .show bx x1++bx y1++bD t=(bx x1++bx y1++[])++bD t
       rw[List.append_nil]
     .cases h
    .cases h
   .split at h
    .next ht=>
     unfold Ð at h;split at h
     .next k x1 y1 l1 hc=>
      split at h
      .next xs l2 hb=>
       have F5:=sh (ih _) hb;split at h
       .next Nb=>
        split at h
        .next ys l3 DK=>
         have Gr:=sh (ih _) DK;cases h
         refine⟨(dW ht É rfl).less ?_,λt=>?_⟩
         .show Way _ _ (bx x1++bx y1++bD (aO xs)++bD (aO ys)++[])
          rw[List.append_nil];exact(((qL hc).trans F5).more (dW Nb É rfl)).trans Gr
         .show bx x1++bx y1++bD (aO xs)++bD (aO ys)++bD t=(bx x1++bx y1++bD (aO xs)++bD (aO ys)++[])++bD t
          rw[List.append_nil]
        .cases h
       .cases h
        refine⟨(dW ht É rfl).less ?_,λt=>?_⟩
        .show Way _ _ (bx x1++bx y1++bD (aO xs)++[]++[])
         rw[List.append_nil,List.append_nil];exact(qL hc).trans F5
        .show bx x1++bx y1++bD (aO xs)++[]++bD t=(bx x1++bx y1++bD (aO xs)++[]++[])++bD t
         rw[List.append_nil,List.append_nil]
      .cases h
     .cases h
    .split at h
     .next ht=>
      unfold eF at h;split at h
      .next k x1 y1 l1 hc=>
       split at h
       .next xs l2 hb=>
        have F5:=sh (ih _) hb;cases h
        refine⟨(dW ht É rfl).less ?_,λt=>?_⟩
        .show Way _ _ (bx x1++bx y1++bD (aO xs)++[])
         rw[List.append_nil];exact(qL hc).trans F5
        .show bx x1++bx y1++bD (aO xs)++bD t=(bx x1++bx y1++bD (aO xs)++[])++bD t
         rw[List.append_nil]
       .cases h
      .cases h
     .unfold cC at h
      split at h
      .next k l1 hk=>
       split at h
       .next l2 h2=>
        split at h
        .next x1 l3 hx=>
         split at h
         .next l4 gW=>
          cases h
          refine⟨(yW hk).less ((nt h2 Ä rfl).less (Way.more (l:=l3) ?_ (nt gW Ä rfl))),λt=>?_⟩
          .show Way _ _ (bx x1++[])
           rw[List.append_nil];exact Hs hx
          .show bx x1++bD t=(bx x1++[])++bD t
           rw[List.append_nil]
         .cases h
        .cases h
       .cases h
      .cases h
theorem Mz{t:Bl}(h:tree src=.ok t)(hn:lB (skip src) [] ns):bD t=ns:=by
 unfold tree at h;split at h
 .next fs hp=>
  cases h
  unfold parse at hp;split at hp
  .cases hp
  .split at hp
   .next ys hq=>
    cases hp
    unfold pK at hq;split at hq
    .next zs l1 hm=>
     split at hq
     .next he=>
      cases hq
      obtain⟨h1,h2⟩:=Bi (Mh _ _) _ [] _ _ _ .nil (λz hz=>by cases hz) hm;subst he;rw[sl _ h2];exact(Way.same _ È hn h1).symm
     .cases hq
    .cases hq
   .cases hp
 .cases h
end
end Sp
section
namespace Sp
section
variable {D: rv}
theorem KI(F:Found D)(x:fG D.V)(es:List (fG D.V)):tell D F (x::es)=tell D (cY D F x) es:=rfl
theorem Lp(F:Found D)(x:fG D.V):(cY D F x).1.length=F.1.length/\(cY D F x).2.length=F.2.length:=by
 cases x with
 |aA p s=>exact⟨by simp[cY],rfl⟩
 |site q b=>exact⟨rfl,by simp[cY]⟩
theorem mY:∀(es:List (fG D.V)) (F:Found D),(tell D F es).1.length=F.1.length/\(tell D F es).2.length=F.2.length
 |[],_=>⟨rfl,rfl⟩
 |x::es,F=>by rw[KI];obtain⟨h1,h2⟩:=mY es (cY D F x);obtain⟨h3,h4⟩:=Lp F x;exact⟨h1.trans h3,h2.trans h4⟩
section
end
section
end
def YW(D:rv)(P:z7)(t:Bl):List (fG D.V):=(cJ D P t (0,0) (Y λ_=>D.num 0)).1++qW D (cB t (0,0)).1 (cJ D P t (0,0) (Y λ_=>D.num 0)).2
theorem D5(P:z7)(t:Bl):bU D P t=tell D (List.replicate ((cB t (0,0)).1+1).toNat M,List.replicate (cB t (0,0)).2.toNat 0) (YW D P t):=rfl
end
end Sp
end
namespace Sp
def TL(n:Nat)(x:Sm):Prop:=(bx x).length<=n+1
def Ę(n:Nat)(f:Bl->Bl):Prop:=∀rest,(bD (f rest)).length<=2*n+(bD rest).length
theorem XI:∀{n:Nat} {fs:List (Bl->Bl)},Pn.QL Ę n fs->(bD (aO fs)).length<=2*n
 |n,[],_=>Ì
 |n,f::fs,⟨a,b,hab,h1,h2⟩=>by have d:=XI h2;have e:=h1 (aO fs);show(bD (f (aO fs))).length<=2*n;omega
theorem R1:Pn.Made Tr (λn (x:Sm)=>TL n x) (λn (f:Bl->Bl)=>Ę n f) where
 pm n m x h hn:=by unfold TL at*;omega
 qm n m x h hn:=λrest=>by have:=h rest;omega
 num v hv:=È
 name k _:=Ì
 neg n x h:=h
 bin k n m x y _ hx hy:=by show(bx x++bx y).length<=_;unfold TL at hx hy;rw[List.length_append];omega
 assign k n x _ h:=λrest=>by show(bx x++bD rest).length<=_;unfold TL at h;rw[List.length_append];omega
 read k _:=λrest=>by show(bD rest).length<=_;omega
 assert k n m x y _ hx hy:=λrest=>by show(bx x++bx y++bD rest).length<=_;unfold TL at hx hy;simp only[List.length_append];omega
 ite k n m j x y xs _ hx hy Du:=λrest=>by have d:=XI Du;show(bx x++bx y++bD (aO xs)++[]++bD rest).length<=_;unfold TL at hx hy;simp only[List.length_append,List.length_nil];omega
 iteElse k n m j i x y xs ys _ hx hy Du WZ:=λrest=>by have d:=XI Du;have g:=XI WZ;show(bx x++bx y++bD (aO xs)++bD (aO ys)++bD rest).length<=_;unfold TL at hx hy;simp only[List.length_append];omega
 loop k n m j x y xs _ hx hy Du:=λrest=>by have d:=XI Du;show(bx x++bx y++bD (aO xs)++bD rest).length<=_;unfold TL at hx hy;simp only[List.length_append];omega
theorem Fy{src:Bs}{t:Bl}(h:tree src=.ok t):(bD t).length<=800:=by
 unfold tree at h;split at h
 .next fs hp=>
  cases h
  exact XI (Pn.Kd R1 hp).2
 .cases h
theorem zj(D:rv)(P:z7)(t:Bl)(h:Small (0,0) (pB t) (qB t)):(bU D P t).1.length=pB t+1/\(bU D P t).2.length=qB t:=by rw[D5,(mY _ _).1,(mY _ _).2,gp t (0,0) h];simp
end Sp
section
namespace Sp
section
variable {D: rv}
section
variable{ao k f n m:Nat}
variable{p:Int}
structure qV(K:Rk D)(next:D.St->D.St)(ao:Nat)(ο:D.St)(k f:Nat)(sj:D.St):Prop where
 sum:f+k=D.fuel+1
 eq:fixF D next ao f k sj=ο
 wf:Wf K sj
 no:sj=M->next M=M
 up:∀e,sj=Y e->8*K.top<RX K e+f
theorem qV.start{K:Rk D}{next:D.St->D.St}{ο s:D.St}(hU:fixF D next ao D.fuel 1 s=ο)(hs:Wf K s)(h0:s=M->next M=M):qV K next ao ο 1 D.fuel s:=
 ⟨rfl,hU,hs,h0,λ_ _=>Nat.lt_of_lt_of_le K.fuel (Nat.le_add_left _ _)⟩
theorem qV.end{K:Rk D}{next:D.St->D.St}{ο:D.St}{sj:D.St}(h:qV K next ao ο k f sj)(he:IG D (jn D sj (next sj)) sj=true):sj=ο:=by
 have:=h.eq;cases f with
 |zero=>exact this
 |succ f=>rw[qx,Á he]at this;exact this
theorem qV.on{K:Rk D}{next:D.St->D.St}{ο:D.St}{sj:D.St}(h:qV K next ao ο k f sj)(hn:∀i,Wf K i->Wf K (next i))(he:IG D (jn D sj (next sj)) sj=false) :
  ∃e n f',sj=Y e/\(∀k,K.wf (e k))/\jn D sj (next sj)=Y n/\(∀k,K.wf (n k))/\f=f'+1/\qV K next ao ο (k+1) f' (pH D next ao k sj):=by
 have db:¬jn D sj (next sj)=sj:=λe=>by rw[(oL D _ _).2 e]at he;cases he
 cases sj with
 |none=>rw[h.no rfl]at db;exact absurd rfl db
 |some e=>
  have we:=h.wf e rfl;have hj:Wf K (jn D (Y e) (next (Y e))):=mr h.wf (hn _ h.wf);obtain⟨n,XO⟩:∃n,jn D (Y e) (next (Y e))=Y n:=by
   cases hx:next (Y e) with
   |none=>exact⟨_,rfl⟩
   |some t=>exact⟨_,rfl⟩
  obtain⟨g,h1,h2,h3⟩:=AR (K:=K) we (hn _ h.wf) ao k db;have hup:=h.up e rfl;have hle:=NN (K:=K) we;obtain⟨f',rfl⟩:∃f',f=f'+1:=⟨f-1,À⟩;refine⟨e,n,f',rfl,we,XO,hj n XO,rfl,?_⟩;have aaw:=h.sum;have heq:=h.eq;rw[qx,Â (by rw[he];exact Bool.noConfusion)]at heq;refine⟨À,heq,?_,?_,?_⟩
  .rw[h1];exact Wf.some h2
  .intro e;rw[h1]at e;cases e
  .intro e Ad
   rw[h1]at Ad;cases Ad
   omega
structure sR(K:Rk D)(cond:gr D)(body:gZ D)(s ο:D.St)(n:Nat)(sj:D.St):Prop where
 eq:KM D (kK D cond body s) n sj=ο
 wf:Wf K sj
 no:s=M->sj=M
 sub:∀e,s=Y e->sk K (Y e) sj
theorem sR.start{K:Rk D}{P:z7}{cond:gr D}{body:gZ D}(hc:gB K cond)(hb:fJ K body)(nc:uG cond)(nb:rT body){s:D.St}(hs:Wf K s) :
  sR K cond body s (mU D P cond body s) P.narrow (fixF D (kK D cond body s) P.ao D.fuel 1 s):=by
 have hn:∀i,Wf K i->Wf K (kK D cond body s i):=λi hi=>zg hc hb hs hi
 have h0:s=M->kK D cond body s M=M:=λe=>by subst e;unfold kK;rw[nc,nb];rfl
 refine⟨rfl,Ce hn P.ao D.fuel 1 s hs,λe=>?_,λe he=>?_⟩
 .have h1:=h0 e
  subst e;exact BD h1 _ _ _
 .subst he
  obtain⟨i,h1,h2⟩:=yJ hn P.ao D.fuel 1 e (hs e rfl) (by have:=K.fuel;omega);rw[h1];exact J4 h2
theorem sR.on{K:Rk D}{cond:gr D}{body:gZ D}(hc:gB K cond)(hb:fJ K body){s ο:D.St}(hs:Wf K s){sj:D.St}(h:sR K cond body s ο (n+1) sj) :
  sR K cond body s ο n (o6 D D.narrow sj (kK D cond body s sj))/\(sj=M∨∃e e',sj=Y e/\kK D cond body s sj=Y e'/\(∀k,K.wf (e k))/\(∀k,K.wf (e' k))):=by
 have hw:=zg hc hb hs h.wf;cases s with
 |none=>have h1:=h.no rfl;have h2:=h.eq;subst h1;exact⟨⟨h2,eL,λ_=>rfl,λe he=>by cases he⟩,.inl rfl⟩
 |some e=>obtain⟨h1,h2⟩:=AM (hs e rfl) h.wf hw (h.sub e rfl) (yw _ _);obtain⟨g,hg,_⟩:=h.sub e rfl e rfl;obtain⟨q,hq,_⟩:=(yw (K:=K) (Y e) (body (cond sj).2.1).2) e rfl;have MM:kK D cond body (Y e) sj=Y q:=hq;refine⟨⟨h.eq,h1,(λe=>by cases e),λe' Ad=>by cases Ad;exact h2⟩,.inr ⟨g,q,hg,MM,h.wf g hg,hw q MM⟩⟩
theorem P1{cond:gr D}{body:gZ D}(nc:uG cond)(nb:rT body){s:D.St}(h:s=M):kK D cond body s M=M:=by subst h;unfold kK;rw[nc,nb];rfl
theorem KR{K:Rk D}{P:z7}{cond:gr D}{body:gZ D}(hc:gB K cond)(hb:fJ K body)(p:Int){e:D.Env}(he:∀k,K.wf (e k)):∃s',fG.aA p s'∈(tz D P cond body p (Y e)).1:=by
 unfold tz;cases hn:P.aj with
 |zero=>obtain⟨g,hg,_⟩:=(ux (P:=P) hc hb he).2 e rfl;refine⟨g,?_⟩;simp only[kG,List.nil_append];rw[hg];simp[qW]
 |succ n=>refine⟨e,?_⟩;simp[kG,qW]
structure nk(K:Rk D)(cond:gr D)(body:gZ D)(p:Int)(ο:List (fG D.V)×D.St×D.St)(m:Nat)(ej:List (fG D.V))(oj sj:D.St):Prop where
 eq:ο=(ej++(kG D cond body p m oj sj).1,(kG D cond body p m oj sj).2)
 wo:Wf K oj
 ws:Wf K sj
theorem nk.start{K:Rk D}(cond:gr D)(body:gZ D)(p:Int)(m:Nat){s:D.St}(hs:Wf K s):nk K cond body p (kG D cond body p m M s) m [] M s:=⟨rfl,eL,hs⟩
theorem nk.end{K:Rk D}{cond:gr D}{body:gZ D}{ο:List (fG D.V)×D.St×D.St}{ej:List (fG D.V)}{oj sj:D.St}(h:nk K cond body p ο 0 ej oj sj):ο=(ej,oj,sj):=by rw[h.eq];simp[kG]
theorem nk.parts{K:Rk D}{cond:gr D}{body:gZ D}{ο:List (fG D.V) × D.St × D.St}{ej:List (fG D.V)}{oj sj:D.St}(h:nk K cond body p ο (m+1) ej oj sj) :
  ∃more,ο.1=ej++qW D p sj++(cond sj).1++(body (cond sj).2.1).1++more:=by
 rw[h.eq];exact⟨(kG D cond body p m (jn D oj (cond sj).2.2) (body (cond sj).2.1).2).1,by simp[kG]⟩
theorem nk.on{K:Rk D}{cond:gr D}{body:gZ D}(hc:gB K cond)(hb:fJ K body){ο:List (fG D.V) × D.St × D.St}{ej:List (fG D.V)}{oj sj:D.St}(h:nk K cond body p ο (m+1) ej oj sj) :
  nk K cond body p ο m (ej++qW D p sj++(cond sj).1++(body (cond sj).2.1).1) (jn D oj (cond sj).2.2) (body (cond sj).2.1).2:=by
 refine⟨?_,mr h.wo (hc _ h.ws).2,hb _ (hc _ h.ws).1⟩;rw[h.eq];simp[kG]
end
end
end Sp
end
section
namespace W
open Sp
variable {E: Bool}
theorem OE{y x:Cg}(h:∀n,bF y n->bF x n):(x.m:Int)∣y.r-x.r/\x.m∣y.m:=by have h1:(x.m:Int)∣y.r-x.r:=(mem_iff x y.r).1 (h y.r ((mem_iff y y.r).2 Ä));have h2:(x.m:Int)∣y.r+y.m-x.r:=(mem_iff x (y.r+y.m)).1 (h (y.r+y.m) ((mem_iff y _).2 (by rw[show y.r+(y.m:Int)-y.r=y.m by omega];exact Int.dvd_refl _)));have h3:=Int.dvd_sub h2 h1;rw[show y.r+(y.m:Int)-x.r-(y.r-x.r)=y.m by omega]at h3;exact⟨h1,Int.natCast_dvd_natCast.1 h3⟩
theorem YM(z e q:Cg)(h:∀n,bF e n->bF q n):cD (cD z e) q=cD z q:=by
 obtain⟨d1,d2⟩:=OE h;by_cases h1:Nat.gcd (Nat.gcd z.m e.m) (z.r-e.r).natAbs=0
 .rw[show cD z e=z from Á h1]
 .rw[show cD z e=kI _ z.r from Â h1]
  generalize hg:Nat.gcd (Nat.gcd z.m e.m) (z.r-e.r).natAbs=g1 at*;have a1:g1∣z.m:=hg▸Nat.dvd_trans (Nat.gcd_dvd_left _ _) (Nat.gcd_dvd_left _ _);have em:(g1:Int)∣z.r-z.r%(g1:Int):=⟨z.r / g1,by have:=Int.emod_add_mul_ediv z.r g1;omega⟩;have e2:Nat.gcd (Nat.gcd g1 q.m) (z.r%(g1:Int)-q.r).natAbs=Nat.gcd (Nat.gcd z.m q.m) (z.r-q.r).natAbs:=by
   refine Nat.dvd_antisymm ?_ ?_
   .have b1:=Nat.gcd_dvd_left (Nat.gcd g1 q.m) (z.r%(g1:Int)-q.r).natAbs
    have b2:=Nat.dvd_trans b1 (Nat.gcd_dvd_left _ _);refine Nat.dvd_gcd (Nat.dvd_gcd (Nat.dvd_trans b2 a1) (Nat.dvd_trans b1 (Nat.gcd_dvd_right _ _))) (Int.ofNat_dvd_left.1 ?_);rw[show z.r-q.r=(z.r-z.r%(g1:Int))+(z.r%(g1:Int)-q.r) by omega];exact Int.dvd_add (Int.dvd_trans (Int.natCast_dvd_natCast.2 b2) em) (Int.ofNat_dvd_left.2 (Nat.gcd_dvd_right _ _))
   .have b1:=Nat.gcd_dvd_left (Nat.gcd z.m q.m) (z.r-q.r).natAbs
    have bq:=Nat.dvd_trans b1 (Nat.gcd_dvd_right _ _);have br:((Nat.gcd (Nat.gcd z.m q.m) (z.r-q.r).natAbs:Nat):Int)∣z.r-q.r:=Int.ofNat_dvd_left.2 (Nat.gcd_dvd_right _ _);have b3:Nat.gcd (Nat.gcd z.m q.m) (z.r-q.r).natAbs∣g1:=by rw[<-hg];refine Nat.dvd_gcd (Nat.dvd_gcd (Nat.dvd_trans b1 (Nat.gcd_dvd_left _ _)) (Nat.dvd_trans bq d2)) (Int.ofNat_dvd_left.1 ?_);rw[show z.r-e.r=(z.r-q.r)-(e.r-q.r) by omega];exact Int.dvd_sub br (Int.dvd_trans (Int.natCast_dvd_natCast.2 bq) d1)
    refine Nat.dvd_gcd (Nat.dvd_gcd b3 bq) (Int.ofNat_dvd_left.1 ?_);rw[show z.r%(g1:Int)-q.r=(z.r-q.r)-(z.r-z.r%(g1:Int)) by omega];exact Int.dvd_sub br (Int.dvd_trans (Int.natCast_dvd_natCast.2 b3) em)
  have e3:Nat.gcd (Nat.gcd z.m q.m) (z.r-q.r).natAbs∣g1:=by rw[<-e2];exact Nat.dvd_trans (Nat.gcd_dvd_left _ _) (Nat.gcd_dvd_left _ _)
  unfold cD kI;simp only;rw[e2];generalize Nat.gcd (Nat.gcd z.m q.m) (z.r-q.r).natAbs=g at*;have hn:¬g=0:=λh=>h1 (by subst h;exact Nat.eq_zero_of_zero_dvd e3)
  rw[Â hn,Â hn,Int.emod_emod_of_dvd _ (Int.natCast_dvd_natCast.2 e3)]
theorem Wl(e q:Cg)(wq:cV q)(h:∀n,bF e n->bF q n):cD e q=q:=by
 obtain⟨d1,d2⟩:=OE h;have hg:Nat.gcd (Nat.gcd e.m q.m) (e.r-q.r).natAbs=q.m:=by rw[Nat.gcd_eq_right d2];exact Nat.gcd_eq_left (Int.ofNat_dvd_left.1 d1)
 unfold cD;rw[hg];by_cases hm:q.m=0
 .rw[Á hm]
  rw[hm]at d1 d2;obtain⟨m,r⟩:=e;obtain⟨m',r'⟩:=q;simp only at hm d1 d2;have:r=r':=by obtain⟨k,hk⟩:=d1;simp at hk;omega
  rw[hm,this,Nat.eq_zero_of_zero_dvd d2]
 .rw[Â hm]
  rcases wq with⟨h0,_⟩|⟨_,_,h3,h4⟩
  .exact absurd h0 hm
  .obtain⟨m',r'⟩:=q
   unfold kI;simp only at*;rw[show e.r%(m':Int)=r' from by rw[<-Int.emod_eq_of_lt h3 h4];exact Int.emod_eq_emod_iff_emod_sub_eq_zero.2 (Int.emod_eq_zero_of_dvd d1)]
theorem Sw(G:aw E)(z:Iv){e q:Iv}(h:(Kr G).sub e q):dM E (dM E z e) q=dM E z q:=by
 cases E
 .exact Ë vR (YM _ _ _ h)
 .obtain⟨h1,h2⟩:q.a<=e.a/\e.b<=q.b:=h
  refine si ?_ ?_
  .show min (min z.a e.a) q.a=min z.a q.a;omega
  .show max (max z.b e.b) q.b=max z.b q.b;omega
theorem PZ(G:aw E){e q:Iv}(wq:Wv E q)(h:(Kr G).sub e q):dM E e q=q:=by
 cases E
 .show vR (cD (mz e) (mz q))=q
  rw[Wl _ _ wq.2 h,qE wq.1]
 .obtain⟨h1,h2⟩:q.a<=e.a/\e.b<=q.b:=h
  refine si ?_ ?_
  .show min e.a q.a=q.a;omega
  .show max e.b q.b=q.b;omega
end W
end
end Go.Proofs.YtiopfihjmkfdmabGreatDoor
