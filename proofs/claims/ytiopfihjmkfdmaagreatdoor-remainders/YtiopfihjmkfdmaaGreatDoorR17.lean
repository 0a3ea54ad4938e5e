import Derived.Test.YtiopfihjmkfdmaaGreatDoorR7
namespace Go.Proofs.YtiopfihjmkfdmaaGreatDoor
open Option renaming some→Y,none→M
open Go.IntKind renaming i64→O,i16→ψ
open Go.Value renaming int→I,bool→U
open Go.Proofs.Tryz Sp
namespace Sp
theorem Zn(steps:List Int):Ab (oV steps) where
 bF x y _ h:=by
  have h1:x.a<=y.a:=h.1;have h2:y.b<=x.b:=h.2;show(⟨min x.a y.a,max x.b y.b⟩:Iv)=x;refine qI ?_ ?_
  ·show min x.a y.a=x.a;omega
  ·show max x.b y.b=x.b;omega
theorem P8(x y:Cg)(hx:cr x)(h:∀n,bA y n->bA x n):cp x y=x:=by
 have h1:(x.m:Int) ∣ y.r - x.r:=(mem_iff x y.r).1 (h y.r ((mem_iff y y.r).2 (by simp)));have h2:(x.m:Int) ∣ y.r+y.m - x.r:=(mem_iff x (y.r+y.m)).1 (h (y.r+y.m) ((mem_iff y _).2 (by rw[show y.r+(y.m:Int) - y.r=y.m by omega];exact Int.dvd_refl _)));have h3:(x.m:Int) ∣ (y.m:Int):=by
  have:=Int.dvd_sub h2 h1
  rwa [show y.r+(y.m:Int) - x.r - (y.r - x.r)=y.m by omega]at this
 have d1:x.m ∣ y.m:=Int.natCast_dvd_natCast.1 h3;have d2:x.m ∣ (x.r - y.r).natAbs:=by
  have:(x.m:Int) ∣ x.r - y.r:=by
   have:=Int.dvd_neg.2 h1
   rwa [show -(y.r - x.r)=x.r - y.r by omega]at this
  exact Int.ofNat_dvd_left.1 this
 have hg:Nat.gcd (Nat.gcd x.m y.m) (x.r - y.r).natAbs=x.m:=by rw[Nat.gcd_eq_left d1,Nat.gcd_eq_left d2]
 unfold cp;rw[hg];by_cases hm:x.m=0
 ·rw[if_pos hm]
 ·rw[if_neg hm]
  rcases hx with⟨h0,_⟩ | ⟨_,_,h3,h4⟩
  ·exact absurd h0 hm
  ·unfold jX
   rw[Int.emod_eq_of_lt h3 h4]
end Sp
section
namespace W
open Sp
section
variable{δ:Bool}
def lN(x:Iv):Cg:=⟨x.a.toNat,x.b⟩
def uw(x:Cg):Iv:=⟨x.m,x.r⟩
theorem po{x:Iv}(h:0<=x.a):uw (lN x)=x:=qI (Int.toNat_of_nonneg h) rfl
structure ar(δ:Bool) where
 l:List Int
def gz(δ:Bool)(n:Int):Iv:=bif δ then⟨n,n⟩ else⟨0,n⟩
def dc(δ:Bool):Iv:=bif δ then vd else⟨1,0⟩
def jd(δ:Bool)(x:Iv):Iv:=bif δ then ub (-x.b) (-x.a) else uw (jl (lN x))
def nR(δ:Bool)(k:Nat)(x y:Iv):Option Iv:=bif δ then AM k x y else(bt k (lN x) (lN y)).map uw
def iX(δ:Bool)(x:Iv):Bool:=bif δ then decide (x.a<=0) && decide (0<=x.b) else decide (bA (lN x) 0)
def da(δ:Bool)(x y:Iv):Iv:=bif δ then⟨min x.a y.a,max x.b y.b⟩ else uw (cp (lN x) (lN y))
def lZ(δ:Bool)(r:Nat)(x y:Iv):Bool:=bif δ then GS r x y else rF r (lN x) (lN y)
def gR(δ:Bool)(r:Nat)(x y:Iv):Option Iv:=bif δ then rG r x y else(lq r (lN x) (lN y)).map uw
def fT(π:ar δ)(x y:Iv):Iv:=bif δ then dQ π.l x y else y
def ik(δ:Bool)(x y:Iv):Iv:=bif δ then Dj x y else x
def Dm(π:ar δ):pX where
 V:=Iv
 dec:=inferInstance
 num:=gz δ
 whole:=dc δ
 neg:=jd δ
 work:=nR δ
 nought:=iX δ
 join:=da δ
 may:=lZ δ
 bound:=gR δ
 widen:=fT π
 narrow:=ik δ
 fuel:=1100000
def Wv(δ:Bool)(x:Iv):Prop:=bif δ then j7 x else 0<=x.a/\cr (lN x)
theorem zt{v:Cg}(h:cr v):Wv false (uw v):=⟨Int.natCast_nonneg _,h⟩
theorem Me{o:Option Cg}{v:Iv}(h:o.map uw=Y v):∃u,o=Y u/\uw u=v:=by
 cases o with
 | none=>cases h
 | some u=>exact⟨u,rfl,by cases h;rfl⟩
def Kr(π:ar δ):Rk (Dm π) where
 wf:=Wv δ
 rk x:=bif δ then(x.b - x.a+65535).toNat else ti (lN x)
 top:=131070
 le x h:=by
  cases δ
  ·exact Nat.le_trans (Aq.le _ h.2) (by decide)
  ·exact(oV π.l).le x h
 wnum n h:=by
  cases δ
  ·exact⟨Int.le_refl _,Aq.wnum n h⟩
  ·exact(oV π.l).wnum n h
 wwhole:=by
  cases δ
  ·exact zt Aq.wwhole
  ·exact(oV π.l).wwhole
 wneg x h:=by
  cases δ
  ·exact zt (Aq.wneg _ h.2)
  ·exact(oV π.l).wneg x h
 wwork k x y v h h' e:=by
  cases δ
  ·obtain⟨u,q,rfl⟩:=Me e
   exact zt (Aq.wwork k _ _ u h.2 h'.2 q)
  ·exact(oV π.l).wwork k x y v h h' e
 wjoin x y h h':=by
  cases δ
  ·exact zt (Aq.wjoin _ _ h.2 h'.2)
  ·exact(oV π.l).wjoin x y h h'
 wbound k x y v h h' e:=by
  cases δ
  ·obtain⟨u,q,rfl⟩:=Me e
   exact zt (Aq.wbound k _ _ u h.2 h'.2 q)
  ·exact(oV π.l).wbound k x y v h h' e
 wwiden x y h h':=by
  cases δ
  ·exact h'
  ·exact(oV π.l).wwiden x y h h'
 sub x y:=bif δ then y.a<=x.a/\x.b<=y.b else ∀n,bA (lN x) n->bA (lN y) n
 sub_refl x:=by
  cases δ
  ·exact fun _ h=>h
  ·exact(oV π.l).sub_refl x
 sub_trans x y z h k:=by
  cases δ
  ·exact fun n hn=>k n (h n hn)
  ·exact(oV π.l).sub_trans x y z h k
 sub_joinl x y:=by
  cases δ
  ·exact zh _ _
  ·exact(oV π.l).sub_joinl x y
 sub_joinr x y:=by
  cases δ
  ·exact y8 _ _
  ·exact(oV π.l).sub_joinr x y
 sub_narrow x y z h k:=by
  cases δ
  ·exact h
  ·exact(oV π.l).sub_narrow x y z h k
 wnarrow x y z h h' h'' k k':=by
  cases δ
  ·exact h
  ·exact(oV π.l).wnarrow x y z h h' h'' k k'
 join_lt x y h h' e:=by
  cases δ
  ·exact Aq.join_lt _ _ h.2 h'.2 fun q=>e (by show uw (cp (lN x) (lN y))=x;rw[show cp (lN x) (lN y)=lN x from q,po h.1])
  ·exact(oV π.l).join_lt x y h h' e
 widen_le x y h h':=by
  cases δ
  ·exact Nat.le_refl _
  ·exact(oV π.l).widen_le x y h h'
 fuel:=show 8*131070<1100000 by decide
theorem abs(π:ar δ):Ab (Kr π) where
 bF x y h k:=by
  cases δ
  ·show uw (cp (lN x) (lN y))=x
   rw[P8 _ _ h.2 k,po h.1]
  ·exact(Zn π.l).bF x y h k
end
end W
end
section
namespace W
open Go
variable {δ : Bool}
section
variable{b:Bool}
@[reducible] def ar.ix (_:ar δ) (a b:Nat):Nat:=match δ with | true=>a | false=>b
@[reducible] def ar.kd (_:ar δ):IntKind:=match δ with | true=>ψ | false=>O
@[reducible] def ar.Wv (_:ar δ) (x:Sp.Iv):Prop:=W.Wv δ x
@[reducible] def ar.zS (π:ar δ):Array Value:=#[U false,I π.kd 0,I π.kd 0,I π.kd 0,I π.kd 0,I π.kd 0,I π.kd 0,I π.kd 0,I π.kd 0,I π.kd 0,I π.kd 0,I π.kd 0,I π.kd 0,I π.kd 0,I π.kd 0,I π.kd 0,I π.kd 0]
@[reducible] def ar.zE (π:ar δ):Array Value:=#[I O 0,U false,I π.kd 0,I π.kd 0,I π.kd 0,I π.kd 0,I π.kd 0,I π.kd 0,I π.kd 0,I π.kd 0,I π.kd 0,I π.kd 0,I π.kd 0,I π.kd 0,I π.kd 0,I π.kd 0,I π.kd 0,I π.kd 0]
@[reducible] def ar.zP (π:ar δ):Array Value:=#[U false,I π.kd 0,I π.kd 0,I π.kd 0,I π.kd 0,I π.kd 0,I π.kd 0,I π.kd 0,I π.kd 0,I π.kd 0,I π.kd 0,I π.kd 0,I π.kd 0,I π.kd 0,I π.kd 0,I π.kd 0,I π.kd 0,U false]
abbrev ST:=Option (Fin 8->Sp.Iv)
abbrev Fd:=List ST × List Nat
abbrev bV:=eU Sp.Iv
def told(π:ar δ)(b:Bool)(F:Fd)(es:List bV):Fd:=if b then Sp.tell (Dm π) F es else F
theorem dV(π:ar δ)(b:Bool)(F:Fd):told π b F []=F:=by cases b<;>rfl
theorem aF(π:ar δ)(b:Bool)(F:Fd)(es es':List bV):told π b F (es ++ es')=told π b (told π b F es) es':=by
 cases b
 ·rfl
 ·exact List.foldl_append
def XY(F:Fd):bV->Prop
 | .ay p _=>0<=p/\p.toNat<F.1.length
 | .site q _=>0<=q/\q.toNat<F.2.length
def cV(b:Bool)(F:Fd)(es:List bV):Prop:=b=true->∀ev∈es,XY F ev
theorem cV.left{F:Fd}{es es':List bV}(h:cV b F (es ++ es')):cV b F es:=fun hb ev hv=>h hb ev (List.mem_append.2 (.inl hv))
theorem IM(π:ar δ)(F:Fd)(x:bV):(cP (Dm π) F x).1.length=F.1.length/\(cP (Dm π) F x).2.length=F.2.length:=by
 cases x with
 | ay p s=>exact⟨List.length_modify ..,rfl⟩
 | site q b=>exact⟨rfl,List.length_modify ..⟩
theorem mn(π:ar δ):∀(es:List bV) (F:Fd),(Sp.tell (Dm π) F es).1.length=F.1.length/\(Sp.tell (Dm π) F es).2.length=F.2.length
 | [],_=>⟨rfl,rfl⟩
 | x :: es,F=>by obtain⟨h1,h2⟩:=mn π es (cP (Dm π) F x);obtain⟨h3,h4⟩:=IM π F x;exact⟨h1.trans h3,h2.trans h4⟩
theorem iY(π:ar δ)(b:Bool)(F:Fd)(es:List bV):(told π b F es).1.length=F.1.length/\(told π b F es).2.length=F.2.length:=by
 cases b
 ·exact⟨rfl,rfl⟩
 ·exact mn π es F
theorem XY.told{π:ar δ}{F:Fd}{es:List bV}{x:bV}(h:XY F x):XY (told π b F es) x:=by
 obtain⟨h1,h2⟩:=iY π b F es;cases x with
 | ay p s=>exact⟨h.1,by rw[h1];exact h.2⟩
 | site q b=>exact⟨h.1,by rw[h2];exact h.2⟩
theorem cV.right{π:ar δ}{F:Fd}{es es':List bV}(h:cV b F (es ++ es')):cV b (W.told π b F es) es':=fun hb ev hv=>(h hb ev (List.mem_append.2 (.inr hv))).told
theorem jV(F:Fd)(es:List bV):cV false F es:=fun h=>by cases h
end
end W
end
namespace Sp
def dI:Sm->List Nat
 | .num n=>[n]
 | .name _=>[]
 | .neg x=>dI x
 | .bin _ x y=>dI x ++ dI y
def dH:Bl->List Nat
 | .nil=>[]
 | .assign _ x rest=>dI x ++ dH rest
 | .read _ rest=>dH rest
 | .assert _ x y rest=>dI x ++ dI y ++ dH rest
 | .ite _ x y xs _ ys rest=>dI x ++ dI y ++ dH xs ++ dH ys ++ dH rest
 | .loop _ x y xs rest=>dI x ++ dI y ++ dH xs ++ dH rest
theorem j8:∀x:Sm,sh x=(dI x).map fun n:Nat=>(n:Int)
 | .num _=>rfl
 | .name _=>rfl
 | .neg x=>j8 x
 | .bin _ x y=>by show sh x ++ sh y=(dI x ++ dI y).map _;rw[j8 x,j8 y,List.map_append]
theorem il:∀t:Bl,iy t=(dH t).map fun n:Nat=>(n:Int)
 | .nil=>rfl
 | .assign _ x t=>by show sh x ++ iy t=(dI x ++ dH t).map _;rw[j8 x,il t,List.map_append]
 | .read _ t=>il t
 | .assert _ x y t=>by show sh x ++ sh y ++ iy t=(dI x ++ dI y ++ dH t).map _;simp only[j8,il t,List.map_append]
 | .ite _ x y xs _ ys t=>by show sh x ++ sh y ++ iy xs ++ iy ys ++ iy t=(dI x ++ dI y ++ dH xs ++ dH ys ++ dH t).map _;simp only[j8,il xs,il ys,il t,List.map_append]
 | .loop _ x y xs t=>by show sh x ++ sh y ++ iy xs ++ iy t=(dI x ++ dI y ++ dH xs ++ dH t).map _;simp only[j8,il xs,il t,List.map_append]
end Sp
section
namespace Sp
def nS:Sm->Nat
 | .num _=>0
 | .name _=>0
 | .neg x=>nS x
 | .bin k x y=>nS x+(if 3<=k then 1 else 0)+nS y
def pB:Bl->Nat
 | .nil=>0
 | .assign _ _ t=>1+pB t
 | .read _ t=>1+pB t
 | .assert _ _ _ t=>1+pB t
 | .ite _ _ _ xs els ys t=>1+pB xs+(if els then pB ys else 0)+pB t
 | .loop _ _ _ xs t=>1+pB xs+pB t
def qB:Bl->Nat
 | .nil=>0
 | .assign _ x t=>nS x+qB t
 | .read _ t=>qB t
 | .assert _ x y t=>1+nS x+nS y+qB t
 | .ite _ x y xs els ys t=>nS x+nS y+qB xs+(if els then qB ys else 0)+qB t
 | .loop _ x y xs t=>nS x+nS y+qB xs+qB t
theorem dR{ct:Ct}(h:0<=ct.1)(h':ct.1<=1000000):aA ct=(ct.1+1,ct.2):=by unfold aA RowKit.wrap64;simp;omega
theorem mz{ct:Ct}(h:0<=ct.2)(h':ct.2<=1000000):aJ ct=(ct.1,ct.2+1):=by unfold aJ RowKit.wrap64;simp;omega
theorem dB:∀(x:Sm) (ct:Ct),0<=ct.2->ct.2+nS x<=1000000->cS x ct=(ct.1,ct.2+nS x)
 | .num _,ct,_,_=>by simp[cS,nS]
 | .name _,ct,_,_=>by simp[cS,nS]
 | .neg x,ct,h,h'=>dB x ct h h'
 | .bin k x y,ct,h,h'=>by
  have h'':ct.2+((nS x+(if 3<=k then 1 else 0)+nS y:Nat):Int)<=1000000:=h';show cS y (if 3<=k then aJ (cS x ct) else cS x ct)=(ct.1,ct.2+((nS x+(if 3<=k then 1 else 0)+nS y:Nat):Int));rw[dB x ct h (by split at h''<;>omega)];by_cases h3:3<=k
  ·rw[if_pos h3,if_pos h3]at *
   rw[mz (by simp;omega) (by simp;omega)];rw[dB y _ (by simp;omega) (by simp;omega)];simp;omega
  ·rw[if_neg h3,if_neg h3]at *
   rw[dB y _ (by simp;omega) (by simp;omega)];simp;omega
def Small(ct:Ct)(n m:Nat):Prop:=0<=ct.1/\0<=ct.2/\ct.1+n<=1000000/\ct.2+m<=1000000
theorem fY:∀(t:Bl) (ct:Ct),Small ct (pB t) (qB t)->cB t ct=(ct.1+pB t,ct.2+qB t)
 | .nil,ct,_=>by simp[cB,pB,qB]
 | .assign _ x t,ct,⟨h1,h2,h3,h4⟩=>by simp only[pB,qB]at h3 h4;show cB t (cS x (aA ct))=_;rw[dR h1 (by omega),dB x (ct.1+1,ct.2) h2 (by simp;omega),fY t _ ⟨by simp;omega,by simp;omega,by simp;omega,by simp;omega⟩];simp[pB,qB];omega
 | .read _ t,ct,⟨h1,h2,h3,h4⟩=>by simp only[pB,qB]at h3 h4;show cB t (aA ct)=_;rw[dR h1 (by omega),fY t _ ⟨by simp;omega,by simp;omega,by simp;omega,by simp;omega⟩];simp[pB,qB];omega
 | .assert _ x y t,ct,⟨h1,h2,h3,h4⟩=>by simp only[pB,qB]at h3 h4;show cB t (cS y (cS x (aJ (aA ct))))=_;rw[dR h1 (by omega),mz (by simp;omega) (by simp;omega),dB x _ (by simp;omega) (by simp;omega),dB y _ (by simp;omega) (by simp;omega),fY t _ ⟨by simp;omega,by simp;omega,by simp;omega,by simp;omega⟩];simp[pB,qB];omega
 | .ite _ x y xs true ys t,ct,⟨h1,h2,h3,h4⟩=>by simp only[pB,qB,if_true]at h3 h4;show cB t (cB ys (cB xs (cS y (cS x (aA ct)))))=_;rw[dR h1 (by omega),dB x _ (by simp;omega) (by simp;omega),dB y _ (by simp;omega) (by simp;omega),fY xs _ ⟨by simp;omega,by simp;omega,by simp;omega,by simp;omega⟩,fY ys _ ⟨by simp;omega,by simp;omega,by simp;omega,by simp;omega⟩,fY t _ ⟨by simp;omega,by simp;omega,by simp;omega,by simp;omega⟩];simp[pB,qB];omega
 | .ite _ x y xs false ys t,ct,⟨h1,h2,h3,h4⟩=>by simp only[pB,qB]at h3 h4;show cB t (cB xs (cS y (cS x (aA ct))))=_;simp at h3 h4;rw[dR h1 (by omega),dB x _ (by simp;omega) (by simp;omega),dB y _ (by simp;omega) (by simp;omega),fY xs _ ⟨by simp;omega,by simp;omega,by simp;omega,by simp;omega⟩,fY t _ ⟨by simp;omega,by simp;omega,by simp;omega,by simp;omega⟩];simp[pB,qB];omega
 | .loop _ x y xs t,ct,⟨h1,h2,h3,h4⟩=>by simp only[pB,qB]at h3 h4;show cB t (cB xs (cS y (cS x (aA ct))))=_;rw[dR h1 (by omega),dB x _ (by simp;omega) (by simp;omega),dB y _ (by simp;omega) (by simp;omega),fY xs _ ⟨by simp;omega,by simp;omega,by simp;omega,by simp;omega⟩,fY t _ ⟨by simp;omega,by simp;omega,by simp;omega,by simp;omega⟩];simp[pB,qB];omega
section
variable {D : pX}
section
variable{p:Int}
def jb(lo hi:Ct):eU D.V->Prop
 | .ay p _=>lo.1<=p/\p<hi.1
 | .site q _=>lo.2<=q/\q<hi.2
theorem jb.mono{lo hi BC oA:Ct}{x:eU D.V}(h:jb lo hi x)(h1:BC.1<=lo.1)(h2:BC.2<=lo.2)(h3:hi.1<=oA.1)(h4:hi.2<=oA.2):jb BC oA x:=by
 cases x with
 | ay p s=>exact⟨Int.le_trans h1 h.1,Int.lt_of_lt_of_le h.2 h3⟩
 | site q b=>exact⟨Int.le_trans h2 h.1,Int.lt_of_lt_of_le h.2 h4⟩
theorem qH:∀(x:Sm) (ct:Ct) (e:D.Env),0<=ct.2->ct.2+nS x<=1000000->∀ev∈(dt D x ct e).1,jb ct (ct.1,ct.2+nS x) ev
 | .num _,_,_,_,_,ev,h=>by cases h
 | .name _,_,_,_,_,ev,h=>by cases h
 | .neg x,ct,e,h1,h2,ev,h=>qH x ct e h1 h2 ev h
 | .bin k x y,ct,e,h1,h2,ev,h=>by
  have Ij:ct.2+((nS x+(if 3<=k then 1 else 0)+nS y:Nat):Int)<=1000000:=h2;have hx:=qH x ct e h1 (by split at Ij<;>omega);have ec:=dB x ct h1 (by split at Ij<;>omega);have uE:∀ev∈(dt D x ct e).1,jb ct (ct.1,ct.2+(nS (.bin k x y):Nat)) ev:=fun ev h=>(hx ev h).mono (Int.le_refl _) (Int.le_refl _) (Int.le_refl _) (by show ct.2+(nS x:Int)<=ct.2+((nS x+(if 3<=k then 1 else 0)+nS y:Nat):Int);omega)
  have TH:∀ev∈(dt D y (if 3<=k then aJ (cS x ct) else cS x ct) e).1,jb ct (ct.1,ct.2+(nS (.bin k x y):Nat)) ev:=by
   rw[ec];intro ev h;by_cases h3:3<=k
   ·rw[if_pos h3]at h Ij
    rw[mz (by simp;omega) (by simp;omega)]at h;refine(qH y _ e (by simp;omega) (by simp;omega) ev h).mono (Int.le_refl _) (by simp;omega) (Int.le_refl _) ?_;simp[nS,h3];omega
   ·rw[if_neg h3]at h Ij
    refine(qH y _ e (by simp;omega) (by simp;omega) ev h).mono (Int.le_refl _) (by simp;omega) (Int.le_refl _) ?_;simp[nS,h3];omega
  unfold dt at h;split at h
  ·next e1 k1=>exact uE ev (by rw[k1];exact h)
  ·next e1 a k1 =>
   split at h
   ·next e2 k2 =>
    rcases List.mem_append.1 h with h | h
    ·exact uE ev (by rw[k1];exact h)
    ·exact TH ev (by rw[k2];exact h)
   ·next e2 b k2 =>
    rcases List.mem_append.1 h with h | h
    ·rcases List.mem_append.1 h with h | h
     ·exact uE ev (by rw[k1];exact h)
     ·exact TH ev (by rw[k2];exact h)
    ·by_cases h3:3<=k
     ·rw[if_pos h3]at h
      have:=List.mem_singleton.1 h;subst this;rw[ec];simp[jb,nS,h3];omega
     ·rw[if_neg h3]at h
      cases h
theorem Bg(k:Nat)(x y:Sm)(ct:Ct)(s:D.St)(h1:0<=ct.2)(h2:ct.2+nS x+nS y<=1000000):∀ev∈(dq D k x y ct s).1,jb ct (ct.1,ct.2+nS x+nS y) ev:=by
 intro ev h;have ec:=dB x ct h1 (by omega);cases s with
 | none=>cases h
 | some e =>
  have uE:∀ev∈(dt D x ct e).1,jb ct (ct.1,ct.2+nS x+nS y) ev:=fun ev h=>(qH x ct e h1 (by omega) ev h).mono (Int.le_refl _) (Int.le_refl _) (Int.le_refl _) (by simp;omega)
  have TH:∀ev∈(dt D y (cS x ct) e).1,jb ct (ct.1,ct.2+nS x+nS y) ev:=fun ev h=>by rw[ec]at h;exact(qH y _ e (by simp;omega) (by simp;omega) ev h).mono (Int.le_refl _) (by simp;omega) (Int.le_refl _) (by simp)
  unfold dq at h;simp only at h;split at h
  ·next e1 k1=>exact uE ev (by rw[k1];exact h)
  ·next e1 a k1 =>
   split at h
   ·next e2 k2 =>
    rcases List.mem_append.1 h with h | h
    ·exact uE ev (by rw[k1];exact h)
    ·exact TH ev (by rw[k2];exact h)
   ·next e2 b k2 =>
    rcases List.mem_append.1 h with h | h
    ·exact uE ev (by rw[k1];exact h)
    ·exact TH ev (by rw[k2];exact h)
theorem Cv{Q:eU D.V->Prop}{cond:fQ D}{body:gw D}(hp:∀e,Q (.ay p e))(hc:∀s,∀ev∈(cond s).1,Q ev)(hb:∀s,∀ev∈(body s).1,Q ev):∀(n:Nat) (out s:D.St),∀ev∈(jH D cond body p n out s).1,Q ev
 | 0,_,_,ev,h=>by cases h
 | n+1,out,s,ev,h=>by
  have h:ev∈pI D p s ++ (cond s).1 ++ (body (cond s).2.1).1 ++ (jH D cond body p n (jn D out (cond s).2.2) (body (cond s).2.1).2).1:=h
  rcases List.mem_append.1 h with h | h
  ·rcases List.mem_append.1 h with h | h
   ·rcases List.mem_append.1 h with h | h
    ·cases s with
     | none=>cases h
     | some e=>have:=List.mem_singleton.1 h;subst this;exact hp e
    ·exact hc _ ev h
   ·exact hb _ ev h
  ·exact Cv hp hc hb n _ _ ev h
theorem Pc{Q:eU D.V->Prop}{P:zB}{cond:fQ D}{body:gw D}(hp:∀e,Q (.ay p e))(hc:∀s,∀ev∈(cond s).1,Q ev)(hb:∀s,∀ev∈(body s).1,Q ev)(s:D.St):∀ev∈(rS D P cond body p s).1,Q ev:=by
 intro ev h;have h:ev∈(jH D cond body p P.ai M s).1 ++ pI D p (ma D P cond body (jH D cond body p P.ai M s).2.2) ++ (cond (ma D P cond body (jH D cond body p P.ai M s).2.2)).1 ++ (body (cond (ma D P cond body (jH D cond body p P.ai M s).2.2)).2.1).1:=h
 rcases List.mem_append.1 h with h | h
 ·rcases List.mem_append.1 h with h | h
  ·rcases List.mem_append.1 h with h | h
   ·exact Cv hp hc hb _ _ _ ev h
   ·cases hi:ma D P cond body (jH D cond body p P.ai M s).2.2 with
    | none=>rw[hi]at h;cases h
    | some e=>rw[hi]at h;have:=List.mem_singleton.1 h;subst this;exact hp e
  ·exact hc _ ev h
 ·exact hb _ ev h
theorem ph{Q:eU D.V->Prop}{f:D.Env->ve D}(hp:∀e,Q (.ay p e))(hf:∀e,∀ev∈(f e).1,Q ev){g:D.St->ve D}(hg:∀s,∀ev∈(g s).1,Q ev)(s:D.St):∀ev∈(fV D (Oo D p f s) g).1,Q ev:=by
 intro ev h
 rcases List.mem_append.1 h with h | h
 ·cases s with
  | none=>cases h
  | some e =>
   rcases List.mem_cons.1 h with rfl | h
   ·exact hp e
   ·exact hf e ev h
 ·exact hg _ ev h
theorem jy(P:zB):∀(t:Bl) (ct:Ct) (_:Small ct (pB t) (qB t)) (s:D.St),∀ev∈(cD D P t ct s).1,jb ct (ct.1+pB t,ct.2+qB t) ev
 | .nil,_,_,_,ev,h=>by cases h
 | .assign k x t,ct,⟨h1,h2,h3,h4⟩,s,ev,h=>by
  simp only[pB,qB]at h3 h4;have e0:=dR h1 (by omega);have ec:=dB x (aA ct) (by rw[e0];exact h2) (by rw[e0];simp;omega);refine ph (Q:=jb ct (ct.1+pB (.assign k x t),ct.2+qB (.assign k x t))) (fun e=>?_) (fun e ev h=>?_) (fun s ev h=>?_) s ev h
  ·simp[jb,pB];omega
  ·refine(qH x (aA ct) e (by rw[e0];exact h2) (by rw[e0];simp;omega) ev h).mono ?_ ?_ ?_ ?_<;>(rw[e0];simp[pB,qB];try omega)
  ·rw[ec,e0]at h
   refine(jy P t _ ⟨by simp;omega,by simp;omega,by simp;omega,by simp;omega⟩ s ev h).mono ?_ ?_ ?_ ?_<;>(simp[pB,qB];try omega)
 | .read k t,ct,⟨h1,h2,h3,h4⟩,s,ev,h=>by
  simp only[pB,qB]at h3 h4;have e0:=dR h1 (by omega);refine ph (Q:=jb ct (ct.1+pB (.read k t),ct.2+qB (.read k t))) (fun e=>?_) (fun e ev h=>?_) (fun s ev h=>?_) s ev h
  ·simp[jb,pB];omega
  ·cases h
  ·rw[e0]at h
   refine(jy P t _ ⟨by simp;omega,by simp;omega,by simp;omega,by simp;omega⟩ s ev h).mono ?_ ?_ ?_ ?_<;>(simp[pB,qB];try omega)
 | .assert k x y t,ct,⟨h1,h2,h3,h4⟩,s,ev,h=>by
  simp only[pB,qB]at h3 h4;have e0:aJ (aA ct)=(ct.1+1,ct.2+1):=by rw[dR h1 (by omega),mz (by simp;omega) (by simp;omega)]
  have ec:cS y (cS x (aJ (aA ct)))=(ct.1+1,ct.2+1+nS x+nS y):=by rw[e0,dB x _ (by simp;omega) (by simp;omega),dB y _ (by simp;omega) (by simp;omega)]
  refine ph (Q:=jb ct (ct.1+pB (.assert k x y t),ct.2+qB (.assert k x y t))) (fun e=>?_) (fun e ev h=>?_) (fun s ev h=>?_) s ev h
  ·simp[jb,pB];omega
  ·rcases List.mem_append.1 h with h | h
   ·refine(Bg k x y _ (Y e) (by rw[e0];simp;omega) (by rw[e0];simp;omega) ev h).mono ?_ ?_ ?_ ?_<;>(rw[e0];simp[pB,qB];try omega)
   ·have:=List.mem_singleton.1 h
    subst this;simp[jb,qB];omega
  ·rw[ec]at h
   refine(jy P t _ ⟨by simp;omega,by simp;omega,by simp;omega,by simp;omega⟩ s ev h).mono ?_ ?_ ?_ ?_<;>(simp[pB,qB];try omega)
 | .ite k x y xs true ys t,ct,⟨h1,h2,h3,h4⟩,s,ev,h=>by
  simp only[pB,qB,if_true]at h3 h4;have e0:=dR h1 (by omega);have ec:cS y (cS x (aA ct))=(ct.1+1,ct.2+nS x+nS y):=by rw[e0,dB x _ (by simp;omega) (by simp;omega),dB y _ (by simp;omega) (by simp;omega)]
  have ex:=fY xs (ct.1+1,ct.2+nS x+nS y) ⟨by simp;omega,by simp;omega,by simp;omega,by simp;omega⟩;refine ph (Q:=jb ct (ct.1+pB (.ite k x y xs true ys t),ct.2+qB (.ite k x y xs true ys t))) (fun e=>?_) (fun e ev h=>?_) (fun s ev h=>?_) s ev h
  ·simp[jb,pB];omega
  ·rcases List.mem_append.1 h with h | h
   ·rcases List.mem_append.1 h with h | h
    ·refine(Bg k x y _ (Y e) (by rw[e0];simp;omega) (by rw[e0];simp;omega) ev h).mono ?_ ?_ ?_ ?_<;>(rw[e0];simp[pB,qB];try omega)
    ·rw[ec]at h
     refine(jy P xs _ ⟨by simp;omega,by simp;omega,by simp;omega,by simp;omega⟩ _ ev h).mono ?_ ?_ ?_ ?_<;>(simp[pB,qB];try omega)
   ·rw[ec,ex]at h
    refine(jy P ys _ ⟨by simp;omega,by simp;omega,by simp;omega,by simp;omega⟩ _ ev h).mono ?_ ?_ ?_ ?_<;>(simp[pB,qB];try omega)
  ·rw[ec,ex]at h
   rw[fY ys _ ⟨by simp;omega,by simp;omega,by simp;omega,by simp;omega⟩]at h;refine(jy P t _ ⟨by simp;omega,by simp;omega,by simp;omega,by simp;omega⟩ s ev h).mono ?_ ?_ ?_ ?_<;>(simp[pB,qB];try omega)
 | .ite k x y xs false ys t,ct,⟨h1,h2,h3,h4⟩,s,ev,h=>by
  simp only[pB,qB]at h3 h4;simp at h3 h4;have e0:=dR h1 (by omega);have ec:cS y (cS x (aA ct))=(ct.1+1,ct.2+nS x+nS y):=by rw[e0,dB x _ (by simp;omega) (by simp;omega),dB y _ (by simp;omega) (by simp;omega)]
  have ex:=fY xs (ct.1+1,ct.2+nS x+nS y) ⟨by simp;omega,by simp;omega,by simp;omega,by simp;omega⟩;refine ph (Q:=jb ct (ct.1+pB (.ite k x y xs false ys t),ct.2+qB (.ite k x y xs false ys t))) (fun e=>?_) (fun e ev h=>?_) (fun s ev h=>?_) s ev h
  ·simp[jb,pB];omega
  ·rcases List.mem_append.1 h with h | h
   ·rcases List.mem_append.1 h with h | h
    ·refine(Bg k x y _ (Y e) (by rw[e0];simp;omega) (by rw[e0];simp;omega) ev h).mono ?_ ?_ ?_ ?_<;>(rw[e0];simp[pB,qB];try omega)
    ·rw[ec]at h
     refine(jy P xs _ ⟨by simp;omega,by simp;omega,by simp;omega,by simp;omega⟩ _ ev h).mono ?_ ?_ ?_ ?_<;>(simp[pB,qB];try omega)
   ·cases h
  ·rw[ec,ex]at h
   refine(jy P t _ ⟨by simp;omega,by simp;omega,by simp;omega,by simp;omega⟩ s ev h).mono ?_ ?_ ?_ ?_<;>(simp[pB,qB];try omega)
 | .loop k x y xs t,ct,⟨h1,h2,h3,h4⟩,s,ev,h=>by
  simp only[pB,qB]at h3 h4;have e0:=dR h1 (by omega);have ec:cS y (cS x (aA ct))=(ct.1+1,ct.2+nS x+nS y):=by rw[e0,dB x _ (by simp;omega) (by simp;omega),dB y _ (by simp;omega) (by simp;omega)]
  have ex:=fY xs (ct.1+1,ct.2+nS x+nS y) ⟨by simp;omega,by simp;omega,by simp;omega,by simp;omega⟩;refine ph (Q:=jb ct (ct.1+pB (.loop k x y xs t),ct.2+qB (.loop k x y xs t))) (fun e=>?_) (fun e ev h=>?_) (fun s ev h=>?_) s ev h
  ·simp[jb,pB];omega
  ·refine Pc (Q:=jb ct (ct.1+pB (.loop k x y xs t),ct.2+qB (.loop k x y xs t))) (fun e=>?_) (fun s ev h=>?_) (fun s ev h=>?_) _ ev h
   ·simp[jb,pB];omega
   ·refine(Bg k x y _ s (by rw[e0];simp;omega) (by rw[e0];simp;omega) ev h).mono ?_ ?_ ?_ ?_<;>(rw[e0];simp[pB,qB];try omega)
   ·rw[ec]at h
    refine(jy P xs _ ⟨by simp;omega,by simp;omega,by simp;omega,by simp;omega⟩ _ ev h).mono ?_ ?_ ?_ ?_<;>(simp[pB,qB];try omega)
  ·rw[ec,ex]at h
   refine(jy P t _ ⟨by simp;omega,by simp;omega,by simp;omega,by simp;omega⟩ s ev h).mono ?_ ?_ ?_ ?_<;>(simp[pB,qB];try omega)
end
end
def SzS(n:Nat)(x:Sm):Prop:=nS x<=n/\wK x
def SzT(n:Nat)(f:Bl->Bl):Prop:=∀rest,pB (f rest)<=n+pB rest/\qB (f rest)<=n+qB rest/\(tG rest->tG (f rest))
theorem Uk:∀{n:Nat} {fs:List (Bl->Bl)},Pn.QL SzT n fs->pB (aW fs)<=n/\qB (aW fs)<=n/\tG (aW fs)
 | n,[],_=>⟨Nat.zero_le _,Nat.zero_le _,fun _ h=>by cases h⟩
 | n,f :: fs,⟨a,b,hab,h1,h2⟩=>by obtain⟨d1,d2,d3⟩:=Uk h2;obtain⟨e1,e2,e3⟩:=h1 (aW fs);exact⟨by show pB (f (aW fs))<=n;omega,by show qB (f (aW fs))<=n;omega,e3 d3⟩
theorem bR{l1 l2:List Int}(h1:∀n∈l1,oh n)(h2:∀n∈l2,oh n):∀n∈l1 ++ l2,oh n:=fun n h=>by
 rcases List.mem_append.1 h with h | h
 ·exact h1 n h
 ·exact h2 n h
theorem Pu:Pn.Made Tr (fun n (x:Sm)=>SzS n x) (fun n (f:Bl->Bl)=>SzT n f) where
 pm n m x h hn:=⟨by have:=h.1;omega,h.2⟩
 qm n m x h hn:=fun rest=>⟨by have:=(h rest).1;omega,by have:=(h rest).2.1;omega,(h rest).2.2⟩
 num v hv:=⟨Nat.zero_le _,fun n h=>by have:=List.mem_singleton.1 h;subst this;unfold oh;omega⟩
 name k _:=⟨Nat.zero_le _,fun n h=>by cases h⟩
 neg n x h:=h
 bin k n m x y _ hx hy:=⟨by show nS x+(if 3<=k then 1 else 0)+nS y<=n+m+1;have:=hx.1;have:=hy.1;split<;>omega,bR hx.2 hy.2⟩
 assign k n x _ h:=fun rest=>⟨by show 1+pB rest<=_;omega,by show nS x+qB rest<=_;have:=h.1;omega,fun hr=>bR h.2 hr⟩
 read k _:=fun rest=>⟨by show 1+pB rest<=_;omega,by show qB rest<=_;omega,fun hr=>hr⟩
 assert k n m x y _ hx hy:=fun rest=>⟨by show 1+pB rest<=_;omega,by show 1+nS x+nS y+qB rest<=_;have:=hx.1;have:=hy.1;omega,fun hr=>bR (bR hx.2 hy.2) hr⟩
 ite k n m j x y xs _ hx hy BI:=fun rest=>by obtain⟨d1,d2,d3⟩:=Uk BI;refine⟨by show 1+pB (aW xs)+0+pB rest<=_;omega,by show nS x+nS y+qB (aW xs)+0+qB rest<=_;have:=hx.1;have:=hy.1;omega,fun hr=>bR (bR (bR (bR hx.2 hy.2) d3) (fun _ h=>by cases h)) hr⟩
 iteElse k n m j i x y xs ys _ hx hy BI Ty:=fun rest=>by obtain⟨d1,d2,d3⟩:=Uk BI;obtain⟨g1,g2,g3⟩:=Uk Ty;refine⟨by show 1+pB (aW xs)+pB (aW ys)+pB rest<=_;omega,by show nS x+nS y+qB (aW xs)+qB (aW ys)+qB rest<=_;have:=hx.1;have:=hy.1;omega,fun hr=>bR (bR (bR (bR hx.2 hy.2) d3) g3) hr⟩
 loop k n m j x y xs _ hx hy BI:=fun rest=>by obtain⟨d1,d2,d3⟩:=Uk BI;refine⟨by show 1+pB (aW xs)+pB rest<=_;omega,by show nS x+nS y+qB (aW xs)+qB rest<=_;have:=hx.1;have:=hy.1;omega,fun hr=>bR (bR (bR hx.2 hy.2) d3) hr⟩
theorem wG{src:Bs}{t:Bl}(h:tree src=.ok t):pB t<=400/\qB t<=400/\tG t:=by
 unfold tree at h;split at h
 ·next fs hp =>
  cases h
  exact Uk (Pn.G0 Pu hp).2
 ·cases h
end Sp
end
section
namespace Sp
section
variable {D : pX}
theorem Iy(F:Found D)(x:eU D.V)(es:List (eU D.V)):tell D F (x :: es)=tell D (cP D F x) es:=rfl
theorem Ji(F:Found D)(x:eU D.V):(cP D F x).1.length=F.1.length/\(cP D F x).2.length=F.2.length:=by
 cases x with
 | ay p s=>exact⟨by simp[cP],rfl⟩
 | site q b=>exact⟨rfl,by simp[cP]⟩
theorem mn:∀(es:List (eU D.V)) (F:Found D),(tell D F es).1.length=F.1.length/\(tell D F es).2.length=F.2.length
 | [],_=>⟨rfl,rfl⟩
 | x :: es,F=>by rw[Iy];obtain⟨h1,h2⟩:=mn es (cP D F x);obtain⟨h3,h4⟩:=Ji F x;exact⟨h1.trans h3,h2.trans h4⟩
section
end
section
end
def Vj(D:pX)(P:zB)(t:Bl):List (eU D.V):=(cD D P t (0,0) (Y fun _=>D.num 0)).1 ++ pI D (cB t (0,0)).1 (cD D P t (0,0) (Y fun _=>D.num 0)).2
theorem Dc(P:zB)(t:Bl):cE D P t=tell D (List.replicate ((cB t (0,0)).1+1).toNat M,List.replicate (cB t (0,0)).2.toNat 0) (Vj D P t):=rfl
end
end Sp
end
namespace Sp
def QF(n:Nat)(x:Sm):Prop:=(dI x).length<=n+1
def FeT(n:Nat)(f:Bl->Bl):Prop:=∀rest,(dH (f rest)).length<=2*n+(dH rest).length
theorem Ul:∀{n:Nat} {fs:List (Bl->Bl)},Pn.QL FeT n fs->(dH (aW fs)).length<=2*n
 | n,[],_=>Nat.zero_le _
 | n,f :: fs,⟨a,b,hab,h1,h2⟩=>by have d:=Ul h2;have e:=h1 (aW fs);show(dH (f (aW fs))).length<=2*n;omega
theorem P2:Pn.Made Tr (fun n (x:Sm)=>QF n x) (fun n (f:Bl->Bl)=>FeT n f) where
 pm n m x h hn:=by unfold QF at *;omega
 qm n m x h hn:=fun rest=>by have:=h rest;omega
 num v hv:=Nat.le_refl _
 name k _:=Nat.zero_le _
 neg n x h:=h
 bin k n m x y _ hx hy:=by show(dI x ++ dI y).length<=_;unfold QF at hx hy;rw[List.length_append];omega
 assign k n x _ h:=fun rest=>by show(dI x ++ dH rest).length<=_;unfold QF at h;rw[List.length_append];omega
 read k _:=fun rest=>by show(dH rest).length<=_;omega
 assert k n m x y _ hx hy:=fun rest=>by show(dI x ++ dI y ++ dH rest).length<=_;unfold QF at hx hy;simp only[List.length_append];omega
 ite k n m j x y xs _ hx hy BI:=fun rest=>by have d:=Ul BI;show(dI x ++ dI y ++ dH (aW xs) ++ [] ++ dH rest).length<=_;unfold QF at hx hy;simp only[List.length_append,List.length_nil];omega
 iteElse k n m j i x y xs ys _ hx hy BI Ty:=fun rest=>by have d:=Ul BI;have g:=Ul Ty;show(dI x ++ dI y ++ dH (aW xs) ++ dH (aW ys) ++ dH rest).length<=_;unfold QF at hx hy;simp only[List.length_append];omega
 loop k n m j x y xs _ hx hy BI:=fun rest=>by have d:=Ul BI;show(dI x ++ dI y ++ dH (aW xs) ++ dH rest).length<=_;unfold QF at hx hy;simp only[List.length_append];omega
theorem L1{src:Bs}{t:Bl}(h:tree src=.ok t):(dH t).length<=800:=by
 unfold tree at h;split at h
 ·next fs hp =>
  cases h
  exact Ul (Pn.G0 P2 hp).2
 ·cases h
theorem Fo(D:pX)(P:zB)(t:Bl)(h:Small (0,0) (pB t) (qB t)):(cE D P t).1.length=pB t+1/\(cE D P t).2.length=qB t:=by rw[Dc,(mn _ _).1,(mn _ _).2,fY t (0,0) h];simp
end Sp
section
namespace Sp
section
variable {D : pX}
section
variable{al k f n m:Nat}
variable{p:Int}
structure pH(K:Rk D)(next:D.St->D.St)(al:Nat)(ο:D.St)(k f:Nat)(sj:D.St):Prop where
 sum:f+k=D.fuel+1
 eq:fixF D next al f k sj=ο
 wf:Wf K sj
 no:sj=M->next M=M
 up:∀e,sj=Y e->8*K.top<Pf K e+f
theorem pH.start{K:Rk D}{next:D.St->D.St}{ο s:D.St}(hU:fixF D next al D.fuel 1 s=ο)(hs:Wf K s)(h0:s=M->next M=M):pH K next al ο 1 D.fuel s :=
 ⟨rfl,hU,hs,h0,fun _ _=>Nat.lt_of_lt_of_le K.fuel (Nat.le_add_left _ _)⟩
theorem pH.end{K:Rk D}{next:D.St->D.St}{ο:D.St}{sj:D.St}(h:pH K next al ο k f sj)(he:FQ D (jn D sj (next sj)) sj=true):sj=ο:=by
 have:=h.eq;cases f with
 | zero=>exact this
 | succ f =>rw[px,if_pos he]at this;exact this
theorem pH.on{K:Rk D}{next:D.St->D.St}{ο:D.St}{sj:D.St}(h:pH K next al ο k f sj)(hn:∀i,Wf K i->Wf K (next i))(he:FQ D (jn D sj (next sj)) sj=false) :
  ∃e n f',sj=Y e/\(∀k,K.wf (e k))/\jn D sj (next sj)=Y n/\(∀k,K.wf (n k))/\f=f'+1/\pH K next al ο (k+1) f' (oZ D next al k sj):=by
 have dF:¬ jn D sj (next sj)=sj:=fun e=>by rw[(mU D _ _).2 e]at he;cases he
 cases sj with
 | none=>rw[h.no rfl]at dF;exact absurd rfl dF
 | some e =>
  have we:=h.wf e rfl;have hj:Wf K (jn D (Y e) (next (Y e))):=lA h.wf (hn _ h.wf);obtain⟨n,UJ⟩:∃n,jn D (Y e) (next (Y e))=Y n:=by
   cases hx:next (Y e) with
   | none=>exact⟨_,rfl⟩
   | some t=>exact⟨_,rfl⟩
  obtain⟨g,h1,h2,h3⟩:=zI (K:=K) we (hn _ h.wf) al k dF;have hup:=h.up e rfl;have hle:=LZ (K:=K) we;obtain⟨f',rfl⟩:∃f',f=f'+1:=⟨f - 1,by omega⟩;refine⟨e,n,f',rfl,we,UJ,hj n UJ,rfl,?_⟩;have Qe:=h.sum;have heq:=h.eq;rw[px,if_neg (by rw[he];exact Bool.noConfusion)]at heq;refine⟨by omega,heq,?_,?_,?_⟩
  ·rw[h1];exact Wf.some h2
  ·intro e;rw[h1]at e;cases e
  ·intro e x9
   rw[h1]at x9;cases x9
   omega
structure rD(K:Rk D)(cond:fQ D)(body:gw D)(s ο:D.St)(n:Nat)(sj:D.St):Prop where
 eq:JI D (jP D cond body s) n sj=ο
 wf:Wf K sj
 no:s=M->sj=M
 sub:∀e,s=Y e->qu K (Y e) sj
theorem rD.start{K:Rk D}{P:zB}{cond:fQ D}{body:gw D}(hc:fS K cond)(hb:eV K body)(nc:sP cond)(nb:qC body){s:D.St}(hs:Wf K s) :
  rD K cond body s (ma D P cond body s) P.narrow (fixF D (jP D cond body s) P.al D.fuel 1 s):=by
 have hn:∀i,Wf K i->Wf K (jP D cond body s i):=fun i hi=>wU hc hb hs hi
 have h0:s=M->jP D cond body s M=M:=fun e=>by subst e;unfold jP;rw[nc,nb];rfl
 refine⟨rfl,AS hn P.al D.fuel 1 s hs,fun e=>?_,fun e he=>?_⟩
 ·have h1:=h0 e
  subst e;exact zM h1 _ _ _
 ·subst he
  obtain⟨i,h1,h2⟩:=wR hn P.al D.fuel 1 e (hs e rfl) (by have:=K.fuel;omega);rw[h1];exact Hz h2
theorem rD.on{K:Rk D}{cond:fQ D}{body:gw D}(hc:fS K cond)(hb:eV K body){s ο:D.St}(hs:Wf K s){sj:D.St}(h:rD K cond body s ο (n+1) sj) :
  rD K cond body s ο n (nT D D.narrow sj (jP D cond body s sj))/\(sj=M∨∃e e',sj=Y e/\jP D cond body s sj=Y e'/\(∀k,K.wf (e k))/\(∀k,K.wf (e' k))):=by
 have hw:=wU hc hb hs h.wf;cases s with
 | none =>have h1:=h.no rfl;have h2:=h.eq;subst h1;exact⟨⟨h2,dY,fun _=>rfl,fun e he=>by cases he⟩,.inl rfl⟩
 | some e =>obtain⟨h1,h2⟩:=zR (hs e rfl) h.wf hw (h.sub e rfl) (wE _ _);obtain⟨g,hg,_⟩:=h.sub e rfl e rfl;obtain⟨q,hq,_⟩:=(wE (K:=K) (Y e) (body (cond sj).2.1).2) e rfl;have Kl:jP D cond body (Y e) sj=Y q:=hq;refine⟨⟨h.eq,h1,(fun e=>by cases e),fun e' x9=>by cases x9;exact h2⟩,.inr ⟨g,q,hg,Kl,h.wf g hg,hw q Kl⟩⟩
theorem KT{cond:fQ D}{body:gw D}(nc:sP cond)(nb:qC body){s:D.St}(h:s=M):jP D cond body s M=M:=by subst h;unfold jP;rw[nc,nb];rfl
theorem II{K:Rk D}{P:zB}{cond:fQ D}{body:gw D}(hc:fS K cond)(hb:eV K body)(p:Int){e:D.Env}(he:∀k,K.wf (e k)):∃s',eU.ay p s'∈(rS D P cond body p (Y e)).1:=by
 unfold rS;cases hn:P.ai with
 | zero =>obtain⟨g,hg,_⟩:=(tu (P:=P) hc hb he).2 e rfl;refine⟨g,?_⟩;simp only[jH,List.nil_append];rw[hg];simp[pI]
 | succ n =>refine⟨e,?_⟩;simp[jH,pI]
structure lX(K:Rk D)(cond:fQ D)(body:gw D)(p:Int)(ο:List (eU D.V) × D.St × D.St)(m:Nat)(ej:List (eU D.V))(oj sj:D.St):Prop where
 eq:ο=(ej ++ (jH D cond body p m oj sj).1,(jH D cond body p m oj sj).2)
 wo:Wf K oj
 ws:Wf K sj
theorem lX.start{K:Rk D}(cond:fQ D)(body:gw D)(p:Int)(m:Nat){s:D.St}(hs:Wf K s):lX K cond body p (jH D cond body p m M s) m [] M s:=⟨rfl,dY,hs⟩
theorem lX.end{K:Rk D}{cond:fQ D}{body:gw D}{ο:List (eU D.V) × D.St × D.St}{ej:List (eU D.V)}{oj sj:D.St}(h:lX K cond body p ο 0 ej oj sj):ο=(ej,oj,sj):=by rw[h.eq];simp[jH]
theorem lX.parts{K:Rk D}{cond:fQ D}{body:gw D}{ο:List (eU D.V) × D.St × D.St}{ej:List (eU D.V)}{oj sj:D.St}(h:lX K cond body p ο (m+1) ej oj sj) :
  ∃more,ο.1=ej ++ pI D p sj ++ (cond sj).1 ++ (body (cond sj).2.1).1 ++ more:=by
 rw[h.eq];exact⟨(jH D cond body p m (jn D oj (cond sj).2.2) (body (cond sj).2.1).2).1,by simp[jH]⟩
theorem lX.on{K:Rk D}{cond:fQ D}{body:gw D}(hc:fS K cond)(hb:eV K body){ο:List (eU D.V) × D.St × D.St}{ej:List (eU D.V)}{oj sj:D.St}(h:lX K cond body p ο (m+1) ej oj sj) :
  lX K cond body p ο m (ej ++ pI D p sj ++ (cond sj).1 ++ (body (cond sj).2.1).1) (jn D oj (cond sj).2.2) (body (cond sj).2.1).2:=by
 refine⟨?_,lA h.wo (hc _ h.ws).2,hb _ (hc _ h.ws).1⟩;rw[h.eq];simp[jH]
end
end
end Sp
end
section
namespace W
open Sp
variable {δ : Bool}
theorem Lv{y x:Cg}(h:∀n,bA y n->bA x n):(x.m:Int) ∣ y.r - x.r/\x.m ∣ y.m:=by have h1:(x.m:Int) ∣ y.r - x.r:=(mem_iff x y.r).1 (h y.r ((mem_iff y y.r).2 (by simp)));have h2:(x.m:Int) ∣ y.r+y.m - x.r:=(mem_iff x (y.r+y.m)).1 (h (y.r+y.m) ((mem_iff y _).2 (by rw[show y.r+(y.m:Int) - y.r=y.m by omega];exact Int.dvd_refl _)));have h3:=Int.dvd_sub h2 h1;rw[show y.r+(y.m:Int) - x.r - (y.r - x.r)=y.m by omega]at h3;exact⟨h1,Int.natCast_dvd_natCast.1 h3⟩
theorem Vm(z e q:Cg)(h:∀n,bA e n->bA q n):cp (cp z e) q=cp z q:=by
 obtain⟨d1,d2⟩:=Lv h;by_cases h1:Nat.gcd (Nat.gcd z.m e.m) (z.r - e.r).natAbs=0
 ·rw[show cp z e=z from if_pos h1]
 ·rw[show cp z e=jX _ z.r from if_neg h1]
  generalize hg:Nat.gcd (Nat.gcd z.m e.m) (z.r - e.r).natAbs=g1 at *;have a1:g1 ∣ z.m:=hg ▸ Nat.dvd_trans (Nat.gcd_dvd_left _ _) (Nat.gcd_dvd_left _ _);have em:(g1:Int) ∣ z.r - z.r % (g1:Int):=⟨z.r / g1,by have:=Int.emod_add_mul_ediv z.r g1;omega⟩;have e2:Nat.gcd (Nat.gcd g1 q.m) (z.r % (g1:Int) - q.r).natAbs=Nat.gcd (Nat.gcd z.m q.m) (z.r - q.r).natAbs:=by
   refine Nat.dvd_antisymm ?_ ?_
   ·have b1:=Nat.gcd_dvd_left (Nat.gcd g1 q.m) (z.r % (g1:Int) - q.r).natAbs
    have b2:=Nat.dvd_trans b1 (Nat.gcd_dvd_left _ _);refine Nat.dvd_gcd (Nat.dvd_gcd (Nat.dvd_trans b2 a1) (Nat.dvd_trans b1 (Nat.gcd_dvd_right _ _))) (Int.ofNat_dvd_left.1 ?_);rw[show z.r - q.r=(z.r - z.r % (g1:Int))+(z.r % (g1:Int) - q.r) by omega];exact Int.dvd_add (Int.dvd_trans (Int.natCast_dvd_natCast.2 b2) em) (Int.ofNat_dvd_left.2 (Nat.gcd_dvd_right _ _))
   ·have b1:=Nat.gcd_dvd_left (Nat.gcd z.m q.m) (z.r - q.r).natAbs
    have bq:=Nat.dvd_trans b1 (Nat.gcd_dvd_right _ _);have br:((Nat.gcd (Nat.gcd z.m q.m) (z.r - q.r).natAbs:Nat):Int) ∣ z.r - q.r:=Int.ofNat_dvd_left.2 (Nat.gcd_dvd_right _ _);have b3:Nat.gcd (Nat.gcd z.m q.m) (z.r - q.r).natAbs ∣ g1:=by rw[<-hg];refine Nat.dvd_gcd (Nat.dvd_gcd (Nat.dvd_trans b1 (Nat.gcd_dvd_left _ _)) (Nat.dvd_trans bq d2)) (Int.ofNat_dvd_left.1 ?_);rw[show z.r - e.r=(z.r - q.r) - (e.r - q.r) by omega];exact Int.dvd_sub br (Int.dvd_trans (Int.natCast_dvd_natCast.2 bq) d1)
    refine Nat.dvd_gcd (Nat.dvd_gcd b3 bq) (Int.ofNat_dvd_left.1 ?_);rw[show z.r % (g1:Int) - q.r=(z.r - q.r) - (z.r - z.r % (g1:Int)) by omega];exact Int.dvd_sub br (Int.dvd_trans (Int.natCast_dvd_natCast.2 b3) em)
  have e3:Nat.gcd (Nat.gcd z.m q.m) (z.r - q.r).natAbs ∣ g1:=by rw[<-e2];exact Nat.dvd_trans (Nat.gcd_dvd_left _ _) (Nat.gcd_dvd_left _ _)
  unfold cp jX;simp only;rw[e2];generalize Nat.gcd (Nat.gcd z.m q.m) (z.r - q.r).natAbs=g at *;have hn:¬ g=0:=fun h=>h1 (by subst h;exact Nat.eq_zero_of_zero_dvd e3)
  rw[if_neg hn,if_neg hn,Int.emod_emod_of_dvd _ (Int.natCast_dvd_natCast.2 e3)]
theorem RQ(e q:Cg)(wq:cr q)(h:∀n,bA e n->bA q n):cp e q=q:=by
 obtain⟨d1,d2⟩:=Lv h;have hg:Nat.gcd (Nat.gcd e.m q.m) (e.r - q.r).natAbs=q.m:=by rw[Nat.gcd_eq_right d2];exact Nat.gcd_eq_left (Int.ofNat_dvd_left.1 d1)
 unfold cp;rw[hg];by_cases hm:q.m=0
 ·rw[if_pos hm]
  rw[hm]at d1 d2;obtain⟨m,r⟩:=e;obtain⟨m',r'⟩:=q;simp only at hm d1 d2;have:r=r':=by obtain⟨k,hk⟩:=d1;simp at hk;omega
  rw[hm,this,Nat.eq_zero_of_zero_dvd d2]
 ·rw[if_neg hm]
  rcases wq with⟨h0,_⟩ | ⟨_,_,h3,h4⟩
  ·exact absurd h0 hm
  ·obtain⟨m',r'⟩:=q
   unfold jX;simp only at *;rw[show e.r % (m':Int)=r' from by rw[<-Int.emod_eq_of_lt h3 h4];exact Int.emod_eq_emod_iff_emod_sub_eq_zero.2 (Int.emod_eq_zero_of_dvd d1)]
theorem Po(π:ar δ)(z:Iv){e q:Iv}(h:(Kr π).sub e q):da δ (da δ z e) q=da δ z q:=by
 cases δ
 ·exact congrArg uw (Vm _ _ _ h)
 ·obtain⟨h1,h2⟩:q.a<=e.a/\e.b<=q.b:=h
  refine qI ?_ ?_
  ·show min (min z.a e.a) q.a=min z.a q.a;omega
  ·show max (max z.b e.b) q.b=max z.b q.b;omega
theorem Mn(π:ar δ){e q:Iv}(wq:Wv δ q)(h:(Kr π).sub e q):da δ e q=q:=by
 cases δ
 ·show uw (cp (lN e) (lN q))=q
  rw[RQ _ _ wq.2 h,po wq.1]
 ·obtain⟨h1,h2⟩:q.a<=e.a/\e.b<=q.b:=h
  refine qI ?_ ?_
  ·show min e.a q.a=q.a;omega
  ·show max e.b q.b=q.b;omega
end W
end
namespace Sp
section
variable{a b n m:Int}
variable{x y:Cg}
variable{k f:Nat}
theorem vz(D:pX)(k:Nat)(x y:Sm)(ct:Ct)(s:D.Env)(es:List (eU D.V))(h:dt D x ct s=(es,M)):dt D (.bin k x y) ct s=(es,M):=by unfold dt;rw[h]
theorem sR(D:pX)(k:Nat)(x y:Sm)(ct:Ct)(s:D.Env)(es:List (eU D.V))(a:D.V)(dp:List (eU D.V))(h:dt D x ct s=(es,Y a))(h2:dt D y (if 3<=k then aJ (cS x ct) else cS x ct) s=(dp,M)):dt D (.bin k x y) ct s=(es ++ dp,M):=by unfold dt;rw[h];simp only;rw[h2]
theorem LV(D:pX)(k:Nat)(x y:Sm)(ct:Ct)(s:D.Env)(es:List (eU D.V))(a:D.V)(dp:List (eU D.V))(c:D.V)(h:dt D x ct s=(es,Y a))(h2:dt D y (if 3<=k then aJ (cS x ct) else cS x ct) s=(dp,Y c))(h3:3<=k):dt D (.bin k x y) ct s=(es ++ dp ++ [.site (cS x ct).2 (D.nought c)],D.work k a c):=by unfold dt;rw[h];simp only;rw[h2];simp only;rw[if_pos h3]
theorem MJ(D:pX)(k:Nat)(x y:Sm)(ct:Ct)(s:D.Env)(es:List (eU D.V))(a:D.V)(dp:List (eU D.V))(c:D.V)(h:dt D x ct s=(es,Y a))(h2:dt D y (if 3<=k then aJ (cS x ct) else cS x ct) s=(dp,Y c))(h3:¬ 3<=k):dt D (.bin k x y) ct s=(es ++ dp,D.work k a c):=by unfold dt;rw[h];simp only;rw[h2];simp only;rw[if_neg h3,List.append_nil]
theorem xo(D:pX)(k r:Nat)(y:D.V)(e:D.Env)(h:D.bound r (oE D e k) y=M):qn D (.name k) r y (Y e)=M:=by unfold qn;simp only;rw[h]
theorem rL(D:pX)(k r:Nat)(y:D.V)(e:D.Env)(v:D.V)(h:D.bound r (oE D e k) y=Y v):qn D (.name k) r y (Y e)=Y (hY D e k v):=by unfold qn;simp only;rw[h]
theorem uf(D:pX)(r:Nat)(x y:Sm)(a b:D.V)(e:D.Env)(h:D.may r a b=false):fH D r x y a b e=M:=by unfold fH;rw[if_neg (by rw[h];simp)]
theorem DT(D:pX)(r:Nat)(x y:Sm)(a b:D.V)(e:D.Env)(h:D.may r a b=true):fH D r x y a b e=qn D y (dO r) a (qn D x r b (Y e)):=by unfold fH;rw[if_pos h]
theorem Sw(D:pX)(k:Nat)(x y:Sm)(ct:Ct)(e:D.Env)(es:List (eU D.V))(h:dt D x ct e=(es,M)):dq D k x y ct (Y e)=(es,M,M):=by unfold dq;simp only;rw[h]
theorem Si(D:pX)(k:Nat)(x y:Sm)(ct:Ct)(e:D.Env)(es:List (eU D.V))(a:D.V)(dp:List (eU D.V))(h:dt D x ct e=(es,Y a))(h2:dt D y (cS x ct) e=(dp,M)):dq D k x y ct (Y e)=(es ++ dp,M,M):=by unfold dq;simp only;rw[h];simp only;rw[h2]
theorem SE(D:pX)(k:Nat)(x y:Sm)(ct:Ct)(e:D.Env)(es:List (eU D.V))(a:D.V)(dp:List (eU D.V))(c:D.V)(h:dt D x ct e=(es,Y a))(h2:dt D y (cS x ct) e=(dp,Y c)):dq D k x y ct (Y e)=(es ++ dp,fH D k x y a c e,fH D (xE k) x y a c e):=by unfold dq;simp only;rw[h];simp only;rw[h2]
def dT(a b:Nat):Nat:=a / Nat.gcd a b*b
theorem y6(a b:Nat):dT a b=Nat.lcm a b:=by unfold dT Nat.lcm;exact Nat.div_mul_right_comm (Nat.gcd_dvd_left a b) b
theorem tf(a b:Nat)(d:Int):((dT a b:Nat):Int) ∣ d↔(a:Int) ∣ d/\(b:Int) ∣ d:=by rw[y6,Int.ofNat_dvd_left,Int.ofNat_dvd_left,Int.ofNat_dvd_left];exact⟨fun h=>⟨Nat.dvd_trans (Nat.dvd_lcm_left a b) h,Nat.dvd_trans (Nat.dvd_lcm_right a b) h⟩,fun h=>Nat.lcm_dvd h.1 h.2⟩
theorem sL{a b:Nat}(ha:0<a)(hb:0<b):0<dT a b:=by rw[y6];exact Nat.lcm_pos ha hb
theorem td{k:Int}(hn:bI x y n=true):bI x y k=true↔((dT x.m y.m:Nat):Int) ∣ k - n:=by
 rw[lP]at hn;rw[lP,tf];obtain⟨h1,h2⟩:=hn;constructor
 ·rintro⟨k1,k2⟩
  constructor
  ·have:=Int.dvd_sub k1 h1
   rwa [show k - x.r - (n - x.r)=k - n by omega]at this
  ·have:=Int.dvd_sub k2 h2
   rwa [show k - y.r - (n - y.r)=k - n by omega]at this
 ·rintro⟨k1,k2⟩
  constructor
  ·have:=Int.dvd_add k1 h1
   rwa [show k - n+(n - x.r)=k - x.r by omega]at this
  ·have:=Int.dvd_add k2 h2
   rwa [show k - n+(n - y.r)=k - y.r by omega]at this
theorem mj{p:Int->Bool}(h1:a<=n)(h2:n<a+f)(hp:p n=true)(hl:∀k,a<=k->k<n->p k=false):fg p f a=Y n:=by
 cases hf:fg p f a with
 | none=>have:=jO hf n h1 h2;rw[hp]at this;cases this
 | some g =>
  obtain⟨g1,g2,g3,g4⟩:=fj hf;by_cases cR:g<n
  ·rw[hl g g2 cR]at g1;cases g1
  ·by_cases YQ:n<g
   ·rw[g4 n h1 YQ]at hp;cases hp
   ·congr 1;omega
theorem oF{p:Int->Bool}(h:∀k,a<=k->k<a+f->p k=false):fg p f a=M:=by
 cases hf:fg p f a with
 | none=>rfl
 | some g =>obtain⟨g1,g2,g3,_⟩:=fj hf;rw[h g g2 g3]at g1;cases g1
theorem Fs(hx:0<x.m)(hy:0<y.m)(hn:oh n)(hb:bI x y n=true)(hl:∀k,-32768<=k->k<n->bI x y k=false) :
  bf x y=Y (if 32767<n+(dT x.m y.m:Nat) then⟨0,n⟩ else jX (dT x.m y.m) n):=by
 unfold oh at hn;have hL:=sL hx hy;unfold bf;rw[mj (p:=bI x y) (f:=65536) (a:=-32768) (n:=n) hn.1 (by omega) hb hl];simp only;by_cases YQ:32767<n+(dT x.m y.m:Nat)
 ·rw[if_pos YQ,oF (fun k k1 k2=>?_)]
  cases hk:bI x y k with
  | false=>rfl
  | true =>have hd:=(td hb).1 hk;have:=Int.le_of_dvd (by omega) hd;omega
 ·rw[if_neg YQ,mj (n:=n+(dT x.m y.m:Nat)) (by omega) (by omega) ((td hb).2 (by rw[show n+((dT x.m y.m:Nat):Int) - n=(dT x.m y.m:Nat) by omega];exact Int.dvd_refl _)) (fun k k1 k2=>?_)]
  ·simp only
   rw[show(n+((dT x.m y.m:Nat):Int) - n).toNat=dT x.m y.m by omega]
  ·cases hk:bI x y k with
   | false=>rfl
   | true =>have hd:=(td hb).1 hk;have:=Int.le_of_dvd (by omega) hd;omega
theorem GG(h:∀k,oh k->bI x y k=false):bf x y=M:=by unfold bf;rw[oF (fun k k1 k2=>h k ⟨k1,by omega⟩)]
theorem Nn(hb:oh b):bf x ⟨0,b⟩=(if bA x b then Y ⟨0,b⟩ else M)/\bf ⟨0,b⟩ x=(if bA x b then Y ⟨0,b⟩ else M):=by
 have e1:∀k,bI x ⟨0,b⟩ k=true↔k=b/\bA x b:=fun k=>by
  unfold bI;rw[Bool.and_eq_true,decide_eq_true_eq,decide_eq_true_eq];constructor
  ·rintro⟨h1,h2⟩
   have h2:k=b:=h2;subst h2;exact⟨rfl,h1⟩
  ·rintro⟨rfl,h2⟩
   exact⟨h2,(rfl:k=k)⟩
 have e2:∀k,bI ⟨0,b⟩ x k=true↔k=b/\bA x b:=fun k=>by rw[<-e1 k];unfold bI;rw[Bool.and_eq_true,Bool.and_eq_true,and_comm]
 have aux:∀u v:Cg,(∀k,bI u v k=true↔k=b/\bA x b)->bf u v=if bA x b then Y ⟨0,b⟩ else M:=by
  intro u v e;by_cases hm:bA x b
  ·rw[if_pos hm]
   unfold oh at hb;unfold bf;rw[mj (p:=bI u v) (f:=65536) (a:=-32768) (n:=b) hb.1 (by omega) ((e b).2 ⟨rfl,hm⟩) (fun k _ k2=>?_)]
   ·simp only
    rw[oF (fun k k1 _=>?_)];cases hk:bI u v k with
    | false=>rfl
    | true=>have:=((e k).1 hk).1;omega
   ·cases hk:bI u v k with
    | false=>rfl
    | true=>have:=((e k).1 hk).1;omega
  ·rw[if_neg hm]
   refine GG (fun k _=>?_);cases hk:bI u v k with
   | false=>rfl
   | true=>exact absurd ((e k).1 hk).2 hm
 exact⟨aux _ _ e1,aux _ _ e2⟩
theorem meet_comm(x y:Cg):bf x y=bf y x:=by
 have:bI x y=bI y x:=by funext k;unfold bI;exact Bool.and_comm _ _
 unfold bf;rw[this]
def cA(x:Cg):Int:=-32768+(x.r+32768) % (x.m:Int)
theorem IB(k:Nat):bA x (cA x+(k:Int)*x.m):=by rw[mem_iff];unfold cA;have:=Int.emod_add_mul_ediv (x.r+32768) x.m;refine⟨k - (x.r+32768) / (x.m:Int),?_⟩;rw[Int.mul_sub,Int.mul_comm (x.m:Int) (k:Int)];omega
theorem zj(hx:0<x.m)(h:bA x n)(hn:-32768<=n):∃k:Nat,n=cA x+(k:Int)*x.m:=by
 rw[mem_iff]at h;obtain⟨c,hc⟩:=h;have he:=Int.emod_add_mul_ediv (x.r+32768) x.m;have h0:=Int.emod_nonneg (x.r+32768) (show(x.m:Int)≠0 by omega);have h1:=Int.emod_lt_of_pos (x.r+32768) (show(0:Int)<x.m by omega);have hd:n - cA x=(x.m:Int)*(c+(x.r+32768) / (x.m:Int)):=by unfold cA;rw[Int.mul_add];omega
 have mL:0<=c+(x.r+32768) / (x.m:Int):=by apply Classical.byContradiction;intro aaC;have:(x.m:Int)*(c+(x.r+32768) / (x.m:Int))<=(x.m:Int)*(-1):=Int.mul_le_mul_of_nonneg_left (by omega) (by omega);unfold cA at hd;omega
 refine⟨(c+(x.r+32768) / (x.m:Int)).toNat,?_⟩;rw[Int.toNat_of_nonneg mL,Int.mul_comm];omega
theorem Ga(hx:0<x.m)(hy:0<y.m){k:Nat}(hm:cA x+(k:Int)*x.m<=32767)(hh:bA y (cA x+(k:Int)*x.m))(hl:∀j:Nat,j<k->¬ bA y (cA x+(j:Int)*x.m)) :
  bf x y=Y (if 32767<cA x+(k:Int)*x.m+(dT x.m y.m:Nat) then⟨0,cA x+(k:Int)*x.m⟩ else jX (dT x.m y.m) (cA x+(k:Int)*x.m)):=by
 have h0:=Int.emod_nonneg (x.r+32768) (show(x.m:Int)≠0 by omega);have ZD:0<=(k:Int)*x.m:=Int.mul_nonneg (by omega) (by omega);refine Fs hx hy ⟨by unfold cA;omega,hm⟩ ?_ (fun n n1 n2=>?_)
 ·unfold bI
  rw[Bool.and_eq_true,decide_eq_true_eq,decide_eq_true_eq];exact⟨IB k,hh⟩
 ·cases hb:bI x y n with
  | false=>rfl
  | true =>unfold bI at hb;rw[Bool.and_eq_true,decide_eq_true_eq,decide_eq_true_eq]at hb;obtain⟨j,rfl⟩:=zj hx hb.1 n1;refine absurd hb.2 (hl j ?_);apply Classical.byContradiction;intro hjk;have:(k:Int)*x.m<=(j:Int)*x.m:=Int.mul_le_mul_of_nonneg_right (by omega) (by omega);omega
theorem JD(hx:0<x.m)(hy:0<y.m){k:Nat}(hk:32767<cA x+(k:Int)*x.m∨((dT x.m y.m:Nat):Int)<=(k:Int)*x.m)(hl:∀j:Nat,j<k->¬ bA y (cA x+(j:Int)*x.m)) :
  bf x y=M:=by
 have hL:=sL hx hy
 -- any common number has one in the first stretch
 have key:∀n:Nat,∀j:Nat,j<=n->cA x+(j:Int)*x.m<=32767->¬ bA y (cA x+(j:Int)*x.m):=by
  intro n
  induction n with
  | zero =>
   intro j hj hle;have:j=0:=by omega
   subst this;by_cases h0:0<k
   ·exact hl 0 h0
   ·have:k=0:=by omega
    subst this
    rcases hk with hk | hk
    ·omega
    ·simp at hk;omega
  | succ n ih =>
   intro j hj hle hm;by_cases hjk:j<k
   ·exact hl j hjk hm
   ·have hkj:(k:Int)*x.m<=(j:Int)*x.m:=Int.mul_le_mul_of_nonneg_right (by omega) (by omega)
    rcases hk with hk | hk
    ·omega
    ·-- j*m - μ is a multiple of m
     have hdx:(x.m:Int) ∣ ((dT x.m y.m:Nat):Int):=((tf x.m y.m _).1 (Int.dvd_refl _)).1;have hdy:(y.m:Int) ∣ ((dT x.m y.m:Nat):Int):=((tf x.m y.m _).1 (Int.dvd_refl _)).2;obtain⟨c,hc⟩:=hdx;have NU:0<c:=by apply Classical.byContradiction;intro h;have:(x.m:Int)*c<=0:=Int.mul_nonpos_of_nonneg_of_nonpos (by omega) (by omega);omega
     have hcj:c<=j:=by apply Classical.byContradiction;intro h;have:(j:Int)*x.m<c*x.m:=Int.mul_lt_mul_of_pos_right (by omega) (by omega);rw[Int.mul_comm c]at this;omega
     have e:cA x+((j - c.toNat:Nat):Int)*x.m=cA x+(j:Int)*x.m - ((dT x.m y.m:Nat):Int):=by rw[hc,show((j - c.toNat:Nat):Int)=(j:Int) - c by omega,Int.sub_mul,Int.mul_comm c];omega
     refine ih (j - c.toNat) (by omega) (by rw[e];omega) ?_;rw[e,mem_iff];rw[mem_iff]at hm;have:=Int.dvd_sub hm hdy
     rwa [show cA x+(j:Int)*x.m - y.r - ((dT x.m y.m:Nat):Int)=cA x+(j:Int)*x.m - ((dT x.m y.m:Nat):Int) - y.r by omega]at this
 refine GG (fun n hn=>?_);cases hb:bI x y n with
 | false=>rfl
 | true =>unfold bI at hb;rw[Bool.and_eq_true,decide_eq_true_eq,decide_eq_true_eq]at hb;obtain⟨j,rfl⟩:=zj hx hb.1 hn.1;exact absurd hb.2 (key j j (Nat.le_refl _) hn.2)
theorem left_eq(n:Int)(hm:0<m):(n.tmod m+m).tmod m=n % m:=by
 have h1:=Int.tmod_add_mul_tdiv n m;have h2:n % m=n.tmod m % m:=by
  conv=>lhs;rw[<-h1]
  exact Int.add_mul_emod_self_left _ _ _
 have h3:-m<n.tmod m:=Int.lt_tmod_of_pos n hm;rw[Int.tmod_eq_emod_of_nonneg (by omega),Int.add_emod_right,h2]
def qz(zs:List Int):Nat:=zs.foldl (fun g z=>Nat.gcd g z.natAbs) 0
theorem Jh(zs:List Int)(z:Int):qz (zs ++ [z])=Nat.gcd (qz zs) z.natAbs:=by unfold qz;rw[List.foldl_append];rfl
theorem Mp(a b:Int):qz [a,b]=Nat.gcd a.natAbs b.natAbs:=by show Nat.gcd (Nat.gcd 0 a.natAbs) b.natAbs=_;rw[Nat.gcd_zero_left]
theorem mO(a b c:Int):qz [a,b,c]=Nat.gcd (Nat.gcd a.natAbs b.natAbs) c.natAbs:=by show Nat.gcd (Nat.gcd (Nat.gcd 0 a.natAbs) b.natAbs) c.natAbs=_;rw[Nat.gcd_zero_left]
theorem zD(g n:Int):Nat.gcd n.natAbs (g.tmod n).natAbs=Nat.gcd g.natAbs n.natAbs:=by rw[Int.natAbs_tmod,Nat.gcd_comm n.natAbs,<-Nat.gcd_rec,Nat.gcd_comm]
theorem xF(g:Int)(h:n≠0):(g.tmod n).natAbs<n.natAbs:=by rw[Int.natAbs_tmod];exact Nat.mod_lt _ (by omega)
def cG(k:Nat)(n:Int):Cg:=if k=0 then⟨0,n⟩ else jX k n
theorem IJ(k:Nat)(n:Int):cG (Nat.gcd k 65536) n=dL k n:=by
 unfold cG;have:Nat.gcd k 65536≠0:=fun e=>by have:=(Nat.gcd_eq_zero_iff.1 e).2;omega
 rw[if_neg this];rfl
theorem GW(h:cr x)(n:Int):cG x.m n=x↔bA x n:=by
 rw[mem_iff];unfold cG;obtain⟨m,r⟩:=x;simp only;by_cases hm:m=0
 ·rw[if_pos hm]
  subst hm;simp;omega
 ·rw[if_neg hm]
  rcases h with⟨h,_⟩ | ⟨_,_,h3,h4⟩
  ·exact absurd h hm
  ·simp only at h3 h4
   unfold jX;rw[Int.dvd_iff_emod_eq_zero];constructor
   ·intro e
    have e:n % (m:Int)=r:=congrArg Cg.r e;rw[<-e,Int.sub_emod,Int.emod_emod_of_dvd _ (Int.dvd_refl _),Int.sub_self];rfl
   ·intro e
    have:n % (m:Int)=r % (m:Int):=Int.emod_eq_emod_iff_emod_sub_eq_zero.2 e;rw[this,Int.emod_eq_of_lt h3 h4]
theorem I6(h:cr x):decide (bA x 0)=decide (x.r=0):=by
 have:bA x 0↔x.r=0:=by
  rw[<-GW h];unfold cG;obtain⟨m,r⟩:=x;simp only;by_cases hm:m=0
  ·rw[if_pos hm]
   subst hm;simp;exact eq_comm
  ·rw[if_neg hm]
   unfold jX;simp;exact eq_comm
 by_cases hr:x.r=0
 ·rw[decide_eq_true (this.2 hr),decide_eq_true hr]
 ·rw[decide_eq_false (fun k=>hr (this.1 k)),decide_eq_false hr]
theorem FI(x y:Cg)(hx:cr x):cp x y=cG (Nat.gcd (Nat.gcd x.m y.m) (x.r - y.r).natAbs) x.r:=by
 unfold cp cG;split
 ·next h =>
  have hm:x.m=0:=(Nat.gcd_eq_zero_iff.1 (Nat.gcd_eq_zero_iff.1 h).1).1;obtain⟨m,r⟩:=x;simp only at hm;rw[hm]
 ·rfl
end
end Sp
section
namespace Sp
section
variable (D : pX)(P : zB)
def cL(T:Int->D.St->ve D):Bl->Ct->Prop
 | .nil,_=>True
 | .assign _ x t,ct=>cL T t (cS x (aA ct))
 | .read _ t,ct=>cL T t (aA ct)
 | .assert _ x y t,ct=>cL T t (cS y (cS x (aJ (aA ct))))
 | .ite _ x y xs true ys t,ct=>cL T xs (cS y (cS x (aA ct)))/\cL T ys (cB xs (cS y (cS x (aA ct))))/\cL T t (cB ys (cB xs (cS y (cS x (aA ct)))))
 | .ite _ x y xs false _ t,ct=>cL T xs (cS y (cS x (aA ct)))/\cL T t (cB xs (cS y (cS x (aA ct))))
 | .loop k x y xs t,ct=>((0<=ct.1/\ct.1<=1000000)/\∀s,T ct.1 s=rS D P (dq D k x y (aA ct)) (cD D P xs (cS y (cS x (aA ct)))) ct.1 s)/\cL T xs (cS y (cS x (aA ct)))/\cL T t (cB xs (cS y (cS x (aA ct))))
def ot:Bl->Ct->Int->D.St->ve D
 | .nil,_,_,s=>([],s)
 | .assign _ x t,ct,p,s=>ot t (cS x (aA ct)) p s
 | .read _ t,ct,p,s=>ot t (aA ct) p s
 | .assert _ x y t,ct,p,s=>ot t (cS y (cS x (aJ (aA ct)))) p s
 | .ite _ x y xs true ys t,ct,p,s=>if p<(cB xs (cS y (cS x (aA ct)))).1 then ot xs (cS y (cS x (aA ct))) p s else if p<(cB ys (cB xs (cS y (cS x (aA ct))))).1 then ot ys (cB xs (cS y (cS x (aA ct)))) p s else ot t (cB ys (cB xs (cS y (cS x (aA ct))))) p s
 | .ite _ x y xs false _ t,ct,p,s=>if p<(cB xs (cS y (cS x (aA ct)))).1 then ot xs (cS y (cS x (aA ct))) p s else ot t (cB xs (cS y (cS x (aA ct)))) p s
 | .loop k x y xs t,ct,p,s=>if p=ct.1 then rS D P (dq D k x y (aA ct)) (cD D P xs (cS y (cS x (aA ct)))) ct.1 s else if p<(cB xs (cS y (cS x (aA ct)))).1 then ot xs (cS y (cS x (aA ct))) p s else ot t (cB xs (cS y (cS x (aA ct)))) p s
theorem eN(T:Int->D.St->ve D):∀(t:Bl) (ct:Ct),Small ct (pB t) (qB t)->(∀p s,ct.1<=p->p<ct.1+pB t->T p s=ot D P t ct p s)->cL D P T t ct
 | .nil,_,_,_=>trivial
 | .assign k x t,ct,⟨h1,h2,h3,h4⟩,h=>by
  simp only[pB,qB]at h3 h4 h;have e0:=dR h1 (by omega);have ec:cS x (aA ct)=(ct.1+1,ct.2+nS x):=by rw[e0,dB x _ (by simp;omega) (by simp;omega)]
  show cL D P T t (cS x (aA ct));simp only[ot,ec]at h;rw[ec];exact eN T t _ ⟨by simp;omega,by simp;omega,by simp;omega,by simp;omega⟩ (fun p s h5 h6=>h p s (by simp at h5;omega) (by simp at h6;omega))
 | .read k t,ct,⟨h1,h2,h3,h4⟩,h=>by simp only[pB,qB]at h3 h4 h;have e0:=dR h1 (by omega);show cL D P T t (aA ct);simp only[ot,e0]at h;rw[e0];exact eN T t _ ⟨by simp;omega,by simp;omega,by simp;omega,by simp;omega⟩ (fun p s h5 h6=>h p s (by simp at h5;omega) (by simp at h6;omega))
 | .assert k x y t,ct,⟨h1,h2,h3,h4⟩,h=>by
  simp only[pB,qB]at h3 h4 h;have e0:aJ (aA ct)=(ct.1+1,ct.2+1):=by rw[dR h1 (by omega),mz (by simp;omega) (by simp;omega)]
  have ec:cS y (cS x (aJ (aA ct)))=(ct.1+1,ct.2+1+nS x+nS y):=by rw[e0,dB x _ (by simp;omega) (by simp;omega),dB y _ (by simp;omega) (by simp;omega)]
  show cL D P T t (cS y (cS x (aJ (aA ct))));simp only[ot,ec]at h;rw[ec];exact eN T t _ ⟨by simp;omega,by simp;omega,by simp;omega,by simp;omega⟩ (fun p s h5 h6=>h p s (by simp at h5;omega) (by simp at h6;omega))
 | .ite k x y xs true ys t,ct,⟨h1,h2,h3,h4⟩,h=>by
  simp only[pB,qB,if_true]at h3 h4 h;have e0:=dR h1 (by omega);have ec:cS y (cS x (aA ct))=(ct.1+1,ct.2+nS x+nS y):=by rw[e0,dB x _ (by simp;omega) (by simp;omega),dB y _ (by simp;omega) (by simp;omega)]
  have ex:=fY xs (ct.1+1,ct.2+nS x+nS y) ⟨by simp;omega,by simp;omega,by simp;omega,by simp;omega⟩;have ey:=fY ys (ct.1+1+pB xs,ct.2+nS x+nS y+qB xs) ⟨by simp;omega,by simp;omega,by simp;omega,by simp;omega⟩;show cL D P T xs (cS y (cS x (aA ct)))/\cL D P T ys (cB xs (cS y (cS x (aA ct))))/\cL D P T t (cB ys (cB xs (cS y (cS x (aA ct)))));simp only[ot,ec,ex,ey]at h;rw[ec,ex,ey];refine⟨eN T xs _ ⟨by simp;omega,by simp;omega,by simp;omega,by simp;omega⟩ (fun p s h5 h6=>?_),eN T ys _ ⟨by simp;omega,by simp;omega,by simp;omega,by simp;omega⟩ (fun p s h5 h6=>?_),eN T t _ ⟨by simp;omega,by simp;omega,by simp;omega,by simp;omega⟩ (fun p s h5 h6=>?_)⟩
  all_goals
   simp at h5 h6;have:=h p s (by omega) (by omega)
  ·rw[if_pos (by omega)]at this;exact this
  ·rw[if_neg (by omega),if_pos (by omega)]at this;exact this
  ·rw[if_neg (by omega),if_neg (by omega)]at this;exact this
 | .ite k x y xs false ys t,ct,⟨h1,h2,h3,h4⟩,h=>by
  simp only[pB,qB,Bool.false_eq_true,if_false]at h3 h4 h;have e0:=dR h1 (by omega);have ec:cS y (cS x (aA ct))=(ct.1+1,ct.2+nS x+nS y):=by rw[e0,dB x _ (by simp;omega) (by simp;omega),dB y _ (by simp;omega) (by simp;omega)]
  have ex:=fY xs (ct.1+1,ct.2+nS x+nS y) ⟨by simp;omega,by simp;omega,by simp;omega,by simp;omega⟩;show cL D P T xs (cS y (cS x (aA ct)))/\cL D P T t (cB xs (cS y (cS x (aA ct))));simp only[ot,ec,ex]at h;rw[ec,ex];refine⟨eN T xs _ ⟨by simp;omega,by simp;omega,by simp;omega,by simp;omega⟩ (fun p s h5 h6=>?_),eN T t _ ⟨by simp;omega,by simp;omega,by simp;omega,by simp;omega⟩ (fun p s h5 h6=>?_)⟩
  all_goals
   simp at h5 h6;have:=h p s (by omega) (by omega)
  ·rw[if_pos (by omega)]at this;exact this
  ·rw[if_neg (by omega)]at this;exact this
 | .loop k x y xs t,ct,⟨h1,h2,h3,h4⟩,h=>by
  simp only[pB,qB]at h3 h4 h;have e0:=dR h1 (by omega);have ec:cS y (cS x (aA ct))=(ct.1+1,ct.2+nS x+nS y):=by rw[e0,dB x _ (by simp;omega) (by simp;omega),dB y _ (by simp;omega) (by simp;omega)]
  have ex:=fY xs (ct.1+1,ct.2+nS x+nS y) ⟨by simp;omega,by simp;omega,by simp;omega,by simp;omega⟩;show((0<=ct.1/\ct.1<=1000000)/\∀s,T ct.1 s=rS D P (dq D k x y (aA ct)) (cD D P xs (cS y (cS x (aA ct)))) ct.1 s)/\cL D P T xs (cS y (cS x (aA ct)))/\cL D P T t (cB xs (cS y (cS x (aA ct))));refine⟨⟨⟨h1,by omega⟩,fun s=>?_⟩,?_⟩
  ·rw[h ct.1 s (by omega) (by omega)]
   exact if_pos rfl
  ·simp only[ot,ec,ex]at h
   rw[ec,ex];refine⟨eN T xs _ ⟨by simp;omega,by simp;omega,by simp;omega,by simp;omega⟩ (fun p s h5 h6=>?_),eN T t _ ⟨by simp;omega,by simp;omega,by simp;omega,by simp;omega⟩ (fun p s h5 h6=>?_)⟩
   all_goals
    simp at h5 h6;have:=h p s (by omega) (by omega)
   ·rw[if_neg (by omega),if_pos (by omega)]at this;exact this
   ·rw[if_neg (by omega),if_neg (by omega)]at this;exact this
end
end Sp
end
end Go.Proofs.YtiopfihjmkfdmaaGreatDoor
