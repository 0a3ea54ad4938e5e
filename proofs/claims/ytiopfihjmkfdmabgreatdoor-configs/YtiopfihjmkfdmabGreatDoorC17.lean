import Derived.Test.YtiopfihjmkfdmabGreatDoorC15
namespace Go.Proofs.YtiopfihjmkfdmabGreatDoor
open Option renaming some->Y,none->M
open Go.Proofs.Tryz Sp
namespace Sp
section
variable{a b n m:Int}
variable{x y:Cg}
variable{k f:Nat}
def ew(a b:Nat):Nat:=a / Nat.gcd a b*b
theorem Bb(a b:Nat):ew a b=Nat.lcm a b:=by unfold ew Nat.lcm;exact Nat.div_mul_right_comm (Nat.gcd_dvd_left a b) b
theorem uF(a b:Nat)(d:Int):((ew a b:Nat):Int)∣d↔(a:Int)∣d/\(b:Int)∣d:=by rw[Bb,Int.ofNat_dvd_left,Int.ofNat_dvd_left,Int.ofNat_dvd_left];exact⟨λh=>⟨Nat.dvd_trans (Nat.dvd_lcm_left a b) h,Nat.dvd_trans (Nat.dvd_lcm_right a b) h⟩,λh=>Nat.lcm_dvd h.1 h.2⟩
theorem uq{a b:Nat}(ha:0<a)(hb:0<b):0<ew a b:=by rw[Bb];exact Nat.lcm_pos ha hb
theorem uR{k:Int}(hn:bN x y n=true):bN x y k=true↔((ew x.m y.m:Nat):Int)∣k-n:=by
 rw[mZ]at hn;rw[mZ,uF];obtain⟨h1,h2⟩:=hn;constructor
 .rintro⟨k1,k2⟩
  constructor
  .have:=Int.dvd_sub k1 h1
   rwa[show k-x.r-(n-x.r)=k-n by omega]at this
  .have:=Int.dvd_sub k2 h2
   rwa[show k-y.r-(n-y.r)=k-n by omega]at this
 .rintro⟨k1,k2⟩
  constructor
  .have:=Int.dvd_add k1 h1
   rwa[show k-n+(n-x.r)=k-x.r by omega]at this
  .have:=Int.dvd_add k2 h2
   rwa[show k-n+(n-y.r)=k-y.r by omega]at this
theorem nF{p:Int->Bool}(h1:a<=n)(h2:n<a+f)(hp:p n=true)(hl:∀k,a<=k->k<n->p k=false):fM p f a=Y n:=by
 cases hf:fM p f a with
 |none=>have:=kJ hf n h1 h2;rw[hp]at this;cases this
 |some g=>
  obtain⟨g1,g2,g3,g4⟩:=fQ hf;by_cases df:g<n
  .rw[hl g g2 df]at g1;cases g1
  .by_cases hgt:n<g
   .rw[g4 n h1 hgt]at hp;cases hp
   .congr 1;omega
theorem pI{p:Int->Bool}(h:∀k,a<=k->k<a+f->p k=false):fM p f a=M:=by
 cases hf:fM p f a with
 |none=>rfl
 |some g=>obtain⟨g1,g2,g3,_⟩:=fQ hf;rw[h g g2 g3]at g1;cases g1
theorem IN(hx:0<x.m)(hy:0<y.m)(hn:pr n)(hb:bN x y n=true)(hl:∀k,-32768<=k->k<n->bN x y k=false) :
  bu x y=Y (if 32767<n+(ew x.m y.m:Nat) then⟨0,n⟩ else kI (ew x.m y.m) n):=by
 unfold pr at hn;have hL:=uq hx hy;unfold bu;rw[nF (p:=bN x y) (f:=65536) (a:=-32768) (n:=n) hn.1 À hb hl];simp only;by_cases hgt:32767<n+(ew x.m y.m:Nat)
 .rw[Á hgt,pI (λk k1 k2=>?_)]
  cases hk:bN x y k with
  |false=>rfl
  |true=>have hd:=(uR hb).1 hk;have:=Int.le_of_dvd À hd;omega
 .rw[Â hgt,nF (n:=n+(ew x.m y.m:Nat)) À À ((uR hb).2 (by rw[show n+((ew x.m y.m:Nat):Int)-n=(ew x.m y.m:Nat) by omega];exact Int.dvd_refl _)) (λk k1 k2=>?_)]
  .simp only
   rw[show(n+((ew x.m y.m:Nat):Int)-n).toNat=ew x.m y.m by omega]
  .cases hk:bN x y k with
   |false=>rfl
   |true=>have hd:=(uR hb).1 hk;have:=Int.le_of_dvd À hd;omega
theorem JX(h:∀k,pr k->bN x y k=false):bu x y=M:=by unfold bu;rw[pI (λk k1 k2=>h k ⟨k1,À⟩)]
theorem Ok(hb:pr b):bu x ⟨0,b⟩=(if bF x b then Y ⟨0,b⟩ else M)/\bu ⟨0,b⟩ x=(if bF x b then Y ⟨0,b⟩ else M):=by
 have e1:∀k,bN x ⟨0,b⟩ k=true↔k=b/\bF x b:=λk=>by
  unfold bN;rw[à,Õ,Õ];constructor
  .rintro⟨h1,h2⟩
   have h2:k=b:=h2;subst h2;exact⟨rfl,h1⟩
  .rintro⟨rfl,h2⟩
   exact⟨h2,(rfl:k=k)⟩
 have e2:∀k,bN ⟨0,b⟩ x k=true↔k=b/\bF x b:=λk=>by rw[<-e1 k];unfold bN;rw[à,à,and_comm]
 have aux:∀u v:Cg,(∀k,bN u v k=true↔k=b/\bF x b)->bu u v=if bF x b then Y ⟨0,b⟩ else M:=by
  intro u v e;by_cases hm:bF x b
  .rw[Á hm]
   unfold pr at hb;unfold bu;rw[nF (p:=bN u v) (f:=65536) (a:=-32768) (n:=b) hb.1 À ((e b).2 ⟨rfl,hm⟩) (λk _ k2=>?_)]
   .simp only
    rw[pI (λk k1 _=>?_)];cases hk:bN u v k with
    |false=>rfl
    |true=>have:=((e k).1 hk).1;omega
   .cases hk:bN u v k with
    |false=>rfl
    |true=>have:=((e k).1 hk).1;omega
  .rw[Â hm]
   refine JX (λk _=>?_);cases hk:bN u v k with
   |false=>rfl
   |true=>exact absurd ((e k).1 hk).2 hm
 exact⟨aux _ _ e1,aux _ _ e2⟩
theorem meet_comm(x y:Cg):bu x y=bu y x:=by
 have:bN x y=bN y x:=by funext k;unfold bN;exact Bool.and_comm _ _
 unfold bu;rw[this]
def cG(x:Cg):Int:=-32768+(x.r+32768)%(x.m:Int)
theorem LR(k:Nat):bF x (cG x+(k:Int)*x.m):=by rw[mem_iff];unfold cG;have:=Int.emod_add_mul_ediv (x.r+32768) x.m;refine⟨k-(x.r+32768) / (x.m:Int),?_⟩;rw[Int.mul_sub,Int.mul_comm (x.m:Int) (k:Int)];omega
theorem Bw(hx:0<x.m)(h:bF x n)(hn:-32768<=n):∃k:Nat,n=cG x+(k:Int)*x.m:=by
 rw[mem_iff]at h;obtain⟨c,hc⟩:=h;have he:=Int.emod_add_mul_ediv (x.r+32768) x.m;have h0:=Int.emod_nonneg (x.r+32768) (show(x.m:Int)≠0 by omega);have h1:=Int.emod_lt_of_pos (x.r+32768) (show(0:Int)<x.m by omega);have hd:n-cG x=(x.m:Int)*(c+(x.r+32768) / (x.m:Int)):=by unfold cG;rw[Int.mul_add];omega
 have nN:0<=c+(x.r+32768) / (x.m:Int):=by apply Classical.byContradiction;intro Wq;have:(x.m:Int)*(c+(x.r+32768) / (x.m:Int))<=(x.m:Int)*(-1):=Int.mul_le_mul_of_nonneg_left À À;unfold cG at hd;omega
 refine⟨(c+(x.r+32768) / (x.m:Int)).toNat,?_⟩;rw[Int.toNat_of_nonneg nN,Int.mul_comm];omega
theorem G1(hx:0<x.m)(hy:0<y.m){k:Nat}(hm:cG x+(k:Int)*x.m<=32767)(hh:bF y (cG x+(k:Int)*x.m))(hl:∀j:Nat,j<k->¬ bF y (cG x+(j:Int)*x.m)) :
  bu x y=Y (if 32767<cG x+(k:Int)*x.m+(ew x.m y.m:Nat) then⟨0,cG x+(k:Int)*x.m⟩ else kI (ew x.m y.m) (cG x+(k:Int)*x.m)):=by
 have h0:=Int.emod_nonneg (x.r+32768) (show(x.m:Int)≠0 by omega);have hk0:0<=(k:Int)*x.m:=Int.mul_nonneg À À;refine IN hx hy ⟨by unfold cG;omega,hm⟩ ?_ (λn n1 n2=>?_)
 .unfold bN
  rw[à,Õ,Õ];exact⟨LR k,hh⟩
 .cases hb:bN x y n with
  |false=>rfl
  |true=>unfold bN at hb;rw[à,Õ,Õ]at hb;obtain⟨j,rfl⟩:=Bw hx hb.1 n1;refine absurd hb.2 (hl j ?_);apply Classical.byContradiction;intro hjk;have:(k:Int)*x.m<=(j:Int)*x.m:=Int.mul_le_mul_of_nonneg_right À À;omega
theorem u5(hx:0<x.m)(hy:0<y.m){k:Nat}(hk:32767<cG x+(k:Int)*x.m∨((ew x.m y.m:Nat):Int)<=(k:Int)*x.m)(hl:∀j:Nat,j<k->¬ bF y (cG x+(j:Int)*x.m)) :
  bu x y=M:=by
 have hL:=uq hx hy
 -- any common number has one in the first stretch
 have key:∀n:Nat,∀j:Nat,j<=n->cG x+(j:Int)*x.m<=32767->¬bF y (cG x+(j:Int)*x.m):=by
  intro n
  induction n with
  |zero=>
   intro j hj hle;have:j=0:=À;subst this;by_cases h0:0<k
   .exact hl 0 h0
   .have:k=0:=À
    subst this
    rcases hk with hk|hk
    .omega
    .simp at hk;omega
  |succ n ih=>
   intro j hj hle hm;by_cases hjk:j<k
   .exact hl j hjk hm
   .have hkj:(k:Int)*x.m<=(j:Int)*x.m:=Int.mul_le_mul_of_nonneg_right À À
    rcases hk with hk|hk
    .omega
    ·-- j*m-μ is a multiple of m
     have hdx:(x.m:Int)∣((ew x.m y.m:Nat):Int):=((uF x.m y.m _).1 (Int.dvd_refl _)).1;have hdy:(y.m:Int)∣((ew x.m y.m:Nat):Int):=((uF x.m y.m _).1 (Int.dvd_refl _)).2;obtain⟨c,hc⟩:=hdx;have Qq:0<c:=by apply Classical.byContradiction;intro h;have:(x.m:Int)*c<=0:=Int.mul_nonpos_of_nonneg_of_nonpos À À;omega
     have hcj:c<=j:=by apply Classical.byContradiction;intro h;have:(j:Int)*x.m<c*x.m:=Int.mul_lt_mul_of_pos_right À À;rw[Int.mul_comm c]at this;omega
     have e:cG x+((j-c.toNat:Nat):Int)*x.m=cG x+(j:Int)*x.m-((ew x.m y.m:Nat):Int):=by rw[hc,show((j-c.toNat:Nat):Int)=(j:Int)-c by omega,Int.sub_mul,Int.mul_comm c];omega
     refine ih (j-c.toNat) À (by rw[e];omega) ?_;rw[e,mem_iff];rw[mem_iff]at hm;have:=Int.dvd_sub hm hdy
     rwa[show cG x+(j:Int)*x.m-y.r-((ew x.m y.m:Nat):Int)=cG x+(j:Int)*x.m-((ew x.m y.m:Nat):Int)-y.r by omega]at this
 refine JX (λn hn=>?_);cases hb:bN x y n with
 |false=>rfl
 |true=>unfold bN at hb;rw[à,Õ,Õ]at hb;obtain⟨j,rfl⟩:=Bw hx hb.1 hn.1;exact absurd hb.2 (key j j È hn.2)
theorem left_eq(n:Int)(hm:0<m):(n.tmod m+m).tmod m=n%m:=by
 have h1:=Int.tmod_add_mul_tdiv n m;have h2:n%m=n.tmod m%m:=by
  conv=>lhs;rw[<-h1]
  exact Int.add_mul_emod_self_left _ _ _
 have h3:-m<n.tmod m:=Int.lt_tmod_of_pos n hm;rw[Int.tmod_eq_emod_of_nonneg À,Int.add_emod_right,h2]
def rN(zs:List Int):Nat:=zs.foldl (λg z=>Nat.gcd g z.natAbs) 0
theorem Mi(zs:List Int)(z:Int):rN (zs++[z])=Nat.gcd (rN zs) z.natAbs:=by unfold rN;rw[List.foldl_append];rfl
theorem Oi(a b:Int):rN [a,b]=Nat.gcd a.natAbs b.natAbs:=by show Nat.gcd (Nat.gcd 0 a.natAbs) b.natAbs=_;rw[Nat.gcd_zero_left]
theorem nU(a b c:Int):rN [a,b,c]=Nat.gcd (Nat.gcd a.natAbs b.natAbs) c.natAbs:=by show Nat.gcd (Nat.gcd (Nat.gcd 0 a.natAbs) b.natAbs) c.natAbs=_;rw[Nat.gcd_zero_left]
theorem BE(g n:Int):Nat.gcd n.natAbs (g.tmod n).natAbs=Nat.gcd g.natAbs n.natAbs:=by rw[Int.natAbs_tmod,Nat.gcd_comm n.natAbs,<-Nat.gcd_rec,Nat.gcd_comm]
theorem yY(g:Int)(h:n≠0):(g.tmod n).natAbs<n.natAbs:=by rw[Int.natAbs_tmod];exact Nat.mod_lt _ À
def cF(k:Nat)(n:Int):Cg:=if k=0 then⟨0,n⟩ else kI k n
theorem Lf(k:Nat)(n:Int):cF (Nat.gcd k 65536) n=dR k n:=by
 unfold cF;have:Nat.gcd k 65536≠0:=λe=>by have:=(Nat.gcd_eq_zero_iff.1 e).2;omega
 rw[Â this];rfl
theorem Jz(h:cV x)(n:Int):cF x.m n=x↔bF x n:=by
 rw[mem_iff];unfold cF;obtain⟨m,r⟩:=x;simp only;by_cases hm:m=0
 .rw[Á hm]
  subst hm;simp;omega
 .rw[Â hm]
  rcases h with⟨h,_⟩|⟨_,_,h3,h4⟩
  .exact absurd h hm
  .simp only at h3 h4
   unfold kI;rw[Int.dvd_iff_emod_eq_zero];constructor
   .intro e
    have e:n%(m:Int)=r:=Ë Cg.r e;rw[<-e,Int.sub_emod,Int.emod_emod_of_dvd _ (Int.dvd_refl _),Int.sub_self];rfl
   .intro e
    have:n%(m:Int)=r%(m:Int):=Int.emod_eq_emod_iff_emod_sub_eq_zero.2 e;rw[this,Int.emod_eq_of_lt h3 h4]
theorem Le(h:cV x):decide (bF x 0)=decide (x.r=0):=by
 have:bF x 0↔x.r=0:=by
  rw[<-Jz h];unfold cF;obtain⟨m,r⟩:=x;simp only;by_cases hm:m=0
  .rw[Á hm]
   subst hm;simp;exact eq_comm
  .rw[Â hm]
   unfold kI;simp;exact eq_comm
 by_cases hr:x.r=0
 .rw[decide_eq_true (this.2 hr),decide_eq_true hr]
 .rw[decide_eq_false (λk=>hr (this.1 k)),decide_eq_false hr]
theorem IM(x y:Cg)(hx:cV x):cD x y=cF (Nat.gcd (Nat.gcd x.m y.m) (x.r-y.r).natAbs) x.r:=by
 unfold cD cF;split
 .next h=>
  have hm:x.m=0:=(Nat.gcd_eq_zero_iff.1 (Nat.gcd_eq_zero_iff.1 h).1).1;obtain⟨m,r⟩:=x;simp only at hm;rw[hm]
 .rfl
end
end Sp
section
namespace Sp
section
variable (D: rv)(P: z7)
def cW(T:Int->D.St->xK D):Bl->Ct->Prop
 |.nil,_=>True
 |.assign _ x t,ct=>cW T t (cS x (aD ct))
 |.read _ t,ct=>cW T t (aD ct)
 |.assert _ x y t,ct=>cW T t (cS y (cS x (aL (aD ct))))
 |.ite _ x y xs true ys t,ct=>cW T xs (cS y (cS x (aD ct)))/\cW T ys (cB xs (cS y (cS x (aD ct))))/\cW T t (cB ys (cB xs (cS y (cS x (aD ct)))))
 |.ite _ x y xs false _ t,ct=>cW T xs (cS y (cS x (aD ct)))/\cW T t (cB xs (cS y (cS x (aD ct))))
 |.loop k x y xs t,ct=>((0<=ct.1/\ct.1<=1000000)/\∀s,T ct.1 s=tz D P (dK D k x y (aD ct)) (cJ D P xs (cS y (cS x (aD ct)))) ct.1 s)/\cW T xs (cS y (cS x (aD ct)))/\cW T t (cB xs (cS y (cS x (aD ct))))
def o9:Bl->Ct->Int->D.St->xK D
 |.nil,_,_,s=>([],s)
 |.assign _ x t,ct,p,s=>o9 t (cS x (aD ct)) p s
 |.read _ t,ct,p,s=>o9 t (aD ct) p s
 |.assert _ x y t,ct,p,s=>o9 t (cS y (cS x (aL (aD ct)))) p s
 |.ite _ x y xs true ys t,ct,p,s=>if p<(cB xs (cS y (cS x (aD ct)))).1 then o9 xs (cS y (cS x (aD ct))) p s else if p<(cB ys (cB xs (cS y (cS x (aD ct))))).1 then o9 ys (cB xs (cS y (cS x (aD ct)))) p s else o9 t (cB ys (cB xs (cS y (cS x (aD ct))))) p s
 |.ite _ x y xs false _ t,ct,p,s=>if p<(cB xs (cS y (cS x (aD ct)))).1 then o9 xs (cS y (cS x (aD ct))) p s else o9 t (cB xs (cS y (cS x (aD ct)))) p s
 |.loop k x y xs t,ct,p,s=>if p=ct.1 then tz D P (dK D k x y (aD ct)) (cJ D P xs (cS y (cS x (aD ct)))) ct.1 s else if p<(cB xs (cS y (cS x (aD ct)))).1 then o9 xs (cS y (cS x (aD ct))) p s else o9 t (cB xs (cS y (cS x (aD ct)))) p s
theorem fv(T:Int->D.St->xK D):∀(t:Bl) (ct:Ct),Small ct (pB t) (qB t)->(∀p s,ct.1<=p->p<ct.1+pB t->T p s=o9 D P t ct p s)->cW D P T t ct
 |.nil,_,_,_=>trivial
 |.assign k x t,ct,⟨h1,h2,h3,h4⟩,h=>by
  simp only[pB,qB]at h3 h4 h;have e0:=ep h1 À;have ec:cS x (aD ct)=(ct.1+1,ct.2+nS x):=by rw[e0,dS x _ (by simp;omega) (by simp;omega)]
  show cW D P T t (cS x (aD ct));simp only[o9,ec]at h;rw[ec];exact fv T t _ ⟨by simp;omega,by simp;omega,by simp;omega,by simp;omega⟩ (λp s h5 h6=>h p s (by simp at h5;omega) (by simp at h6;omega))
 |.read k t,ct,⟨h1,h2,h3,h4⟩,h=>by simp only[pB,qB]at h3 h4 h;have e0:=ep h1 À;show cW D P T t (aD ct);simp only[o9,e0]at h;rw[e0];exact fv T t _ ⟨by simp;omega,by simp;omega,by simp;omega,by simp;omega⟩ (λp s h5 h6=>h p s (by simp at h5;omega) (by simp at h6;omega))
 |.assert k x y t,ct,⟨h1,h2,h3,h4⟩,h=>by
  simp only[pB,qB]at h3 h4 h;have e0:aL (aD ct)=(ct.1+1,ct.2+1):=by rw[ep h1 À,mV (by simp;omega) (by simp;omega)]
  have ec:cS y (cS x (aL (aD ct)))=(ct.1+1,ct.2+1+nS x+nS y):=by rw[e0,dS x _ (by simp;omega) (by simp;omega),dS y _ (by simp;omega) (by simp;omega)]
  show cW D P T t (cS y (cS x (aL (aD ct))));simp only[o9,ec]at h;rw[ec];exact fv T t _ ⟨by simp;omega,by simp;omega,by simp;omega,by simp;omega⟩ (λp s h5 h6=>h p s (by simp at h5;omega) (by simp at h6;omega))
 |.ite k x y xs true ys t,ct,⟨h1,h2,h3,h4⟩,h=>by
  simp only[pB,qB,if_true]at h3 h4 h;have e0:=ep h1 À;have ec:cS y (cS x (aD ct))=(ct.1+1,ct.2+nS x+nS y):=by rw[e0,dS x _ (by simp;omega) (by simp;omega),dS y _ (by simp;omega) (by simp;omega)]
  have ex:=gp xs (ct.1+1,ct.2+nS x+nS y) ⟨by simp;omega,by simp;omega,by simp;omega,by simp;omega⟩;have ey:=gp ys (ct.1+1+pB xs,ct.2+nS x+nS y+qB xs) ⟨by simp;omega,by simp;omega,by simp;omega,by simp;omega⟩;show cW D P T xs (cS y (cS x (aD ct)))/\cW D P T ys (cB xs (cS y (cS x (aD ct))))/\cW D P T t (cB ys (cB xs (cS y (cS x (aD ct)))));simp only[o9,ec,ex,ey]at h;rw[ec,ex,ey];refine⟨fv T xs _ ⟨by simp;omega,by simp;omega,by simp;omega,by simp;omega⟩ (λp s h5 h6=>?_),fv T ys _ ⟨by simp;omega,by simp;omega,by simp;omega,by simp;omega⟩ (λp s h5 h6=>?_),fv T t _ ⟨by simp;omega,by simp;omega,by simp;omega,by simp;omega⟩ (λp s h5 h6=>?_)⟩
  all_goals
   simp at h5 h6;have:=h p s À À
  .rw[Á À]at this;exact this
  .rw[Â À,Á À]at this;exact this
  .rw[Â À,Â À]at this;exact this
 |.ite k x y xs false ys t,ct,⟨h1,h2,h3,h4⟩,h=>by
  simp only[pB,qB,Bool.false_eq_true,if_false]at h3 h4 h;have e0:=ep h1 À;have ec:cS y (cS x (aD ct))=(ct.1+1,ct.2+nS x+nS y):=by rw[e0,dS x _ (by simp;omega) (by simp;omega),dS y _ (by simp;omega) (by simp;omega)]
  have ex:=gp xs (ct.1+1,ct.2+nS x+nS y) ⟨by simp;omega,by simp;omega,by simp;omega,by simp;omega⟩;show cW D P T xs (cS y (cS x (aD ct)))/\cW D P T t (cB xs (cS y (cS x (aD ct))));simp only[o9,ec,ex]at h;rw[ec,ex];refine⟨fv T xs _ ⟨by simp;omega,by simp;omega,by simp;omega,by simp;omega⟩ (λp s h5 h6=>?_),fv T t _ ⟨by simp;omega,by simp;omega,by simp;omega,by simp;omega⟩ (λp s h5 h6=>?_)⟩
  all_goals
   simp at h5 h6;have:=h p s À À
  .rw[Á À]at this;exact this
  .rw[Â À]at this;exact this
 |.loop k x y xs t,ct,⟨h1,h2,h3,h4⟩,h=>by
  simp only[pB,qB]at h3 h4 h;have e0:=ep h1 À;have ec:cS y (cS x (aD ct))=(ct.1+1,ct.2+nS x+nS y):=by rw[e0,dS x _ (by simp;omega) (by simp;omega),dS y _ (by simp;omega) (by simp;omega)]
  have ex:=gp xs (ct.1+1,ct.2+nS x+nS y) ⟨by simp;omega,by simp;omega,by simp;omega,by simp;omega⟩;show((0<=ct.1/\ct.1<=1000000)/\∀s,T ct.1 s=tz D P (dK D k x y (aD ct)) (cJ D P xs (cS y (cS x (aD ct)))) ct.1 s)/\cW D P T xs (cS y (cS x (aD ct)))/\cW D P T t (cB xs (cS y (cS x (aD ct))));refine⟨⟨⟨h1,À⟩,λs=>?_⟩,?_⟩
  .rw[h ct.1 s À À]
   exact Á rfl
  .simp only[o9,ec,ex]at h
   rw[ec,ex];refine⟨fv T xs _ ⟨by simp;omega,by simp;omega,by simp;omega,by simp;omega⟩ (λp s h5 h6=>?_),fv T t _ ⟨by simp;omega,by simp;omega,by simp;omega,by simp;omega⟩ (λp s h5 h6=>?_)⟩
   all_goals
    simp at h5 h6;have:=h p s À À
   .rw[Â À,Á À]at this;exact this
   .rw[Â À,Â À]at this;exact this
end
end Sp
end
end Go.Proofs.YtiopfihjmkfdmabGreatDoor
