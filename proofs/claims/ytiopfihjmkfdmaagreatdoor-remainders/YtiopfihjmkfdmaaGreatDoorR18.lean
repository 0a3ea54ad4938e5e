import Derived.Test.YtiopfihjmkfdmaaGreatDoorR16
import Derived.Test.YtiopfihjmkfdmaaGreatDoorR17
import Derived.Deep.CutRange
namespace Go.Proofs.YtiopfihjmkfdmaaGreatDoor
open Option renaming none→M,some→Y
open Go.Value renaming int→I,agg→J,bool→U,tuple→φ,string→χ
open Go.IntKind renaming i64→O
open Go.Ending renaming returned→υ
open Go.Obj renaming cells→L
open Go.Proofs.Tryz Sp
open Go.RowKit
set_option maxRecDepth 100000
set_option maxHeartbeats 16000000
section
variable{x y:Sp.Cg}
variable{a b n ι r N s first:Int}
variable{w W W':Wd}
def CR(k:Nat)(x y:Sp.Iv):Sp.Iv :=
 if k=0 then⟨-32768,y.b - 1⟩ else if k=1 then⟨-32768,y.b⟩ else if k=2 then y
 else if k=3 then⟨if y.a=y.b/\x.a=y.a then x.a+1 else -32768,if y.a=y.b/\x.b=y.a then x.b - 1 else 32767⟩
 else if k=4 then⟨y.a,32767⟩ else⟨y.a+1,32767⟩
theorem RL(k:Nat)(hk:k<6){x y z:Sp.Iv}(hz:j7 z)(hy:j7 y)(h:z=x∨k≠3∨y.a≠y.b) :
  rG k z y=if max z.a (CR k x y).a<=min z.b (CR k x y).b then Y ⟨max z.a (CR k x y).a,min z.b (CR k x y).b⟩ else M:=by
 obtain⟨z1,z2,z3⟩:=hz;obtain⟨y1,y2,y3⟩:=hy
 rcases(show k=0∨k=1∨k=2∨k=3∨k=4∨k=5 from by omega) with rfl | rfl | rfl | rfl | rfl | rfl
 ·show nD z y.b=if max z.a (-32768)<=min z.b (y.b - 1) then Y ⟨max z.a (-32768),min z.b (y.b - 1)⟩ else M
  unfold nD;by_cases h0:y.b=-32768
  ·rw[if_pos h0,if_neg (by omega)]
  ·rw[if_neg h0];rfl
 ·rfl
 ·rfl
 ·show rH z y=if max z.a (if y.a=y.b/\x.a=y.a then x.a+1 else -32768)<=min z.b (if y.a=y.b/\x.b=y.a then x.b - 1 else 32767) then Y ⟨max z.a (if y.a=y.b/\x.a=y.a then x.a+1 else -32768),min z.b (if y.a=y.b/\x.b=y.a then x.b - 1 else 32767)⟩ else M
  generalize hp:(if y.a=y.b/\x.a=y.a then x.a+1 else -32768:Int)=p;generalize hq:(if y.a=y.b/\x.b=y.a then x.b - 1 else 32767:Int)=q;unfold rH;by_cases he:y.a=y.b
  ·have hx:z=x:=by
    rcases h with h | h | h
    ·exact h
    ·exact absurd rfl h
    ·exact absurd he h
   subst hx;rw[if_neg (fun h=>h he)];by_cases h1:z.a=y.a
   ·have Yf:p=y.a+1:=by rw[<-hp,if_pos ⟨he,h1⟩,h1]
    rw[if_pos h1];unfold nF;by_cases h2:z.b=y.a
    ·have Kl:q=y.a - 1:=by rw[<-hq,if_pos ⟨he,h2⟩,h2]
     rw[if_neg (show ¬ max z.a p<=min z.b q by omega)];split
     ·rfl
     ·unfold ku;rw[if_neg (by simp only;omega)]
    ·have Kl:q=32767:=by rw[<-hq,if_neg (fun h=>h2 h.2)]
     split
     ·rw[if_neg (by omega)]
     ·rw[Yf,Kl];rfl
   ·have Yf:p=-32768:=by rw[<-hp,if_neg (fun h=>h1 h.2)]
    rw[if_neg h1];by_cases h2:z.b=y.a
    ·have Kl:q=y.a - 1:=by rw[<-hq,if_pos ⟨he,h2⟩,h2]
     rw[if_pos (h2.trans he)];unfold nD;rw[if_neg (by omega),Yf,Kl,he];rfl
    ·have Kl:q=32767:=by rw[<-hq,if_neg (fun h=>h2 h.2)]
     have e1:max z.a p=z.a:=by omega
     have e2:min z.b q=z.b:=by omega
     rw[if_neg (fun h=>h2 (h.trans he.symm)),e1,e2,if_pos z2]
  ·have Yf:p=-32768:=by rw[<-hp,if_neg (fun h=>he h.1)]
   have Kl:q=32767:=by rw[<-hq,if_neg (fun h=>he h.1)]
   have e1:max z.a p=z.a:=by omega
   have e2:min z.b q=z.b:=by omega
   rw[if_pos he,e1,e2,if_pos z2]
 ·rfl
 ·show nF z y.a=if max z.a (y.a+1)<=min z.b 32767 then Y ⟨max z.a (y.a+1),min z.b 32767⟩ else M
  unfold nF;by_cases h0:y.a=32767
  ·rw[if_pos h0,if_neg (by omega)]
  ·rw[if_neg h0];rfl
theorem CO(h:a=b):Ending.returned (I O a)=υ (I O b):=by rw[h]
theorem Nc(n:Int)(w:Wd)(h:n.natAbs<=17179869184) :
  Calls prog 214 #[I O n] w fun e w'=>e=υ (I O (n.natAbs:Nat))/\w'=w:=by
 by_cases h0:n<0
 ·go_enter func214,ntmps214
  go_wp2_with fail;go_ret;exact⟨CO (by omega),rfl⟩
 ·go_enter func214,ntmps214
  go_wp2_with fail;go_ret;exact⟨CO (by omega),rfl⟩
theorem sH(a b:Int)(w:Wd)(ha:a.natAbs<=17179869184)(hb:b.natAbs<=17179869184) :
  Calls prog 186 #[I O a,I O b] w fun e w'=>e=υ (I O (Nat.gcd a.natAbs b.natAbs:Nat))/\w'=w:=by
 obtain⟨g,hg⟩:∃g,Hid (g=Nat.gcd a.natAbs b.natAbs):=⟨_,rfl⟩;rw[<-hg.out];have HA:=Nc a w ha;have HB:=Nc b w hb;have pM:Hid (g=Nat.gcd (a.natAbs:Int).natAbs (b.natAbs:Int).natAbs):=by unfold Hid;rw[hg.out];simp
 obtain⟨x,hx⟩:∃x:Int,x=(a.natAbs:Int):=⟨_,rfl⟩;obtain⟨y,hy⟩:∃y:Int,y=(b.natAbs:Int):=⟨_,rfl⟩;have x0:0<=x:=by omega
 have x1:x<=17179869184:=by omega
 have y0:0<=y:=by omega
 have y1:y<=17179869184:=by omega
 rw[<-hx]at HA pM;rw[<-hy]at HB pM;clear hx hy ha hb hg;go_enter func186,ntmps186;go_wp2_with fail;refine HA.mono ?_;rintro _ w1⟨rfl,h1⟩;rw[h1];clear HA h1 w1;go_wp2_with fail;refine HB.mono ?_;rintro _ w1⟨rfl,h1⟩;rw[h1];clear HB h1 w1;go_wp2_with fail
 go_loopw [0,1] (fun v0 v1 ws=>∃a b:Int,v0=I O a/\v1=I O b/\0<=a/\a<=17179869184/\0<=b/\b<=17179869184/\Hid (g=Nat.gcd a.natAbs b.natAbs)/\ws=w) (fun _ v1 _=>(intOf v1).natAbs)
 case atStart=>exact⟨x,y,rfl,rfl,x0,x1,y0,y1,pM,rfl⟩
 case round =>
  obtain⟨a,b,rfl,rfl,a0,a1,b0,b1,N5,rfl⟩:=hrel;by_cases Qz:b=0
  ·subst Qz
   have Qo:Hid (a=(g:Int)):=by unfold Hid;rw[N5.out];simp;omega
   go_wp2_with fail;go_ret;exact⟨CO Qo.out,rfl⟩
  ·have hl:=xF a Qz
   have Qo:Hid (g=Nat.gcd b.natAbs (a.tmod b).natAbs):=by unfold Hid;rw[N5.out,zD]
   have Uf:0<=a.tmod b:=Int.tmod_nonneg b a0;have Kp:IntKind.i64.wrap (a.tmod b)=a.tmod b:=by rw[IntWalk.i64_in]<;>omega
   go_wp2_with fail;try go_region_with (fail)
   all_goals
    try go_wp2_with fail
    have hte:a % b=a.tmod b:=(Int.tmod_eq_emod_of_nonneg a0).symm;refine⟨⟨b,a.tmod b,rfl,?_,b0,b1,Uf,by omega,Qo,?_⟩,?_⟩
    ·first | rfl | rw[hte]
    ·first | rfl | trivial
    ·first | exact hl | (rw[hte];exact hl) | (simp only[intOf];rw[hte];exact hl)
theorem F1(n:Int){k:Int}(hk:0<k):(n.tmod k=n % k/\0<=n.tmod k)∨(n.tmod k=n % k - k/\n.tmod k<0):=by
 have h:=Int.tmod_eq_emod (a:=n) (b:=k);have h0:=Int.emod_nonneg n (show k≠0 by omega);have h1:=Int.emod_lt_of_pos n hk;by_cases hc:0<=n∨k ∣ n
 ·rw[if_pos hc]at h
  left;omega
 ·rw[if_neg hc]at h
  have e:(k.natAbs:Int)=k:=by omega
  right;omega
theorem mh(n k:Int)(hk:0<k)(gD:k<=17179869184)(w:Wd) :
  Calls prog 141 #[I O n,I O k] w fun e w'=>e=υ (I O (n % k))/\w'=w:=by
 have hkz:k≠0:=by omega
 have h0:=Int.emod_nonneg n hkz;have h5:=Int.emod_lt_of_pos n hk
 rcases F1 n hk with⟨h1,h2⟩ | ⟨h1,h2⟩
 ·have h3:¬ n.tmod k<0:=by omega
  have Kp:IntKind.i64.wrap (n.tmod k)=n.tmod k:=by rw[IntWalk.i64_in]<;>omega
  have H1:Hid (n.tmod k=n % k):=h1;clear h1 h0 h5;go_enter func141,ntmps141;go_wp2_with fail;go_ret;exact⟨CO H1.out,rfl⟩
 ·have Kp:IntKind.i64.wrap (n.tmod k)=n.tmod k:=by rw[IntWalk.i64_in]<;>omega
  have OG:IntKind.i64.wrap (n.tmod k+k)=n.tmod k+k:=by rw[IntWalk.i64_in]<;>omega
  have H1:Hid (n.tmod k+k=n % k):=by unfold Hid;omega
  clear h1 h0 h5;go_enter func141,ntmps141;go_wp2_with fail;go_ret;exact⟨CO H1.out,rfl⟩
theorem Pq{k p:Nat}(hk:0<k)(hp:∃i,p=2 ^ i)(h1:p ∣ k)(h2:p<=65536)(h:65536<=p∨¬ (2*p) ∣ k):p=Nat.gcd k 65536:=by
 obtain⟨i,rfl⟩:=hp;have hi:i<=16:=by
  rcases Nat.lt_or_ge 16 i with q | q
  ·have:=Nat.pow_le_pow_right (show 0<2 by decide) q
   have e:2 ^ (16+1)=131072:=by decide
   omega
  ·exact q
 have d65:2 ^ i ∣ 65536:=by rw[show(65536:Nat)=2 ^ 16 from rfl];exact Nat.pow_dvd_pow 2 hi
 have dg:2 ^ i ∣ Nat.gcd k 65536:=Nat.dvd_gcd h1 d65
 rcases h with h | h
 ·have e:2 ^ i=65536:=by omega
  rw[e]at dg ⊢;exact Nat.dvd_antisymm dg (Nat.gcd_dvd_right _ _)
 ·obtain⟨m,rfl⟩:=h1
  have hm:m % 2=1:=by
   rcases Nat.mod_two_eq_zero_or_one m with q | q
   ·exfalso
    obtain⟨c,rfl⟩:=Nat.dvd_of_mod_eq_zero q;exact h ⟨c,by rw[Nat.mul_comm 2 (2 ^ i),Nat.mul_assoc]⟩
   ·exact q
  have e:(65536:Nat)=2 ^ i*2 ^ (16 - i):=by rw[<-Nat.pow_add,show i+(16 - i)=16 by omega]
  have c:Nat.Coprime m (2 ^ (16 - i)):=Nat.Coprime.pow_right _ (by unfold Nat.Coprime;rw[Nat.gcd_comm,Nat.gcd_rec,hm];decide);rw[e,Nat.gcd_mul_left,c,Nat.mul_one]
theorem Es(k:Nat)(v:Int)(hk:0<k)(gD:k<=17179869184)(w:Wd) :
  Calls prog 181 #[I O (k:Nat),I O v] w fun e w'=>e=υ (J #[I O ((dL k v).m:Nat),I O (dL k v).r])/\ω w w':=by
 have HK:=hid hk;have YD:((k:Nat):Int)<=17179869184:=by omega
 obtain⟨K,hK⟩:∃K:Int,K=(k:Int):=⟨_,rfl⟩;have UB:=hid hK;rw[<-hK]at YD ⊢;have ZD:0<K:=by omega
 clear hk gD hK;go_enter func181,ntmps181;go_wp2_with fail
 go_loopw [5] (fun v5 ws=>∃p:Int,v5=I O p/\0<p/\p<=65536/\Hid (∃i:Nat,p=((2 ^ i:Nat):Int))/\Hid (p ∣ K)/\ws=w.alloc (L #[I O 0,I O 0] 191)) (fun v5 _=>65536 - (intOf v5).toNat)
 case atStart=>exact⟨1,rfl,by decide,by decide,⟨0,rfl⟩,⟨K,by omega⟩,rfl⟩
 case round =>
  obtain⟨p,rfl,p0,p1,UE,Yt,rfl⟩:=hrel;have p2:¬ 2*p=0:=by omega
  have t0:0<=K % (2*p):=Int.emod_nonneg _ p2;have t1:K % (2*p)<2*p:=Int.emod_lt_of_pos _ (by omega);have te:K.tmod (2*p)=K % (2*p):=Int.tmod_eq_emod_of_nonneg (by omega);have TD:Hid (K % (2*p)=0<->2*p∣K):=(by exact Int.dvd_iff_emod_eq_zero.symm);have done:(65536<=p∨¬ K % (2*p)=0)->Hid (p=((dL k v).m:Int)/\v % p=(dL k v).r):=fun h=>by
   have e:p.toNat=Nat.gcd k 65536:=Pq HK.out (by obtain⟨i,hi⟩:=UE.out;exact⟨i,by omega⟩) (by have:=Yt.out;rw[UB.out,show p=(p.toNat:Int) by omega]at this;exact Int.natCast_dvd_natCast.1 this) (by omega) (by
    rcases h with h | h
    ·left;omega
    ·right;intro hd;refine h (TD.2 ?_);rw[UB.out,show 2*p=((2*p.toNat:Nat):Int) by omega];exact Int.natCast_dvd_natCast.2 hd)
   have e2:p=((Nat.gcd k 65536:Nat):Int):=by omega
   exact⟨e2,by rw[e2];rfl⟩
  by_cases c1:p<65536
  ·by_cases c2:K % (2*p)=0
   ·have N1:Hid (∃i:Nat,2*p=((2 ^ i:Nat):Int)):=by
     obtain⟨i,hi⟩:=UE.out;exact⟨i+1,by rw[hi,Nat.pow_succ];omega⟩
    have N2:Hid (2*p ∣ K):=TD.1 c2;have N3:Hid (2*p<=65536):=by
     obtain⟨i,hi⟩:=UE.out;have:i<16:=by
      rcases Nat.lt_or_ge i 16 with h | h
      ·exact h
      ·have:=Nat.pow_le_pow_right (show 0<2 by decide) h
       have e:2 ^ 16=65536:=rfl;omega
     have:=Nat.pow_le_pow_right (show 0<2 by decide) this;have e:2 ^ (i+1)=2 ^ i*2:=Nat.pow_succ ..;have e:2 ^ 16=65536:=rfl;show 2*p<=65536;rw[Nat.succ_eq_add_one]at this;omega
    clear done TD UE Yt;go_wp2_with fail;exact⟨⟨2*p,rfl,by omega,N3.out,N1,N2,by first | rfl | trivial⟩,by have:=N3.out;simp[intOf];omega⟩
   ·have HD:=done (.inr c2)
    have HM:=mh v p p0 (by omega);clear done TD UE Yt;go_wp2_with fail;refine(HM _).mono ?_;rintro _ _⟨rfl,rfl⟩;rw[HD.2];clear HM;go_wp2_with fail;go_returns;exact⟨by rw[HD.1],by go_grown⟩
  ·have HD:=done (.inl (by omega))
   have HM:=mh v p p0 (by omega);clear done TD UE Yt;go_wp2_with fail;refine(HM _).mono ?_;rintro _ _⟨rfl,rfl⟩;rw[HD.2];clear HM;go_wp2_with fail;go_returns;exact⟨by rw[HD.1],by go_grown⟩
theorem PF(n:Int)(w:Wd) :
  Calls prog 142 #[I O 1,I O n] w fun e w'=>e=υ (J #[I O 0,I O n])/\ω w w':=by
 go_enter func142,ntmps142;go_wp2_with fail;go_returns;exact⟨rfl,by go_grown⟩
theorem Ml(w:Wd) :
  Calls prog 107 #[I O 1] w fun e w'=>e=υ (J #[I O 1,I O 0])/\ω w w':=by
 go_enter func107,ntmps107;go_wp2_with fail;go_returns;exact⟨rfl,by go_grown⟩
theorem sZ(h:cr x):(x.m:Int)<=65536/\-32768<=x.r/\x.r<=65535:=by rcases h with⟨h1,h2,h3⟩ | ⟨h1,h2,h3,h4⟩<;>omega
theorem L6(x:Sp.Cg)(n:Int):decide ((n - x.r).tmod x.m=0)=decide (bA x n):=by refine decide_eq_decide.2 ?_;rw[Sp.mem_iff];exact⟨fun h=>Int.dvd_of_tmod_eq_zero h,fun h=>Int.tmod_eq_zero_of_dvd h⟩
theorem Ge(h:cr x)(n:Int)(h1:-32768<=n)(h2:n<=32767)(w:Wd) :
  Calls prog 144 #[J #[I O (x.m:Nat),I O x.r],I O 1,I O n] w fun e w'=>e=υ (U (decide (bA x n)))/\ω w w':=by
 obtain⟨b1,b2,b3⟩:=sZ h;by_cases hm:x.m=0
 ·have E:Hid (decide (bA x n)=decide (n=x.r)):=by unfold Hid;rw[decide_eq_decide];unfold bA;rw[if_pos hm]
  rw[hm];generalize x.r=r at *;go_enter func144,ntmps144;go_wp2_with fail;go_returns;exact⟨by rw[E.out];rfl,by go_grown⟩
 ·have E:Hid (decide ((n - x.r).tmod x.m=0)=decide (bA x n)):=L6 x n
  obtain⟨ι,hM⟩:∃ι:Int,ι=(x.m:Int):=⟨_,rfl⟩;rw[<-hM]at E b1 ⊢;have m0:0<ι:=by omega
  have m1:¬ ι=0:=by omega
  have t1:((n - x.r).tmod ι).natAbs<=100000:=by have:=Int.natAbs_tmod (n - x.r) ι;have h5:=Nat.mod_lt (n - x.r).natAbs (show 0<ι.natAbs by omega);omega
  generalize x.r=r at *;have Kp:IntKind.i64.wrap ((n - r).tmod ι)=(n - r).tmod ι:=by rw[IntWalk.i64_in]<;>omega
  clear hM h hm;go_enter func144,ntmps144;go_wp2_with fail;go_returns;exact⟨by rw[<-E.out];rfl,by go_grown⟩
theorem Nh(h:cr x)(w:Wd) :
  Calls prog 143 #[I O 1,J #[I O (x.m:Nat),I O x.r]] w fun e w'=>e=υ (J #[I O ((jl x).m:Nat),I O (jl x).r])/\ω w w':=by
 obtain⟨b1,b2,b3⟩:=sZ h;by_cases hm:x.m=0
 ·have E:Hid (jl x=⟨0,tX (-x.r)⟩):=by unfold Hid jl;rw[if_pos hm]
  rw[hm];have HW:=tR (-x.r);generalize tX (-x.r)=z at *;generalize x.r=r at *;go_enter func143,ntmps143;go_wp2_with fail;refine(HW _).mono ?_;rintro _ _⟨rfl,rfl⟩;clear HW;go_wp2_with fail;go_returns;exact⟨by rw[E.out];rfl,by go_grown⟩
 ·have E:Hid (jl x=dL x.m (-x.r)):=by unfold Hid jl;rw[if_neg hm]
  have HW:Hid (∀w:Wd,_):=Es x.m (-x.r) (by omega) (by omega);rw[<-E.out]at HW;obtain⟨ι,hM⟩:∃ι:Int,ι=(x.m:Int):=⟨_,rfl⟩;rw[<-hM]at b1 HW ⊢;have m0:¬ ι=0:=by omega
  generalize x.r=r at *;generalize jl x=t at *;clear E hM h hm;go_enter func143,ntmps143;go_wp2_with fail;refine(HW.out _).mono ?_;rintro _ w1⟨rfl,k1⟩;obtain⟨_,hz,bw⟩:=fh k1;obtain⟨c0,c1,f0,f1,mq⟩:=aR hz;have MQ:=hid (mq (I O (t.m:Nat)) (I O t.r));have BW:=hid bw;clear mq hz k1 bw HW;go_wp2_with fail;exact bodyPost_ret (v:=J #[I O (t.m:Nat),I O t.r]) (by simp[results,results143,go_sem,MQ.1,MQ.2]) rfl ⟨rfl,(BW.setCell (p:=⟨w.heap.size+1,0,M⟩) (by show w.heap.size<=w.heap.size+1;omega) _).setCell (p:=⟨w.heap.size+1,1,M⟩) (by show w.heap.size<=w.heap.size+1;omega) _⟩
theorem sM(h:cr x):(0:Int)<=(x.m:Int)/\(x.m:Int)<=65536/\-32768<=x.r/\x.r<=65535:=⟨Int.natCast_nonneg _,sZ h⟩
theorem sA{a b n:Nat}(ha:a<=n)(hb:b<=n):Nat.gcd a b<=n:=by
 rcases Nat.eq_zero_or_pos a with rfl | h
 ·rw[Nat.gcd_zero_left];exact hb
 ·exact Nat.le_trans (Nat.gcd_le_left _ h) ha
theorem Pg(hx:cr x)(hy:cr y)(w:Wd) :
  Calls prog 149 #[I O 1,J #[I O (x.m:Nat),I O x.r],J #[I O (y.m:Nat),I O y.r]] w fun e w'=>e=υ (J #[I O ((cp x y).m:Nat),I O (cp x y).r])/\ω w w':=by
 obtain⟨b0,b1,b2,b3⟩:=sM hx;obtain⟨d0,d1,d2,d3⟩:=sM hy;have g1:Hid (∀W:Wd,_):=sH (x.m:Int) (y.m:Int) (ha:=by omega) (hb:=by omega);have hl:=sA (a:=x.m) (b:=y.m) (n:=65536) (by omega) (by omega);simp only[Int.natAbs_natCast]at g1;obtain⟨G,hG⟩:∃G,G=Nat.gcd x.m y.m:=⟨_,rfl⟩;rw[<-hG]at g1 hl;have g2:Hid (∀W:Wd,_):=sH (G:Int) (x.r - y.r) (ha:=by omega) (hb:=by omega);have BF:=sA (a:=G) (b:=(x.r - y.r).natAbs) (n:=200000) (by omega) (by omega);simp only[Int.natAbs_natCast]at g2;have E:Hid (cp x y=if Nat.gcd G (x.r - y.r).natAbs=0 then x else jX (Nat.gcd G (x.r - y.r).natAbs) x.r):=by rw[hG];rfl
 obtain⟨H,hH⟩:∃H,H=Nat.gcd G (x.r - y.r).natAbs:=⟨_,rfl⟩;rw[<-hH]at g2 BF E;have hli:((G:Nat):Int)<=65536:=by omega
 have aaI:((H:Nat):Int)<=200000:=by omega
 by_cases hz:H=0
 ·have E2:Hid (cp x y=x):=by rw[E.out,if_pos hz];rfl
  have zW:((H:Nat):Int)=0:=by omega
  rw[E2.out];clear E E2 hG hH hl BF hx hy;generalize ((x.m:Nat):Int)=ι at *;generalize ((y.m:Nat):Int)=N at *;generalize x.r=r at *;generalize y.r=s at *;go_enter func149,ntmps149;go_wp2_with fail;refine(g1.out _).mono ?_;rintro _ _⟨rfl,rfl⟩;go_wp2_with fail;refine(g2.out _).mono ?_;rintro _ _⟨rfl,rfl⟩;clear g1 g2;rw[zW];go_wp2_with fail;go_returns;exact⟨rfl,by go_grown⟩
 ·have E2:Hid (cp x y=⟨H,x.r % (H:Int)⟩):=by rw[E.out,if_neg hz];rfl
  have zW:¬ ((H:Nat):Int)=0:=by omega
  have g3:Hid (∀W:Wd,_):=mh x.r (H:Int) (by omega) (by omega);rw[E2.out];simp only;clear E E2 hG hH hl BF hx hy;generalize ((x.m:Nat):Int)=ι at *;generalize ((y.m:Nat):Int)=N at *;generalize x.r=r at *;generalize y.r=s at *;generalize r % (H:Int)=z at *;go_enter func149,ntmps149;go_wp2_with fail;refine(g1.out _).mono ?_;rintro _ _⟨rfl,rfl⟩;go_wp2_with fail;refine(g2.out _).mono ?_;rintro _ _⟨rfl,rfl⟩;go_wp2_with fail;refine(g3.out _).mono ?_;rintro _ _⟨rfl,rfl⟩;clear g1 g2 g3;go_wp2_with fail;go_returns;exact⟨rfl,by go_grown⟩
theorem vH(h1:-65536<=a)(h2:a<=65536)(h3:-65536<=b)(h4:b<=65536):-4294967296<=a*b/\a*b<=4294967296:=by
 have h5:(a*b).natAbs<=65536*65536:=by rw[Int.natAbs_mul];exact Nat.mul_le_mul (by omega) (by omega)
 omega
theorem ML(hx:cr x)(hy:cr y)(h0:¬ (x.m=0/\y.m=0))(w:Wd) :
  Calls prog 187 #[J #[I O (x.m:Nat),I O x.r],J #[I O (y.m:Nat),I O y.r]] w fun e w'=>∃v,bt 2 x y=Y v/\e=υ (J #[I O (v.m:Nat),I O v.r])/\ω w w':=by
 obtain⟨b0,b1,b2,b3⟩:=sM hx;obtain⟨d0,d1,d2,d3⟩:=sM hy;obtain⟨p1,p2⟩:=vH (a:=(x.m:Int)) (b:=(y.m:Int)) (by omega) (by omega) (by omega) (by omega);obtain⟨p3,p4⟩:=vH (a:=(x.m:Int)) (b:=y.r) (by omega) (by omega) (by omega) (by omega);obtain⟨p5,p6⟩:=vH (a:=(y.m:Int)) (b:=x.r) (by omega) (by omega) (by omega) (by omega);obtain⟨p7,p8⟩:=vH (a:=x.r) (b:=y.r) (by omega) (by omega) (by omega) (by omega);have EW:Hid (bt 2 x y=if(x.m=0/\x.r=0)∨(y.m=0/\y.r=0) then Y ⟨0,0⟩ else Y (dL (Nat.gcd (Nat.gcd (x.m*y.m) ((x.m:Int)*y.r).natAbs) ((y.m:Int)*x.r).natAbs) (x.r*y.r))):=by unfold Hid bt;rw[if_neg h0];rfl
 by_cases hz:(x.m=0/\x.r=0)∨(y.m=0/\y.r=0)
 ·have E2:Hid (bt 2 x y=Y ⟨0,0⟩):=by rw[EW.out,if_pos hz];rfl
  have zW:(((x.m:Nat):Int)=0/\x.r=0)∨((¬ ((x.m:Nat):Int)=0∨((x.m:Nat):Int)=0/\¬ x.r=0)/\((y.m:Nat):Int)=0/\y.r=0):=by omega
  clear EW hx hy h0 hz;generalize ((x.m:Nat):Int)=ι at *;generalize ((y.m:Nat):Int)=N at *;generalize x.r=r at *;generalize y.r=s at *
  rcases zW with⟨rfl,rfl⟩ | ⟨q | ⟨rfl,q⟩,rfl,rfl⟩
  all_goals
   go_enter func187,ntmps187;go_wp2_with fail;go_returns;exact⟨_,E2.out,rfl,by go_grown⟩
 ·have g1:Hid (∀W:Wd,_):=sH ((x.m:Int)*(y.m:Int)) ((x.m:Int)*y.r) (ha:=by omega) (hb:=by omega)
  have hl:=sA (a:=((x.m:Int)*(y.m:Int)).natAbs) (b:=((x.m:Int)*y.r).natAbs) (n:=4294967296) (by omega) (by omega);have E2:=EW.out;rw[if_neg hz,show x.m*y.m=((x.m:Int)*(y.m:Int)).natAbs by rw[Int.natAbs_mul];simp]at E2;obtain⟨G,hG⟩:∃G,G=Nat.gcd ((x.m:Int)*(y.m:Int)).natAbs ((x.m:Int)*y.r).natAbs:=⟨_,rfl⟩;rw[<-hG]at g1 hl E2;have g2:Hid (∀W:Wd,_):=sH (G:Int) ((y.m:Int)*x.r) (ha:=by omega) (hb:=by omega);have BF:=sA (a:=G) (b:=((y.m:Int)*x.r).natAbs) (n:=4294967296) (by omega) (by omega);simp only[Int.natAbs_natCast]at g2;have yI:0<Nat.gcd G ((y.m:Int)*x.r).natAbs:=by
   rcases Nat.eq_zero_or_pos (Nat.gcd G ((y.m:Int)*x.r).natAbs) with h | h
   ·exfalso
    obtain⟨h1,h2⟩:=Nat.gcd_eq_zero_iff.1 h;rw[hG]at h1;obtain⟨h3,h4⟩:=Nat.gcd_eq_zero_iff.1 h1;have e1:=Int.mul_eq_zero.1 (Int.natAbs_eq_zero.1 h3);have e2:=Int.mul_eq_zero.1 (Int.natAbs_eq_zero.1 h4);have e3:=Int.mul_eq_zero.1 (Int.natAbs_eq_zero.1 h2);omega
   ·exact h
  obtain⟨H,hH⟩:∃H,H=Nat.gcd G ((y.m:Int)*x.r).natAbs:=⟨_,rfl⟩;rw[<-hH]at g2 BF E2 yI;have g3:Hid (∀W:Wd,_):=Es H (x.r*y.r) yI (by omega);have EV:=hid E2;generalize dL H (x.r*y.r)=t at *;have zW:(¬ ((x.m:Nat):Int)=0∨((x.m:Nat):Int)=0/\¬ x.r=0)/\(¬ ((y.m:Nat):Int)=0∨((y.m:Nat):Int)=0/\¬ y.r=0):=by omega
  clear EW hG hH hl BF hx hy E2 hz yI h0;generalize ((x.m:Nat):Int)=ι at *;generalize ((y.m:Nat):Int)=N at *;generalize x.r=r at *;generalize y.r=s at *;go_enter func187,ntmps187;go_upto_region 1 with fail
  go_cut [23] from 6 to 22 (fun v23 wc=>v23=U false/\((w.alloc (L #[I O ι,I O r] 191)).alloc (L #[I O N,I O s] 191)).alloc (L #[I O 0,I O 0] 191)=wc)
  case first =>
   clear g1 g2 g3
   rcases zW with⟨q1 | ⟨q1,q2⟩,q3 | ⟨q3,q4⟩⟩
   all_goals
    try subst q1
    try subst q3
    go_wp2_with fail;go_meet;exact⟨by first | rfl | simp_all,rfl⟩
  case rest =>
   obtain⟨rfl,rfl⟩:=hcut;clear zW;go_wp2_with fail;refine(g1.out _).mono ?_;rintro _ _⟨rfl,rfl⟩;go_wp2_with fail;refine(g2.out _).mono ?_;rintro _ _⟨rfl,rfl⟩;go_wp2_with fail;refine(g3.out _).mono ?_;rintro _ w1⟨rfl,k1⟩;obtain⟨_,_,hz,bw⟩:=cH k1;obtain⟨c0,c1,f0,f1,mq⟩:=aR hz;have MQ:=hid (mq (I O (t.m:Nat)) (I O t.r));have BW:=hid bw;clear mq hz k1 bw g1 g2 g3;go_wp2_with fail;exact bodyPost_ret (v:=J #[I O (t.m:Nat),I O t.r]) (by simp[results,results187,go_sem,MQ.1,MQ.2]) rfl ⟨t,EV.out,rfl,(BW.setCell (p:=⟨w.heap.size+1+1,0,M⟩) (by show w.heap.size<=w.heap.size+1+1;omega) _).setCell (p:=⟨w.heap.size+1+1,1,M⟩) (by show w.heap.size<=w.heap.size+1+1;omega) _⟩
def Zk(n:Int)(ok:Bool):Option Int->Prop
 | some z=>n=z/\ok=true
 | none=>ok=false
theorem EL(k:Nat)(hk:k<5)(a b:Int)(a1:-32768<=a)(a2:a<=65535)(b1:-32768<=b)(b2:b<=65535)(w:Wd) :
  Calls prog 185 #[I O a,χ ⟨(bo k).toArray⟩,I O b] w fun e w'=>∃n ok,e=υ (φ #[I O n,U ok])/\Zk n ok (Sp.work k a b)/\w'=w:=by
 obtain⟨p1,p2⟩:=vH (a:=a) (b:=b) (by omega) (by omega) (by omega) (by omega);have hc:k=0∨k=1∨k=2∨k=3∨k=4:=by omega
 have HW:=hid tR
 rcases hc with rfl | rfl | rfl | rfl | rfl
 ·simp only[bo]
  have E:Hid (Sp.work 0 a b=Y (tX (a+b))):=rfl;go_enter func185,ntmps185;go_wp2_with fail;refine(HW.out _ _).mono ?_;rintro _ _⟨rfl,rfl⟩;go_wp2_with fail;refine bodyPost_ret (v:=φ #[I O (tX (a+b)),U true]) (by simp[results,results185,go_sem]) rfl ?_;exact⟨_,_,rfl,by rw[E.out];exact⟨rfl,rfl⟩,rfl⟩
 ·simp only[bo]
  have E:Hid (Sp.work 1 a b=Y (tX (a - b))):=rfl;go_enter func185,ntmps185;go_wp2_with fail;refine(HW.out _ _).mono ?_;rintro _ _⟨rfl,rfl⟩;go_wp2_with fail;refine bodyPost_ret (v:=φ #[I O (tX (a - b)),U true]) (by simp[results,results185,go_sem]) rfl ?_;exact⟨_,_,rfl,by rw[E.out];exact⟨rfl,rfl⟩,rfl⟩
 ·simp only[bo]
  have E:Hid (Sp.work 2 a b=Y (tX (a*b))):=rfl;go_enter func185,ntmps185;go_wp2_with fail;refine(HW.out _ _).mono ?_;rintro _ _⟨rfl,rfl⟩;go_wp2_with fail;refine bodyPost_ret (v:=φ #[I O (tX (a*b)),U true]) (by simp[results,results185,go_sem]) rfl ?_;exact⟨_,_,rfl,by rw[E.out];exact⟨rfl,rfl⟩,rfl⟩
 ·simp only[bo]
  by_cases hb:b=0
  ·have E:Hid (Sp.work 3 a b=M):=by unfold Hid Sp.work;simp[hb]
   subst hb;go_enter func185,ntmps185;go_wp2_with fail;try simp only[Exit.inBlock,Exit.then]
   refine bodyPost_ret (v:=φ #[I O 0,U false]) (by simp[results,results185,go_sem]) rfl ?_;exact⟨_,_,rfl,by rw[E.out];exact rfl,rfl⟩
  ·have E:Hid (Sp.work 3 a b=Y (tX (a.tdiv b))):=by unfold Hid Sp.work;simp[hb]
   have t1:(a.tdiv b).natAbs<=65535:=by rw[Int.natAbs_tdiv];exact Nat.le_trans (Nat.div_le_self a.natAbs b.natAbs) (by omega)
   have Kp:IntKind.i64.wrap (a.tdiv b)=a.tdiv b:=by rw[IntWalk.i64_in]<;>omega
   go_enter func185,ntmps185;go_wp2_with fail;refine(HW.out _ _).mono ?_;rintro _ _⟨rfl,rfl⟩;go_wp2_with fail;refine bodyPost_ret (v:=φ #[I O (tX (a.tdiv b)),U true]) (by simp[results,results185,go_sem]) rfl ?_;exact⟨_,_,rfl,by rw[E.out];exact⟨rfl,rfl⟩,rfl⟩
 ·simp only[bo]
  by_cases hb:b=0
  ·have E:Hid (Sp.work 4 a b=M):=by unfold Hid Sp.work;simp[hb]
   subst hb;go_enter func185,ntmps185;go_wp2_with fail;try simp only[Exit.inBlock,Exit.then]
   refine bodyPost_ret (v:=φ #[I O 0,U false]) (by simp[results,results185,go_sem]) rfl ?_;exact⟨_,_,rfl,by rw[E.out];exact rfl,rfl⟩
  ·have E:Hid (Sp.work 4 a b=Y (a.tmod b)):=by unfold Hid Sp.work;simp[hb]
   have t1:(a.tmod b).natAbs<=65535:=by rw[Int.natAbs_tmod];exact Nat.le_trans (Nat.mod_le a.natAbs b.natAbs) (by omega)
   have Kp:IntKind.i64.wrap (a.tmod b)=a.tmod b:=by rw[IntWalk.i64_in]<;>omega
   go_enter func185,ntmps185;go_wp2_with fail;refine bodyPost_ret (v:=φ #[I O (a.tmod b),U true]) (by simp[results,results185,go_sem]) rfl ?_;exact⟨_,_,rfl,by rw[E.out];exact⟨rfl,rfl⟩,rfl⟩
def Vc(a b:Int)(ok:Bool):Option Sp.Cg->Prop
 | some v=>a=(v.m:Int)/\b=v.r/\ok=true
 | none=>ok=false
structure rN(w:Wd)(ι r N s:Int)(W:Wd):Prop where
 x:W.heap[w.heap.size]?=Y (L #[I O ι,I O r] 191)
 y:W.heap[w.heap.size+1]?=Y (L #[I O N,I O s] 191)
 z:W.heap[w.heap.size+1+1]?=Y (L #[I O 0,I O 0] 191)
 b:ω w W
theorem rN.call(h:rN w ι r N s W)(k:ω W W'):rN w ι r N s W' :=
 ⟨(k.block _ (ad h.x)).trans h.x,(k.block _ (ad h.y)).trans h.y,(k.block _ (ad h.z)).trans h.z,h.b.trans (k.mono h.b.size)⟩
theorem rN.FA(h:rN w ι r N s W)(u v:Value):ω w ((W.setCell ⟨w.heap.size+1+1,0,M⟩ u).setCell ⟨w.heap.size+1+1,1,M⟩ v) :=
 (h.b.setCell (p:=⟨w.heap.size+1+1,0,M⟩) (by show w.heap.size<=w.heap.size+1+1;omega) _).setCell (p:=⟨w.heap.size+1+1,1,M⟩) (by show w.heap.size<=w.heap.size+1+1;omega) _
theorem Hn(w:Wd)(ι r N s:Int):rN w ι r N s (((w.alloc (L #[I O ι,I O r] 191)).alloc (L #[I O N,I O s] 191)).alloc (L #[I O 0,I O 0] 191)):=by obtain⟨a,b,c,d⟩:=cH (w:=w) (o1:=L #[I O ι,I O r] 191) (o2:=L #[I O N,I O s] 191) (o3:=L #[I O 0,I O 0] 191) (Below.refl _ _);exact⟨a,b,c,d⟩
theorem Nr{k:Nat}(h:x.m=0/\y.m=0){ok:Bool}(q:Zk n ok (Sp.work k x.r y.r)):Vc 0 n ok (bt k x y):=by
 unfold bt;rw[if_pos h];cases e:Sp.work k x.r y.r with
 | none=>rw[e]at q;exact q
 | some z=>rw[e]at q;exact⟨rfl,q.1,q.2⟩
theorem PZ(k:Nat)(hk:k<5)(hx:cr x)(hy:cr y)(w:Wd) :
  Calls prog 146 #[J #[I O (x.m:Nat),I O x.r],χ ⟨(bo k).toArray⟩,J #[I O (y.m:Nat),I O y.r]] w fun e w'=>∃a b ok,e=υ (φ #[J #[I O a,I O b],U ok])/\Vc a b ok (bt k x y)/\ω w w':=by
 obtain⟨b0,b1,b2,b3⟩:=sM hx;obtain⟨d0,d1,d2,d3⟩:=sM hy;by_cases h0:x.m=0/\y.m=0
 ·have HP:Hid (∀W:Wd,_):=EL k hk x.r y.r b2 b3 d2 d3
  have HE:Hid (∀n ok,Zk n ok (Sp.work k x.r y.r)->Vc 0 n ok (bt k x y)):=fun n ok q=>Nr h0 q
  rw[h0.1,h0.2];clear h0 hx hy b0 b1 d0 d1;generalize bt k x y=t at *;generalize Sp.work k x.r y.r=u at *;generalize x.r=r at *;generalize y.r=s at *;obtain⟨sg,oy⟩:∃sg:ByteArray,sg=⟨(bo k).toArray⟩:=⟨_,rfl⟩;rw[<-oy]at HP ⊢;clear oy;go_enter func146,ntmps146;go_wp2_with fail;refine(HP.out _).mono ?_;rintro _ _⟨n,ok,rfl,q,rfl⟩;have HQ:Hid (Vc 0 n ok t):=HE.out n ok q;clear q HP HE;go_wp2_with fail;try simp only[Exit.inBlock,Exit.then]
  refine bodyPost_ret (v:=φ #[J #[I O 0,I O n],U ok]) (by simp[results,results146,go_sem]) rfl ?_;exact⟨_,_,_,rfl,HQ.out,by go_grown⟩
 have hm:(¬ ((x.m:Nat):Int)=0)∨(((x.m:Nat):Int)=0/\¬ ((y.m:Nat):Int)=0):=by omega
 by_cases hd:3<=k/\y.m=0/\y.r=0
 ·have E:Hid (bt k x y=M):=by unfold Hid bt;rw[if_neg h0,if_pos hd]
  rw[hd.2.1,hd.2.2];have hc:k=3∨k=4:=by omega
  have uS:¬ ((x.m:Nat):Int)=0:=by omega
  clear hm hx hy h0 hd;generalize ((x.m:Nat):Int)=ι at *;generalize x.r=r at *
  rcases hc with rfl | rfl
  all_goals
   simp only[bo];go_enter func146,ntmps146;go_wp2_with fail;try simp only[Exit.inBlock,Exit.then]
   refine bodyPost_ret (v:=φ #[J #[I O 0,I O 0],U false]) (by simp[results,results146,go_sem]) rfl ?_;exact⟨_,_,_,rfl,by rw[E.out];exact rfl,by go_grown⟩
 have g1:Hid (∀W:Wd,_):=sH (x.m:Int) (y.m:Int) (ha:=by omega) (hb:=by omega);have hl:=sA (a:=x.m) (b:=y.m) (n:=65536) (by omega) (by omega);simp only[Int.natAbs_natCast]at g1;have yI:0<Nat.gcd x.m y.m:=by
  rcases Nat.eq_zero_or_pos (Nat.gcd x.m y.m) with h | h
  ·exact absurd (Nat.gcd_eq_zero_iff.1 h) h0
  ·exact h
 have EW:Hid (bt k x y=if k=0 then Y (dL (Nat.gcd x.m y.m) (x.r+y.r)) else if k=1 then Y (dL (Nat.gcd x.m y.m) (x.r - y.r)) else if k=2 then(if(x.m=0/\x.r=0)∨(y.m=0/\y.r=0) then Y ⟨0,0⟩ else Y (dL (Nat.gcd (Nat.gcd (x.m*y.m) ((x.m:Int)*y.r).natAbs) ((y.m:Int)*x.r).natAbs) (x.r*y.r))) else if k=3 then Y Ah else Y (jX (Nat.gcd (Nat.gcd x.m y.m) y.r.natAbs) x.r)):=by
  unfold Hid
  conv=>lhs;unfold bt
  rw[if_neg h0,if_neg hd]
 have HT:Hid (∀W:Wd,_):=ML hx hy h0;obtain⟨G,hG⟩:∃G,G=Nat.gcd x.m y.m:=⟨_,rfl⟩;rw[<-hG]at g1 hl yI EW;have Qc:Hid (∀(v:Int) (W:Wd),_):=fun v=>Es G v yI (by omega)
 have g2:Hid (∀W:Wd,_):=sH (G:Int) y.r (ha:=by omega) (hb:=by omega);have BF:=sA (a:=G) (b:=y.r.natAbs) (n:=65536) (by omega) (by omega);simp only[Int.natAbs_natCast]at g2;have Q8:0<Nat.gcd G y.r.natAbs:=Nat.gcd_pos_of_pos_left _ yI;obtain⟨H,hH⟩:∃H,H=Nat.gcd G y.r.natAbs:=⟨_,rfl⟩;rw[<-hH]at g2 BF Q8 EW;have g3:Hid (∀W:Wd,_):=mh x.r (H:Int) (by omega) (by omega);have Rn:k<3∨((k=3∨k=4)/\((¬ ((y.m:Nat):Int)=0)∨((y.m:Nat):Int)=0/\¬ y.r=0)):=by omega
 have Z9:((G:Nat):Int)<=65536:=by omega
 generalize Uu:bt k x y=cw at *;have UI:=hid Uu;clear hG hH hl BF hx hy h0 hd yI Q8 Uu;generalize hMx:((x.m:Nat):Int)=ι at *;generalize hNy:((y.m:Nat):Int)=N at *;generalize x.r=r at *;generalize y.r=s at *;obtain⟨sg,oy⟩:∃sg:ByteArray,sg=⟨(bo k).toArray⟩:=⟨_,rfl⟩;rw[<-oy];have Gn:=hid oy;clear oy;have Uo:=Hn w ι r N s;go_enter func146,ntmps146;go_upto_region 1 with fail;generalize (((w.alloc (L #[I O ι,I O r] 191)).alloc (L #[I O N,I O s] 191)).alloc (L #[I O 0,I O 0] 191))=V at *
 have HC:Hid (rN w ι r N s V):=Uo;have x0:=cell_of Uo.x 0 (v:=I O ι) rfl;have x1:=cell_of Uo.x 1 (v:=I O r) rfl;have y0:=cell_of Uo.y 0 (v:=I O N) rfl;have y1:=cell_of Uo.y 1 (v:=I O s) rfl;clear Uo
 go_cut [22] from 15 to 21 (fun v22 wc=>v22=U false/\V=wc)
 case first =>
  clear g1 g2 g3 Qc HT EW
  rcases hm with q1 | ⟨q1,q2⟩
  all_goals
   try subst q1
   go_wp2_with fail;go_meet;exact⟨by first | rfl | simp_all,rfl⟩
 case rest =>
  obtain⟨rfl,rfl⟩:=hcut;go_upto_region 4 with fail
  go_cut [50] from 35 to 49 (fun v50 wc=>v50=U false/\V=wc)
  case first =>
   clear g1 g2 g3 Qc HT EW;have hkk:k=0∨k=1∨k=2∨k=3∨k=4:=by omega
   rcases hkk with rfl | rfl | rfl | rfl | rfl
   all_goals
    have oy:=Gn.out;simp only[bo]at oy;subst oy
    rcases Rn with q1 | ⟨_,q1 | ⟨q1,q2⟩⟩
    all_goals first
     | (exfalso;omega)
     | (clear Gn;try subst q1
        go_wp2_with fail;go_meet;exact⟨by first | rfl | simp_all,rfl⟩)
  case rest =>
   obtain⟨rfl,rfl⟩:=hcut;clear hm Rn;go_wp2_with fail;refine(g1.out _).mono ?_;rintro _ w1⟨rfl,h1⟩;rw[h1];clear h1 w1;have hkk:k=0∨k=1∨k=2∨k=3∨k=4:=by omega
   obtain⟨z0,z1,yV,yO,mq⟩:=aR HC.z;have MQ:=hid mq;clear mq g1
   rcases hkk with rfl | rfl | rfl | rfl | rfl
   ·have E:=hid EW.out
    have hg:Hid (∀W:Wd,_):=Qc.out (r+s);generalize dL G (r+s)=t at *;have oy:=Gn.out;simp only[bo]at oy;subst oy;clear EW UI Qc g2 g3 HT z0 z1 yV yO;go_wp2_with fail;refine(hg.out _).mono ?_;rintro _ w1⟨rfl,k1⟩;have C1:Hid (rN w ι r N s (w1.alloc (L #[I O (t.m:Nat),I O t.r] 191))):=(HC.call k1).call (below_alloc1 _ _);have ov:=heap_alloc_new w1 (L #[I O (t.m:Nat),I O t.r] 191);have n0:=cell_of ov 0 (v:=I O (t.m:Nat)) rfl;have n1:=cell_of ov 1 (v:=I O t.r) rfl;obtain⟨z0,z1,yV,yO,mq⟩:=aR C1.z;have MQ:=hid (mq (I O (t.m:Nat)) (I O t.r));clear mq ov k1 HC x0 x1 y0 y1;go_wp2_with fail;try simp only[Exit.inBlock,Exit.then]
    refine bodyPost_ret (v:=φ #[J #[I O (t.m:Nat),I O t.r],U true]) (by simp[results,results146,go_sem,MQ.1,MQ.2]) rfl ?_;rw[E.out];exact⟨_,_,_,rfl,⟨rfl,rfl,rfl⟩,C1.FA _ _⟩
   ·have E:=hid EW.out
    have hg:Hid (∀W:Wd,_):=Qc.out (r - s);generalize dL G (r - s)=t at *;have oy:=Gn.out;simp only[bo]at oy;subst oy;clear EW UI Qc g2 g3 HT z0 z1 yV yO;go_wp2_with fail;refine(hg.out _).mono ?_;rintro _ w1⟨rfl,k1⟩;have C1:Hid (rN w ι r N s (w1.alloc (L #[I O (t.m:Nat),I O t.r] 191))):=(HC.call k1).call (below_alloc1 _ _);have ov:=heap_alloc_new w1 (L #[I O (t.m:Nat),I O t.r] 191);have n0:=cell_of ov 0 (v:=I O (t.m:Nat)) rfl;have n1:=cell_of ov 1 (v:=I O t.r) rfl;obtain⟨z0,z1,yV,yO,mq⟩:=aR C1.z;have MQ:=hid (mq (I O (t.m:Nat)) (I O t.r));clear mq ov k1 HC x0 x1 y0 y1;go_wp2_with fail;try simp only[Exit.inBlock,Exit.then]
    refine bodyPost_ret (v:=φ #[J #[I O (t.m:Nat),I O t.r],U true]) (by simp[results,results146,go_sem,MQ.1,MQ.2]) rfl ?_;rw[E.out];exact⟨_,_,_,rfl,⟨rfl,rfl,rfl⟩,C1.FA _ _⟩
   ·have oy:=Gn.out
    simp only[bo]at oy;subst oy;clear EW Qc g2 g3 z0 z1 yV yO;go_wp2_with fail;refine(HT.out _).mono ?_;rintro _ w1⟨t,ht,rfl,k1⟩;have E:Hid (cw=Y t):=UI.symm.trans ht;have C1:Hid (rN w ι r N s (w1.alloc (L #[I O (t.m:Nat),I O t.r] 191))):=(HC.call k1).call (below_alloc1 _ _);have ov:=heap_alloc_new w1 (L #[I O (t.m:Nat),I O t.r] 191);have n0:=cell_of ov 0 (v:=I O (t.m:Nat)) rfl;have n1:=cell_of ov 1 (v:=I O t.r) rfl;obtain⟨z0,z1,yV,yO,mq⟩:=aR C1.z;have MQ:=hid (mq (I O (t.m:Nat)) (I O t.r));clear mq ov k1 HC x0 x1 y0 y1 ht UI HT;go_wp2_with fail;try simp only[Exit.inBlock,Exit.then]
    refine bodyPost_ret (v:=φ #[J #[I O (t.m:Nat),I O t.r],U true]) (by simp[results,results146,go_sem,MQ.1,MQ.2]) rfl ?_;rw[E.out];exact⟨_,_,_,rfl,⟨rfl,rfl,rfl⟩,C1.FA _ _⟩
   ·have E:=hid EW.out
    have oy:=Gn.out;simp only[bo]at oy;subst oy;have MQ:=hid (MQ.out (I O 1) (I O 0));clear EW UI Qc g2 g3 HT;go_wp2_with fail;try simp only[Exit.inBlock,Exit.then]
    refine bodyPost_ret (v:=φ #[J #[I O 1,I O 0],U true]) (by simp[results,results146,go_sem,MQ.1,MQ.2]) rfl ?_;rw[E.out];exact⟨_,_,_,rfl,⟨rfl,rfl,rfl⟩,HC.FA _ _⟩
   ·have E:Hid (cw=Y ⟨H,r % (H:Int)⟩):=(by exact EW.out)
    have oy:=Gn.out;simp only[bo]at oy;subst oy;generalize r % (H:Int)=z at *;have MQ:=hid (MQ.out (I O (H:Nat)) (I O z));clear EW UI Qc HT;go_wp2_with fail;refine(g2.out _).mono ?_;rintro _ w1⟨rfl,h1⟩;rw[h1];clear h1 w1;go_wp2_with fail;refine(g3.out _).mono ?_;rintro _ w1⟨rfl,h1⟩;rw[h1];clear h1 w1 g2 g3;go_wp2_with fail;try simp only[Exit.inBlock,Exit.then]
    refine bodyPost_ret (v:=φ #[J #[I O (H:Nat),I O z],U true]) (by simp[results,results146,go_sem,MQ.1,MQ.2]) rfl ?_;rw[E.out];exact⟨_,_,_,rfl,⟨rfl,rfl,rfl⟩,HC.FA _ _⟩
def U9(x y:Sp.Cg)(n found first:Int):Prop :=
 (found=0/\first=0/\∀k,-32768<=k->k<n->bI x y k=false)∨(found=1/\-32768<=first/\first<n/\bI x y first=true/\(∀k,-32768<=k->k<first->bI x y k=false)/\∀k,first<k->k<n->bI x y k=false)
theorem R1{found:Int}(h:U9 x y n found first)(hn:n=32768):(bf x y).isSome=decide (0<found)/\(bf x y).getD ⟨0,0⟩=⟨0,first⟩:=by
 subst hn;unfold bf
 rcases h with⟨rfl,rfl,h⟩ | ⟨rfl,h1,h2,h3,h4,h5⟩
 ·rw[oF (fun k a b=>h k a (by omega))]
  exact⟨rfl,rfl⟩
 ·rw[mj h1 (by omega) h3 h4]
  simp only;rw[oF (fun k a b=>h5 k (by omega) (by omega))];exact⟨rfl,rfl⟩
theorem S9(h:U9 x y n 1 first)(hn:n<=32767)(hb:bI x y n=true):first<n/\-32768<=first/\bf x y=Y ⟨(n - first).toNat,first % (n - first)⟩:=by
 unfold bf
 rcases h with⟨h,_⟩ | ⟨_,h1,h2,h3,h4,h5⟩
 ·cases h
 ·rw[mj h1 (by omega) h3 h4]
  simp only;rw[mj (n:=n) (by omega) (by omega) hb (fun k a b=>h5 k (by omega) b)];refine⟨h2,h1,?_⟩;show Y (jX (n - first).toNat first)=_;unfold jX;rw[Int.toNat_of_nonneg (by omega)]
theorem O4(hx:cr x)(hy:cr y)(w:Wd) :
  Calls prog 189 #[I O 1,J #[I O (x.m:Nat),I O x.r],J #[I O (y.m:Nat),I O y.r]] w fun e w'=>e=υ (φ #[J #[I O (((bf x y).getD ⟨0,0⟩).m:Nat),I O ((bf x y).getD ⟨0,0⟩).r],U (bf x y).isSome])/\ω w w':=by
 have HX:Hid (∀(n:Int) (_:-32768<=n) (_:n<=32767) (W:Wd),_):=Ge hx;have HY:Hid (∀(n:Int) (_:-32768<=n) (_:n<=32767) (W:Wd),_):=Ge hy;have H0:Hid (rN w (x.m:Int) x.r (y.m:Int) y.r _):=Hn w (x.m:Int) x.r (y.m:Int) y.r;generalize ((x.m:Nat):Int)=ι at *;generalize ((y.m:Nat):Int)=N at *;generalize x.r=r at *;generalize y.r=s at *;clear hx hy;go_enter func189,ntmps189;go_upto_region 7 with fail;generalize (((w.alloc (L #[I O ι,I O r] 191)).alloc (L #[I O N,I O s] 191)).alloc (L #[I O 0,I O 0] 191))=V at *
 go_wp2_with fail
 go_loopw [8,9,10] (fun v8 v9 v10 wr=>∃fo fi n:Int,v8=I O fo/\v9=I O fi/\v10=I O n/\-32768<=n/\n<=32768/\0<=fo/\fo<=1/\Hid (U9 x y n fo fi)/\Hid (rN w ι r N s wr)) (fun _ _ v10 _=>(32768 - intOf v10).toNat)
 case atStart=>exact⟨0,0,-32768,rfl,rfl,rfl,by decide,by decide,by decide,by decide,.inl ⟨rfl,rfl,fun k a b=>by omega⟩,H0⟩
 case round =>
  obtain⟨fo,fi,n,rfl,rfl,rfl,n1,n2,f1,f2,hI,hC⟩:=hrel;by_cases hn:n<=32767
  ·have uS:=cell_of hC.x 0 (v:=I O ι) rfl
   have lE:=cell_of hC.x 1 (v:=I O r) rfl;have hf2:fo<2:=by omega
   go_wp2_with fail;refine(HX.out n n1 hn _).mono ?_;rintro _ w1⟨rfl,k1⟩;have YZ:Hid (rN w ι r N s w1):=hC.call k1;clear hC uS lE k1;have UM:=cell_of YZ.y 0 (v:=I O N) rfl;have mM:=cell_of YZ.y 1 (v:=I O s) rfl;go_wp2_with fail;refine(HY.out n n1 hn _).mono ?_;rintro _ w2⟨rfl,k2⟩;have YU:Hid (rN w ι r N s w2):=YZ.call k2;clear YZ UM mM k2;have hB:Hid (bI x y n=(decide (bA x n) && decide (bA y n))):=rfl;generalize decide (bA x n)=p at *;generalize decide (bA y n)=q at *;by_cases hb:p=true/\q=true
   ·obtain⟨rfl,rfl⟩:=hb
    have QX:Hid (bI x y n=true):=hB;clear hB;by_cases hfo:fo=0
    ·subst hfo
     have hI':Hid (U9 x y (n+1) 1 n):=by
      rcases hI.out with⟨_,_,h⟩ | ⟨h,_⟩
      ·exact .inr ⟨rfl,n1,by omega,QX.out,h,fun k a b=>by omega⟩
      ·cases h
     clear hI QX;go_wp2_with fail;exact⟨⟨1,n,n+1,rfl,rfl,rfl,by omega,by omega,by decide,by decide,hI',YU⟩,by simp[intOf];omega⟩
    ·obtain rfl:fo=1:=by omega
     obtain⟨e1,e2,e3⟩:=S9 hI.out hn QX.out;have E3:=hid e3;have HM:Hid (∀W:Wd,_):=mh fi (n - fi) (by omega) (by omega);clear hI QX e3;go_wp2_with fail;refine(HM.out _).mono ?_;rintro _ _⟨rfl,rfl⟩;obtain⟨z0,z1,yV,yO,mq⟩:=aR YU.z;have MQ:=hid (mq (I O (n - fi)) (I O (fi % (n - fi))));clear mq HM;go_wp2_with fail;try simp only[Exit.inBlock,Exit.then]
     refine bodyPost_ret (v:=φ #[J #[I O (n - fi),I O (fi % (n - fi))],U true]) (by simp[results,results189,go_sem,MQ.1,MQ.2]) rfl ?_;rw[E3.out];refine⟨?_,YU.FA _ _⟩;simp only[Option.getD_some,Option.isSome_some];rw[Int.toNat_of_nonneg (by omega)]
   ·have QX:Hid (bI x y n=false):=by
     unfold Hid;rw[hB.out];cases p<;>cases q<;>simp_all
    have hI':Hid (U9 x y (n+1) fo fi):=by
     have ext:∀k,k<n+1->(k<n∨k=n):=fun k _=>by omega
     rcases hI.out with⟨a,b,h⟩ | ⟨a,b,c,d,e,h⟩
     ·exact .inl ⟨a,b,fun k u v=>by
       rcases ext k v with q | rfl
       ·exact h k u q
       ·exact QX.out⟩
     ·exact .inr ⟨a,b,by omega,d,e,fun k u v=>by
       rcases ext k v with q | rfl
       ·exact h k u q
       ·exact QX.out⟩
    have J9:p=false∨(p=true/\q=false):=by cases p<;>cases q<;>simp_all
    clear hI hB QX hb
    rcases J9 with rfl | ⟨rfl,rfl⟩
    all_goals
     go_wp2_with fail;exact⟨⟨fo,fi,n+1,rfl,rfl,rfl,by omega,by omega,f1,f2,hI',YU⟩,by simp[intOf];omega⟩
  ·obtain⟨e1,e2⟩:=R1 hI.out (by omega)
   have E1:=hid (And.intro e1 e2);obtain⟨z0,z1,yV,yO,mq⟩:=aR hC.z;have MQ:=hid (mq (I O 0) (I O fi));clear mq hI e1 e2;go_wp2_with fail;try simp only[Exit.inBlock,Exit.then]
   refine bodyPost_ret (v:=φ #[J #[I O 0,I O fi],U (decide (0<fo))]) (by simp[results,results189,go_sem,MQ.1,MQ.2]) rfl ?_;rw[E1.1,E1.2];exact⟨rfl,hC.FA _ _⟩
end
end Go.Proofs.YtiopfihjmkfdmaaGreatDoor
