import Derived.Test.YtiopfihjmkfdmabGreatDoorC20
import Derived.Test.YtiopfihjmkfdmabGreatDoorC17
import Derived.Deep.CutRange
namespace Go.Proofs.YtiopfihjmkfdmabGreatDoor
open Go.Value renaming int->I,agg->J,bool->U,tuple->φ,string->χ
open Go.IntKind renaming i64->O
open Go.Ending renaming returned->υ
open Go.Obj renaming cells->L
open Option renaming none->M,some->Y
open Go.Proofs.Tryz Sp
open Go.RowKit
set_option maxRecDepth 100000
set_option maxHeartbeats 16000000
section
variable{a b n ι r N s first:Int}
variable{x y:Sp.Cg}
variable{w W W':Wd}
theorem FJ(h:a=b):Ending.returned (I O a)=υ (I O b):=by rw[h]
theorem Qh(n:Int)(w:Wd)(h:n.natAbs<=17179869184) :
  Calls prog 174 #[I O n] w λe w'=>e=υ (I O (n.natAbs:Nat))/\w'=w:=by
 by_cases h0:n<0
 .go_enter func174,ntmps174
  go_wp2_with fail;go_ret;exact⟨FJ À,rfl⟩
 .go_enter func174,ntmps174
  go_wp2_with fail;go_ret;exact⟨FJ À,rfl⟩
theorem uh(a b:Int)(w:Wd)(ha:a.natAbs<=17179869184)(hb:b.natAbs<=17179869184) :
  Calls prog 137 #[I O a,I O b] w λe w'=>e=υ (I O (Nat.gcd a.natAbs b.natAbs:Nat))/\w'=w:=by
 obtain⟨g,hg⟩:∃g,Hid (g=Nat.gcd a.natAbs b.natAbs):=⟨_,rfl⟩;rw[<-hg.out];have HA:=Qh a w ha;have HB:=Qh b w hb;have rf:Hid (g=Nat.gcd (a.natAbs:Int).natAbs (b.natAbs:Int).natAbs):=by unfold Hid;rw[hg.out];simp
 obtain⟨x,hx⟩:∃x:Int,x=(a.natAbs:Int):=⟨_,rfl⟩;obtain⟨y,hy⟩:∃y:Int,y=(b.natAbs:Int):=⟨_,rfl⟩;have x0:0<=x:=À;have x1:x<=17179869184:=À;have y0:0<=y:=À;have y1:y<=17179869184:=À;rw[<-hx]at HA rf;rw[<-hy]at HB rf;clear hx hy ha hb hg;go_enter func137,ntmps137;go_wp2_with fail;refine HA.mono ?_;rintro _ w1⟨rfl,h1⟩;rw[h1];clear HA h1 w1;go_wp2_with fail;refine HB.mono ?_;rintro _ w1⟨rfl,h1⟩;rw[h1];clear HB h1 w1;go_wp2_with fail
 go_loopw [0,1] (λv0 v1 ws=>∃a b:Int,v0=I O a/\v1=I O b/\0<=a/\a<=17179869184/\0<=b/\b<=17179869184/\Hid (g=Nat.gcd a.natAbs b.natAbs)/\ws=w) (λ_ v1 _=>(intOf v1).natAbs)
 case atStart=>exact⟨x,y,rfl,rfl,x0,x1,y0,y1,rf,rfl⟩
 case round=>
  obtain⟨a,b,rfl,rfl,a0,a1,b0,b1,QG,rfl⟩:=hrel;by_cases Tj:b=0
  .subst Tj
   have IY:Hid (a=(g:Int)):=by unfold Hid;rw[QG.out];simp;omega
   go_wp2_with fail;go_ret;exact⟨FJ IY.out,rfl⟩
  .have hl:=yY a Tj
   have IY:Hid (g=Nat.gcd b.natAbs (a.tmod b).natAbs):=by unfold Hid;rw[QG.out,BE]
   have WH:0<=a.tmod b:=Int.tmod_nonneg b a0;have Nc:IntKind.i64.wrap (a.tmod b)=a.tmod b:=by rw[IntWalk.i64_in]<;>omega
   go_wp2_with fail;try go_region_with (fail)
   all_goals
    try go_wp2_with fail
    have hte:a%b=a.tmod b:=(Int.tmod_eq_emod_of_nonneg a0).symm;refine⟨⟨b,a.tmod b,rfl,?_,b0,b1,WH,À,IY,?_⟩,?_⟩
    .first|rfl|rw[hte]
    .first|rfl|trivial
    .first|exact hl|(rw[hte];exact hl)|(simp only[intOf];rw[hte];exact hl)
theorem GU(n:Int){k:Int}(hk:0<k):(n.tmod k=n%k/\0<=n.tmod k)∨(n.tmod k=n%k-k/\n.tmod k<0):=by
 have h:=Int.tmod_eq_emod (a:=n) (b:=k);have h0:=Int.emod_nonneg n (show k≠0 by omega);have h1:=Int.emod_lt_of_pos n hk;by_cases hc:0<=n∨k∣n
 .rw[Á hc]at h
  left;omega
 .rw[Â hc]at h
  have e:(k.natAbs:Int)=k:=À;right;omega
theorem mS(n k:Int)(hk:0<k)(kM:k<=17179869184)(w:Wd) :
  Calls prog 139 #[I O n,I O k] w λe w'=>e=υ (I O (n%k))/\w'=w:=by
 have hkz:k≠0:=À;have h0:=Int.emod_nonneg n hkz;have h5:=Int.emod_lt_of_pos n hk
 rcases GU n hk with⟨h1,h2⟩|⟨h1,h2⟩
 .have h3:¬n.tmod k<0:=À
  have Nc:IntKind.i64.wrap (n.tmod k)=n.tmod k:=by rw[IntWalk.i64_in]<;>omega
  have H1:Hid (n.tmod k=n%k):=h1;clear h1 h0 h5;go_enter func139,ntmps139;go_wp2_with fail;go_ret;exact⟨FJ H1.out,rfl⟩
 .have Nc:IntKind.i64.wrap (n.tmod k)=n.tmod k:=by rw[IntWalk.i64_in]<;>omega
  have Rb:IntKind.i64.wrap (n.tmod k+k)=n.tmod k+k:=by rw[IntWalk.i64_in]<;>omega
  have H1:Hid (n.tmod k+k=n%k):=by unfold Hid;omega
  clear h1 h0 h5;go_enter func139,ntmps139;go_wp2_with fail;go_ret;exact⟨FJ H1.out,rfl⟩
theorem S6{k p:Nat}(hk:0<k)(hp:∃i,p=2 ^ i)(h1:p∣k)(h2:p<=65536)(h:65536<=p∨¬(2*p)∣k):p=Nat.gcd k 65536:=by
 obtain⟨i,rfl⟩:=hp;have hi:i<=16:=by
  rcases æ 16 i with q|q
  .have:=Nat.pow_le_pow_right (show 0<2 by decide) q
   have e:2 ^ (16+1)=131072:=É;omega
  .exact q
 have d65:2 ^ i∣65536:=by rw[show(65536:Nat)=2 ^ 16 from rfl];exact Nat.pow_dvd_pow 2 hi
 have dg:2 ^ i∣Nat.gcd k 65536:=Nat.dvd_gcd h1 d65
 rcases h with h|h
 .have e:2 ^ i=65536:=À
  rw[e]at dg⊢;exact Nat.dvd_antisymm dg (Nat.gcd_dvd_right _ _)
 .obtain⟨m,rfl⟩:=h1
  have hm:m%2=1:=by
   rcases Nat.mod_two_eq_zero_or_one m with q|q
   .exfalso
    obtain⟨c,rfl⟩:=Nat.dvd_of_mod_eq_zero q;exact h ⟨c,by rw[Nat.mul_comm 2 (2 ^ i),Nat.mul_assoc]⟩
   .exact q
  have e:(65536:Nat)=2 ^ i*2 ^ (16-i):=by rw[<-Nat.pow_add,show i+(16-i)=16 by omega]
  have c:Nat.Coprime m (2 ^ (16-i)):=Nat.Coprime.pow_right _ (by unfold Nat.Coprime;rw[Nat.gcd_comm,Nat.gcd_rec,hm];decide);rw[e,Nat.gcd_mul_left,c,Nat.mul_one]
theorem Ht(k:Nat)(v:Int)(hk:0<k)(kM:k<=17179869184)(w:Wd) :
  Calls prog 132 #[I O (k:Nat),I O v] w λe w'=>e=υ (J #[I O ((dR k v).m:Nat),I O (dR k v).r])/\ω w w':=by
 have HK:=hid hk;have hki:((k:Nat):Int)<=17179869184:=À;obtain⟨K,hK⟩:∃K:Int,K=(k:Int):=⟨_,rfl⟩;have XM:=hid hK;rw[<-hK]at hki⊢;have hk0:0<K:=À;clear hk kM hK;go_enter func132,ntmps132;go_wp2_with fail
 go_loopw [5] (λv5 ws=>∃p:Int,v5=I O p/\0<p/\p<=65536/\Hid (∃i:Nat,p=((2 ^ i:Nat):Int))/\Hid (p∣K)/\ws=w.alloc (L #[I O 0,I O 0] 117)) (λv5 _=>65536-(intOf v5).toNat)
 case atStart=>exact⟨1,rfl,É,É,⟨0,rfl⟩,⟨K,À⟩,rfl⟩
 case round=>
  obtain⟨p,rfl,p0,p1,XQ,hpd,rfl⟩:=hrel;have p2:¬2*p=0:=À;have t0:0<=K%(2*p):=Int.emod_nonneg _ p2;have t1:K%(2*p)<2*p:=Int.emod_lt_of_pos _ À;have te:K.tmod (2*p)=K%(2*p):=Int.tmod_eq_emod_of_nonneg À;have TD:Hid (K%(2*p)=0↔2*p∣K):=by exact Int.dvd_iff_emod_eq_zero.symm
  have done:(65536<=p∨¬K%(2*p)=0)->Hid (p=((dR k v).m:Int)/\v%p=(dR k v).r):=λh=>by
   have e:p.toNat=Nat.gcd k 65536:=S6 HK.out (by obtain⟨i,hi⟩:=XQ.out;exact⟨i,À⟩) (by have:=hpd.out;rw[XM.out,show p=(p.toNat:Int) by omega]at this;exact Int.natCast_dvd_natCast.1 this) À (by
    rcases h with h|h
    .left;omega
    .right;intro hd;refine h (TD.2 ?_);rw[XM.out,show 2*p=((2*p.toNat:Nat):Int) by omega];exact Int.natCast_dvd_natCast.2 hd)
   have e2:p=((Nat.gcd k 65536:Nat):Int):=À;exact⟨e2,by rw[e2];rfl⟩
  by_cases c1:p<65536
  .by_cases c2:K%(2*p)=0
   .have N1:Hid (∃i:Nat,2*p=((2 ^ i:Nat):Int)):=by
     obtain⟨i,hi⟩:=XQ.out;exact⟨i+1,by rw[hi,Nat.pow_succ];omega⟩
    have N2:Hid (2*p∣K):=TD.1 c2;have N3:Hid (2*p<=65536):=by
     obtain⟨i,hi⟩:=XQ.out;have:i<16:=by
      rcases æ i 16 with h|h
      .exact h
      .have:=Nat.pow_le_pow_right (show 0<2 by decide) h
       have e:2 ^ 16=65536:=rfl;omega
     have:=Nat.pow_le_pow_right (show 0<2 by decide) this;have e:2 ^ (i+1)=2 ^ i*2:=Nat.pow_succ ..;have e:2 ^ 16=65536:=rfl;show 2*p<=65536;rw[Nat.succ_eq_add_one]at this;omega
    clear done TD XQ hpd;go_wp2_with fail;exact⟨⟨2*p,rfl,À,N3.out,N1,N2,by first|rfl|trivial⟩,by have:=N3.out;simp[intOf];omega⟩
   .have HD:=done (.inr c2)
    have HM:=mS v p p0 À;clear done TD XQ hpd;go_wp2_with fail;refine(HM _).mono ?_;rintro _ _⟨rfl,rfl⟩;rw[HD.2];clear HM;go_wp2_with fail;go_returns;exact⟨by rw[HD.1],by go_grown⟩
  .have HD:=done (.inl À)
   have HM:=mS v p p0 À;clear done TD XQ hpd;go_wp2_with fail;refine(HM _).mono ?_;rintro _ _⟨rfl,rfl⟩;rw[HD.2];clear HM;go_wp2_with fail;go_returns;exact⟨by rw[HD.1],by go_grown⟩
theorem SF(n:Int)(w:Wd) :
  Calls prog 92 #[I O 1,I O n] w λe w'=>e=υ (J #[I O 0,I O n])/\ω w w':=by
 go_enter func92,ntmps92;go_wp2_with fail;go_returns;exact⟨rfl,by go_grown⟩
theorem Ns(w:Wd) :
  Calls prog 60 #[I O 1] w λe w'=>e=υ (J #[I O 1,I O 0])/\ω w w':=by
 go_enter func60,ntmps60;go_wp2_with fail;go_returns;exact⟨rfl,by go_grown⟩
theorem uX(h:cV x):(x.m:Int)<=65536/\-32768<=x.r/\x.r<=65535:=by rcases h with⟨h1,h2,h3⟩|⟨h1,h2,h3,h4⟩<;>omega
theorem PS(x:Sp.Cg)(n:Int):decide ((n-x.r).tmod x.m=0)=decide (bF x n):=by refine decide_eq_decide.2 ?_;rw[Sp.mem_iff];exact⟨λh=>Int.dvd_of_tmod_eq_zero h,λh=>Int.tmod_eq_zero_of_dvd h⟩
theorem GZ(h:cV x)(n:Int)(h1:-32768<=n)(h2:n<=32767)(w:Wd) :
  Calls prog 94 #[J #[I O (x.m:Nat),I O x.r],I O 1,I O n] w λe w'=>e=υ (U (decide (bF x n)))/\ω w w':=by
 obtain⟨b1,b2,b3⟩:=uX h;by_cases hm:x.m=0
 .have δ:Hid (decide (bF x n)=decide (n=x.r)):=by unfold Hid;rw[decide_eq_decide];unfold bF;rw[Á hm]
  rw[hm];generalize x.r=r at*;go_enter func94,ntmps94;go_wp2_with fail;go_returns;exact⟨by rw[δ.out];rfl,by go_grown⟩
 .have δ:Hid (decide ((n-x.r).tmod x.m=0)=decide (bF x n)):=PS x n
  obtain⟨ι,hM⟩:∃ι:Int,ι=(x.m:Int):=⟨_,rfl⟩;rw[<-hM]at δ b1⊢;have m0:0<ι:=À;have m1:¬ι=0:=À;have t1:((n-x.r).tmod ι).natAbs<=100000:=by have:=Int.natAbs_tmod (n-x.r) ι;have h5:=Nat.mod_lt (n-x.r).natAbs (show 0<ι.natAbs by omega);omega
  generalize x.r=r at*;have Nc:IntKind.i64.wrap ((n-r).tmod ι)=(n-r).tmod ι:=by rw[IntWalk.i64_in]<;>omega
  clear hM h hm;go_enter func94,ntmps94;go_wp2_with fail;go_returns;exact⟨by rw[<-δ.out];rfl,by go_grown⟩
theorem P0(h:cV x)(w:Wd) :
  Calls prog 93 #[I O 1,J #[I O (x.m:Nat),I O x.r]] w λe w'=>e=υ (J #[I O ((jS x).m:Nat),I O (jS x).r])/\ω w w':=by
 obtain⟨b1,b2,b3⟩:=uX h;by_cases hm:x.m=0
 .have δ:Hid (jS x=⟨0,wh (-x.r)⟩):=by unfold Hid jS;rw[Á hm]
  rw[hm];have HW:=vz (-x.r);generalize wh (-x.r)=z at*;generalize x.r=r at*;go_enter func93,ntmps93;go_wp2_with fail;refine(HW _).mono ?_;rintro _ _⟨rfl,rfl⟩;clear HW;go_wp2_with fail;go_returns;exact⟨by rw[δ.out];rfl,by go_grown⟩
 .have δ:Hid (jS x=dR x.m (-x.r)):=by unfold Hid jS;rw[Â hm]
  have HW:Hid (∀w:Wd,_):=Ht x.m (-x.r) À À;rw[<-δ.out]at HW;obtain⟨ι,hM⟩:∃ι:Int,ι=(x.m:Int):=⟨_,rfl⟩;rw[<-hM]at b1 HW⊢;have m0:¬ι=0:=À;generalize x.r=r at*;generalize jS x=t at*;clear δ hM h hm;go_enter func93,ntmps93;go_wp2_with fail;refine(HW.out _).mono ?_;rintro _ w1⟨rfl,k1⟩;obtain⟨_,hz,bw⟩:=ft k1;obtain⟨c0,c1,f0,f1,mq⟩:=aI hz;have MQ:=hid (mq (I O (t.m:Nat)) (I O t.r));have BW:=hid bw;clear mq hz k1 bw HW;go_wp2_with fail;exact Ç (v:=J #[I O (t.m:Nat),I O t.r]) (by simp[results,results93,go_sem,MQ.1,MQ.2]) rfl ⟨rfl,(BW.setCell (p:=⟨w.heap.size+1,0,M⟩) (by show w.heap.size<=w.heap.size+1;omega) _).setCell (p:=⟨w.heap.size+1,1,M⟩) (by show w.heap.size<=w.heap.size+1;omega) _⟩
theorem uZ(h:cV x):(0:Int)<=(x.m:Int)/\(x.m:Int)<=65536/\-32768<=x.r/\x.r<=65535:=⟨Int.natCast_nonneg _,uX h⟩
theorem uz{a b n:Nat}(ha:a<=n)(hb:b<=n):Nat.gcd a b<=n:=by
 rcases Nat.eq_zero_or_pos a with rfl|h
 .rw[Nat.gcd_zero_left];exact hb
 .exact Nat.le_trans (Nat.gcd_le_left _ h) ha
theorem Ss(hx:cV x)(hy:cV y)(w:Wd) :
  Calls prog 99 #[I O 1,J #[I O (x.m:Nat),I O x.r],J #[I O (y.m:Nat),I O y.r]] w λe w'=>e=υ (J #[I O ((cD x y).m:Nat),I O (cD x y).r])/\ω w w':=by
 obtain⟨b0,b1,b2,b3⟩:=uZ hx;obtain⟨d0,d1,d2,d3⟩:=uZ hy;have g1:Hid (∀W:Wd,_):=uh (x.m:Int) (y.m:Int) (ha:=by omega) (hb:=by omega);have hl:=uz (a:=x.m) (b:=y.m) (n:=65536) À À;simp only[Int.natAbs_natCast]at g1;obtain⟨π,hG⟩:∃π,π=Nat.gcd x.m y.m:=⟨_,rfl⟩;rw[<-hG]at g1 hl;have g2:Hid (∀W:Wd,_):=uh (π:Int) (x.r-y.r) (ha:=by omega) (hb:=by omega);have Dz:=uz (a:=π) (b:=(x.r-y.r).natAbs) (n:=200000) À À;simp only[Int.natAbs_natCast]at g2;have δ:Hid (cD x y=if Nat.gcd π (x.r-y.r).natAbs=0 then x else kI (Nat.gcd π (x.r-y.r).natAbs) x.r):=by rw[hG];rfl
 obtain⟨H,hH⟩:∃H,H=Nat.gcd π (x.r-y.r).natAbs:=⟨_,rfl⟩;rw[<-hH]at g2 Dz δ;have hli:((π:Nat):Int)<=65536:=À;have abw:((H:Nat):Int)<=200000:=À;by_cases hz:H=0
 .have E2:Hid (cD x y=x):=by rw[δ.out,Á hz];rfl
  have Uv:((H:Nat):Int)=0:=À;rw[E2.out];clear δ E2 hG hH hl Dz hx hy;generalize ((x.m:Nat):Int)=ι at*;generalize ((y.m:Nat):Int)=N at*;generalize x.r=r at*;generalize y.r=s at*;go_enter func99,ntmps99;go_wp2_with fail;refine(g1.out _).mono ?_;rintro _ _⟨rfl,rfl⟩;go_wp2_with fail;refine(g2.out _).mono ?_;rintro _ _⟨rfl,rfl⟩;clear g1 g2;rw[Uv];go_wp2_with fail;go_returns;exact⟨rfl,by go_grown⟩
 .have E2:Hid (cD x y=⟨H,x.r%(H:Int)⟩):=by rw[δ.out,Â hz];rfl
  have Uv:¬((H:Nat):Int)=0:=À;have g3:Hid (∀W:Wd,_):=mS x.r (H:Int) À À;rw[E2.out];simp only;clear δ E2 hG hH hl Dz hx hy;generalize ((x.m:Nat):Int)=ι at*;generalize ((y.m:Nat):Int)=N at*;generalize x.r=r at*;generalize y.r=s at*;generalize r%(H:Int)=z at*;go_enter func99,ntmps99;go_wp2_with fail;refine(g1.out _).mono ?_;rintro _ _⟨rfl,rfl⟩;go_wp2_with fail;refine(g2.out _).mono ?_;rintro _ _⟨rfl,rfl⟩;go_wp2_with fail;refine(g3.out _).mono ?_;rintro _ _⟨rfl,rfl⟩;clear g1 g2 g3;go_wp2_with fail;go_returns;exact⟨rfl,by go_grown⟩
theorem yI(h1:-65536<=a)(h2:a<=65536)(h3:-65536<=b)(h4:b<=65536):-4294967296<=a*b/\a*b<=4294967296:=by
 have h5:(a*b).natAbs<=65536*65536:=by rw[Int.natAbs_mul];exact Nat.mul_le_mul À À
 omega
theorem Pc(hx:cV x)(hy:cV y)(h0:¬ (x.m=0/\y.m=0))(w:Wd) :
  Calls prog 138 #[J #[I O (x.m:Nat),I O x.r],J #[I O (y.m:Nat),I O y.r]] w λe w'=>∃v,dI 2 x y=Y v/\e=υ (J #[I O (v.m:Nat),I O v.r])/\ω w w':=by
 obtain⟨b0,b1,b2,b3⟩:=uZ hx;obtain⟨d0,d1,d2,d3⟩:=uZ hy;obtain⟨p1,p2⟩:=yI (a:=(x.m:Int)) (b:=(y.m:Int)) À À À À;obtain⟨p3,p4⟩:=yI (a:=(x.m:Int)) (b:=y.r) À À À À;obtain⟨p5,p6⟩:=yI (a:=(y.m:Int)) (b:=x.r) À À À À;obtain⟨p7,p8⟩:=yI (a:=x.r) (b:=y.r) À À À À;have EW:Hid (dI 2 x y=if(x.m=0/\x.r=0)∨(y.m=0/\y.r=0) then Y ⟨0,0⟩ else Y (dR (Nat.gcd (Nat.gcd (x.m*y.m) ((x.m:Int)*y.r).natAbs) ((y.m:Int)*x.r).natAbs) (x.r*y.r))):=by unfold Hid dI;rw[Â h0];rfl
 by_cases hz:(x.m=0/\x.r=0)∨(y.m=0/\y.r=0)
 .have E2:Hid (dI 2 x y=Y ⟨0,0⟩):=by rw[EW.out,Á hz];rfl
  have Uv:(((x.m:Nat):Int)=0/\x.r=0)∨((¬((x.m:Nat):Int)=0∨((x.m:Nat):Int)=0/\¬x.r=0)/\((y.m:Nat):Int)=0/\y.r=0):=À;clear EW hx hy h0 hz;generalize ((x.m:Nat):Int)=ι at*;generalize ((y.m:Nat):Int)=N at*;generalize x.r=r at*;generalize y.r=s at*
  rcases Uv with⟨rfl,rfl⟩|⟨q|⟨rfl,q⟩,rfl,rfl⟩
  all_goals
   go_enter func138,ntmps138;go_wp2_with fail;go_returns;exact⟨_,E2.out,rfl,by go_grown⟩
 .have g1:Hid (∀W:Wd,_):=uh ((x.m:Int)*(y.m:Int)) ((x.m:Int)*y.r) (ha:=by omega) (hb:=by omega)
  have hl:=uz (a:=((x.m:Int)*(y.m:Int)).natAbs) (b:=((x.m:Int)*y.r).natAbs) (n:=4294967296) À À;have E2:=EW.out;rw[Â hz,show x.m*y.m=((x.m:Int)*(y.m:Int)).natAbs by rw[Int.natAbs_mul];simp]at E2;obtain⟨π,hG⟩:∃π,π=Nat.gcd ((x.m:Int)*(y.m:Int)).natAbs ((x.m:Int)*y.r).natAbs:=⟨_,rfl⟩;rw[<-hG]at g1 hl E2;have g2:Hid (∀W:Wd,_):=uh (π:Int) ((y.m:Int)*x.r) (ha:=by omega) (hb:=by omega);have Dz:=uz (a:=π) (b:=((y.m:Int)*x.r).natAbs) (n:=4294967296) À À;simp only[Int.natAbs_natCast]at g2;have tR:0<Nat.gcd π ((y.m:Int)*x.r).natAbs:=by
   rcases Nat.eq_zero_or_pos (Nat.gcd π ((y.m:Int)*x.r).natAbs) with h|h
   .exfalso
    obtain⟨h1,h2⟩:=Nat.gcd_eq_zero_iff.1 h;rw[hG]at h1;obtain⟨h3,h4⟩:=Nat.gcd_eq_zero_iff.1 h1;have e1:=Int.mul_eq_zero.1 (Int.natAbs_eq_zero.1 h3);have e2:=Int.mul_eq_zero.1 (Int.natAbs_eq_zero.1 h4);have e3:=Int.mul_eq_zero.1 (Int.natAbs_eq_zero.1 h2);omega
   .exact h
  obtain⟨H,hH⟩:∃H,H=Nat.gcd π ((y.m:Int)*x.r).natAbs:=⟨_,rfl⟩;rw[<-hH]at g2 Dz E2 tR;have g3:Hid (∀W:Wd,_):=Ht H (x.r*y.r) tR À;have EV:=hid E2;generalize dR H (x.r*y.r)=t at*;have Uv:(¬((x.m:Nat):Int)=0∨((x.m:Nat):Int)=0/\¬x.r=0)/\(¬((y.m:Nat):Int)=0∨((y.m:Nat):Int)=0/\¬y.r=0):=À;clear EW hG hH hl Dz hx hy E2 hz tR h0;generalize ((x.m:Nat):Int)=ι at*;generalize ((y.m:Nat):Int)=N at*;generalize x.r=r at*;generalize y.r=s at*;go_enter func138,ntmps138;go_upto_region 1 with fail
  go_cut [23] from 6 to 22 (λv23 wc=>v23=U false/\((w.alloc (L #[I O ι,I O r] 117)).alloc (L #[I O N,I O s] 117)).alloc (L #[I O 0,I O 0] 117)=wc)
  case first=>
   clear g1 g2 g3
   rcases Uv with⟨q1|⟨q1,q2⟩,q3|⟨q3,q4⟩⟩
   all_goals
    try subst q1
    try subst q3
    go_wp2_with fail;go_meet;exact⟨by first|rfl|simp_all,rfl⟩
  case rest=>
   obtain⟨rfl,rfl⟩:=hcut;clear Uv;go_wp2_with fail;refine(g1.out _).mono ?_;rintro _ _⟨rfl,rfl⟩;go_wp2_with fail;refine(g2.out _).mono ?_;rintro _ _⟨rfl,rfl⟩;go_wp2_with fail;refine(g3.out _).mono ?_;rintro _ w1⟨rfl,k1⟩;obtain⟨_,_,hz,bw⟩:=bQ k1;obtain⟨c0,c1,f0,f1,mq⟩:=aI hz;have MQ:=hid (mq (I O (t.m:Nat)) (I O t.r));have BW:=hid bw;clear mq hz k1 bw g1 g2 g3;go_wp2_with fail;exact Ç (v:=J #[I O (t.m:Nat),I O t.r]) (by simp[results,results138,go_sem,MQ.1,MQ.2]) rfl ⟨t,EV.out,rfl,(BW.setCell (p:=⟨w.heap.size+1+1,0,M⟩) (by show w.heap.size<=w.heap.size+1+1;omega) _).setCell (p:=⟨w.heap.size+1+1,1,M⟩) (by show w.heap.size<=w.heap.size+1+1;omega) _⟩
def Ā(n:Int)(ok:Bool):Option Int->Prop
 |some z=>n=z/\ok=true
 |none=>ok=false
theorem GM(k:Nat)(hk:k<5)(a b:Int)(a1:-32768<=a)(a2:a<=65535)(b1:-32768<=b)(b2:b<=65535)(w:Wd) :
  Calls prog 136 #[I O a,χ ⟨(bB k).toArray⟩,I O b] w λe w'=>∃n ok,e=υ (φ #[I O n,U ok])/\Ā n ok (Sp.work k a b)/\w'=w:=by
 obtain⟨p1,p2⟩:=yI (a:=a) (b:=b) À À À À;have hc:k=0∨k=1∨k=2∨k=3∨k=4:=À;have HW:=hid vz
 rcases hc with rfl|rfl|rfl|rfl|rfl
 .simp only[bB]
  have δ:Hid (Sp.work 0 a b=Y (wh (a+b))):=rfl;go_enter func136,ntmps136;go_wp2_with fail;refine(HW.out _ _).mono ?_;rintro _ _⟨rfl,rfl⟩;go_wp2_with fail;refine Ç (v:=φ #[I O (wh (a+b)),U true]) (by simp[results,results136,go_sem]) rfl ?_;exact⟨_,_,rfl,by rw[δ.out];exact⟨rfl,rfl⟩,rfl⟩
 .simp only[bB]
  have δ:Hid (Sp.work 1 a b=Y (wh (a-b))):=rfl;go_enter func136,ntmps136;go_wp2_with fail;refine(HW.out _ _).mono ?_;rintro _ _⟨rfl,rfl⟩;go_wp2_with fail;refine Ç (v:=φ #[I O (wh (a-b)),U true]) (by simp[results,results136,go_sem]) rfl ?_;exact⟨_,_,rfl,by rw[δ.out];exact⟨rfl,rfl⟩,rfl⟩
 .simp only[bB]
  have δ:Hid (Sp.work 2 a b=Y (wh (a*b))):=rfl;go_enter func136,ntmps136;go_wp2_with fail;refine(HW.out _ _).mono ?_;rintro _ _⟨rfl,rfl⟩;go_wp2_with fail;refine Ç (v:=φ #[I O (wh (a*b)),U true]) (by simp[results,results136,go_sem]) rfl ?_;exact⟨_,_,rfl,by rw[δ.out];exact⟨rfl,rfl⟩,rfl⟩
 .simp only[bB]
  by_cases hb:b=0
  .have δ:Hid (Sp.work 3 a b=M):=by unfold Hid Sp.work;simp[hb]
   subst hb;go_enter func136,ntmps136;go_wp2_with fail;try simp only[Exit.inBlock,Exit.then]
   refine Ç (v:=φ #[I O 0,U false]) (by simp[results,results136,go_sem]) rfl ?_;exact⟨_,_,rfl,by rw[δ.out];exact rfl,rfl⟩
  .have δ:Hid (Sp.work 3 a b=Y (wh (a.tdiv b))):=by unfold Hid Sp.work;simp[hb]
   have t1:(a.tdiv b).natAbs<=65535:=by rw[Int.natAbs_tdiv];exact Nat.le_trans (Nat.div_le_self a.natAbs b.natAbs) À
   have Nc:IntKind.i64.wrap (a.tdiv b)=a.tdiv b:=by rw[IntWalk.i64_in]<;>omega
   go_enter func136,ntmps136;go_wp2_with fail;refine(HW.out _ _).mono ?_;rintro _ _⟨rfl,rfl⟩;go_wp2_with fail;refine Ç (v:=φ #[I O (wh (a.tdiv b)),U true]) (by simp[results,results136,go_sem]) rfl ?_;exact⟨_,_,rfl,by rw[δ.out];exact⟨rfl,rfl⟩,rfl⟩
 .simp only[bB]
  by_cases hb:b=0
  .have δ:Hid (Sp.work 4 a b=M):=by unfold Hid Sp.work;simp[hb]
   subst hb;go_enter func136,ntmps136;go_wp2_with fail;try simp only[Exit.inBlock,Exit.then]
   refine Ç (v:=φ #[I O 0,U false]) (by simp[results,results136,go_sem]) rfl ?_;exact⟨_,_,rfl,by rw[δ.out];exact rfl,rfl⟩
  .have δ:Hid (Sp.work 4 a b=Y (a.tmod b)):=by unfold Hid Sp.work;simp[hb]
   have t1:(a.tmod b).natAbs<=65535:=by rw[Int.natAbs_tmod];exact Nat.le_trans (Nat.mod_le a.natAbs b.natAbs) À
   have Nc:IntKind.i64.wrap (a.tmod b)=a.tmod b:=by rw[IntWalk.i64_in]<;>omega
   go_enter func136,ntmps136;go_wp2_with fail;refine Ç (v:=φ #[I O (a.tmod b),U true]) (by simp[results,results136,go_sem]) rfl ?_;exact⟨_,_,rfl,by rw[δ.out];exact⟨rfl,rfl⟩,rfl⟩
def Yt(a b:Int)(ok:Bool):Option Sp.Cg->Prop
 |some v=>a=(v.m:Int)/\b=v.r/\ok=true
 |none=>ok=false
structure sM(w:Wd)(ι r N s:Int)(W:Wd):Prop where
 x:W.heap[w.heap.size]?=Y (L #[I O ι,I O r] 117)
 y:W.heap[w.heap.size+1]?=Y (L #[I O N,I O s] 117)
 z:W.heap[w.heap.size+1+1]?=Y (L #[I O 0,I O 0] 117)
 b:ω w W
theorem sM.call(h:sM w ι r N s W)(k:ω W W'):sM w ι r N s W':=
 ⟨(k.block _ (ah h.x)).trans h.x,(k.block _ (ah h.y)).trans h.y,(k.block _ (ah h.z)).trans h.z,h.b.trans (k.mono h.b.size)⟩
theorem sM.Ir(h:sM w ι r N s W)(u v:Value):ω w ((W.setCell ⟨w.heap.size+1+1,0,M⟩ u).setCell ⟨w.heap.size+1+1,1,M⟩ v):=
 (h.b.setCell (p:=⟨w.heap.size+1+1,0,M⟩) (by show w.heap.size<=w.heap.size+1+1;omega) _).setCell (p:=⟨w.heap.size+1+1,1,M⟩) (by show w.heap.size<=w.heap.size+1+1;omega) _
theorem JW(w:Wd)(ι r N s:Int):sM w ι r N s (((w.alloc (L #[I O ι,I O r] 117)).alloc (L #[I O N,I O s] 117)).alloc (L #[I O 0,I O 0] 117)):=by obtain⟨a,b,c,d⟩:=bQ (w:=w) (o1:=L #[I O ι,I O r] 117) (o2:=L #[I O N,I O s] 117) (o3:=L #[I O 0,I O 0] 117) Å;exact⟨a,b,c,d⟩
theorem PI{k:Nat}(h:x.m=0/\y.m=0){ok:Bool}(q:Ā n ok (Sp.work k x.r y.r)):Yt 0 n ok (dI k x y):=by
 unfold dI;rw[Á h];cases e:Sp.work k x.r y.r with
 |none=>rw[e]at q;exact q
 |some z=>rw[e]at q;exact⟨rfl,q.1,q.2⟩
theorem RV(k:Nat)(hk:k<5)(hx:cV x)(hy:cV y)(w:Wd) :
  Calls prog 96 #[J #[I O (x.m:Nat),I O x.r],χ ⟨(bB k).toArray⟩,J #[I O (y.m:Nat),I O y.r]] w λe w'=>∃a b ok,e=υ (φ #[J #[I O a,I O b],U ok])/\Yt a b ok (dI k x y)/\ω w w':=by
 obtain⟨b0,b1,b2,b3⟩:=uZ hx;obtain⟨d0,d1,d2,d3⟩:=uZ hy;by_cases h0:x.m=0/\y.m=0
 .have HP:Hid (∀W:Wd,_):=GM k hk x.r y.r b2 b3 d2 d3
  have HE:Hid (∀n ok,Ā n ok (Sp.work k x.r y.r)->Yt 0 n ok (dI k x y)):=λn ok q=>PI h0 q
  rw[h0.1,h0.2];clear h0 hx hy b0 b1 d0 d1;generalize dI k x y=t at*;generalize Sp.work k x.r y.r=u at*;generalize x.r=r at*;generalize y.r=s at*;obtain⟨sg,pz⟩:∃sg:ByteArray,sg=⟨(bB k).toArray⟩:=⟨_,rfl⟩;rw[<-pz]at HP⊢;clear pz;go_enter func96,ntmps96;go_wp2_with fail;refine(HP.out _).mono ?_;rintro _ _⟨n,ok,rfl,q,rfl⟩;have HQ:Hid (Yt 0 n ok t):=HE.out n ok q;clear q HP HE;go_wp2_with fail;try simp only[Exit.inBlock,Exit.then]
  refine Ç (v:=φ #[J #[I O 0,I O n],U ok]) (by simp[results,results96,go_sem]) rfl ?_;exact⟨_,_,_,rfl,HQ.out,by go_grown⟩
 have hm:(¬((x.m:Nat):Int)=0)∨(((x.m:Nat):Int)=0/\¬((y.m:Nat):Int)=0):=À;by_cases hd:3<=k/\y.m=0/\y.r=0
 .have δ:Hid (dI k x y=M):=by unfold Hid dI;rw[Â h0,Á hd]
  rw[hd.2.1,hd.2.2];have hc:k=3∨k=4:=À;have xy:¬((x.m:Nat):Int)=0:=À;clear hm hx hy h0 hd;generalize ((x.m:Nat):Int)=ι at*;generalize x.r=r at*
  rcases hc with rfl|rfl
  all_goals
   simp only[bB];go_enter func96,ntmps96;go_wp2_with fail;try simp only[Exit.inBlock,Exit.then]
   refine Ç (v:=φ #[J #[I O 0,I O 0],U false]) (by simp[results,results96,go_sem]) rfl ?_;exact⟨_,_,_,rfl,by rw[δ.out];exact rfl,by go_grown⟩
 have g1:Hid (∀W:Wd,_):=uh (x.m:Int) (y.m:Int) (ha:=by omega) (hb:=by omega);have hl:=uz (a:=x.m) (b:=y.m) (n:=65536) À À;simp only[Int.natAbs_natCast]at g1;have tR:0<Nat.gcd x.m y.m:=by
  rcases Nat.eq_zero_or_pos (Nat.gcd x.m y.m) with h|h
  .exact absurd (Nat.gcd_eq_zero_iff.1 h) h0
  .exact h
 have EW:Hid (dI k x y=if k=0 then Y (dR (Nat.gcd x.m y.m) (x.r+y.r)) else if k=1 then Y (dR (Nat.gcd x.m y.m) (x.r-y.r)) else if k=2 then(if(x.m=0/\x.r=0)∨(y.m=0/\y.r=0) then Y ⟨0,0⟩ else Y (dR (Nat.gcd (Nat.gcd (x.m*y.m) ((x.m:Int)*y.r).natAbs) ((y.m:Int)*x.r).natAbs) (x.r*y.r))) else if k=3 then Y BV else Y (kI (Nat.gcd (Nat.gcd x.m y.m) y.r.natAbs) x.r)):=by
  unfold Hid
  conv=>lhs;unfold dI
  rw[Â h0,Â hd]
 have HT:Hid (∀W:Wd,_):=Pc hx hy h0;obtain⟨π,hG⟩:∃π,π=Nat.gcd x.m y.m:=⟨_,rfl⟩;rw[<-hG]at g1 hl tR EW;have Tp:Hid (∀(v:Int) (W:Wd),_):=λv=>Ht π v tR À
 have g2:Hid (∀W:Wd,_):=uh (π:Int) y.r (ha:=by omega) (hb:=by omega);have Dz:=uz (a:=π) (b:=y.r.natAbs) (n:=65536) À À;simp only[Int.natAbs_natCast]at g2;have UE:0<Nat.gcd π y.r.natAbs:=Nat.gcd_pos_of_pos_left _ tR;obtain⟨H,hH⟩:∃H,H=Nat.gcd π y.r.natAbs:=⟨_,rfl⟩;rw[<-hH]at g2 Dz UE EW;have g3:Hid (∀W:Wd,_):=mS x.r (H:Int) À À;have WK:k<3∨((k=3∨k=4)/\((¬((y.m:Nat):Int)=0)∨((y.m:Nat):Int)=0/\¬y.r=0)):=À;have hGi:((π:Nat):Int)<=65536:=À;generalize Yg:dI k x y=cw at*;have Yb:=hid Yg;clear hG hH hl Dz hx hy h0 hd tR UE Yg;generalize hMx:((x.m:Nat):Int)=ι at*;generalize hNy:((y.m:Nat):Int)=N at*;generalize x.r=r at*;generalize y.r=s at*;obtain⟨sg,pz⟩:∃sg:ByteArray,sg=⟨(bB k).toArray⟩:=⟨_,rfl⟩;rw[<-pz];have I6:=hid pz;clear pz;have Ya:=JW w ι r N s;go_enter func96,ntmps96;go_upto_region 1 with fail;generalize (((w.alloc (L #[I O ι,I O r] 117)).alloc (L #[I O N,I O s] 117)).alloc (L #[I O 0,I O 0] 117))=V at*;have HC:Hid (sM w ι r N s V):=Ya;have x0:=cell_of Ya.x 0 (v:=I O ι) rfl;have x1:=cell_of Ya.x 1 (v:=I O r) rfl;have y0:=cell_of Ya.y 0 (v:=I O N) rfl;have y1:=cell_of Ya.y 1 (v:=I O s) rfl;clear Ya
 go_cut [22] from 15 to 21 (λv22 wc=>v22=U false/\V=wc)
 case first=>
  clear g1 g2 g3 Tp HT EW
  rcases hm with q1|⟨q1,q2⟩
  all_goals
   try subst q1
   go_wp2_with fail;go_meet;exact⟨by first|rfl|simp_all,rfl⟩
 case rest=>
  obtain⟨rfl,rfl⟩:=hcut;go_upto_region 4 with fail
  go_cut [50] from 35 to 49 (λv50 wc=>v50=U false/\V=wc)
  case first=>
   clear g1 g2 g3 Tp HT EW;have DG:k=0∨k=1∨k=2∨k=3∨k=4:=À
   rcases DG with rfl|rfl|rfl|rfl|rfl
   all_goals
    have pz:=I6.out;simp only[bB]at pz;subst pz
    rcases WK with q1|⟨_,q1|⟨q1,q2⟩⟩
    all_goals first
     |(exfalso;omega)
     | (clear I6;try subst q1
        go_wp2_with fail;go_meet;exact⟨by first|rfl|simp_all,rfl⟩)
  case rest=>
   obtain⟨rfl,rfl⟩:=hcut;clear hm WK;go_wp2_with fail;refine(g1.out _).mono ?_;rintro _ w1⟨rfl,h1⟩;rw[h1];clear h1 w1;have DG:k=0∨k=1∨k=2∨k=3∨k=4:=À;obtain⟨z0,z1,xe,xo,mq⟩:=aI HC.z;have MQ:=hid mq;clear mq g1
   rcases DG with rfl|rfl|rfl|rfl|rfl
   .have δ:Hid (cw=Y (dR π (r+s))):=by exact EW.out
    have hg:Hid (∀W:Wd,_):=Tp.out (r+s);generalize dR π (r+s)=t at*;have pz:=I6.out;simp only[bB]at pz;subst pz;clear EW Yb Tp g2 g3 HT z0 z1 xe xo;go_wp2_with fail;refine(hg.out _).mono ?_;rintro _ w1⟨rfl,k1⟩;have C1:Hid (sM w ι r N s (w1.alloc (L #[I O (t.m:Nat),I O t.r] 117))):=(HC.call k1).call (below_alloc1 _ _);have lX:=heap_alloc_new w1 (L #[I O (t.m:Nat),I O t.r] 117);have n0:=cell_of lX 0 (v:=I O (t.m:Nat)) rfl;have n1:=cell_of lX 1 (v:=I O t.r) rfl;obtain⟨z0,z1,xe,xo,mq⟩:=aI C1.z;have MQ:=hid (mq (I O (t.m:Nat)) (I O t.r));clear mq lX k1 HC x0 x1 y0 y1;go_wp2_with fail;try simp only[Exit.inBlock,Exit.then]
    refine Ç (v:=φ #[J #[I O (t.m:Nat),I O t.r],U true]) (by simp[results,results96,go_sem,MQ.1,MQ.2]) rfl ?_;rw[δ.out];exact⟨_,_,_,rfl,⟨rfl,rfl,rfl⟩,C1.Ir _ _⟩
   .have δ:Hid (cw=Y (dR π (r-s))):=by exact EW.out
    have hg:Hid (∀W:Wd,_):=Tp.out (r-s);generalize dR π (r-s)=t at*;have pz:=I6.out;simp only[bB]at pz;subst pz;clear EW Yb Tp g2 g3 HT z0 z1 xe xo;go_wp2_with fail;refine(hg.out _).mono ?_;rintro _ w1⟨rfl,k1⟩;have C1:Hid (sM w ι r N s (w1.alloc (L #[I O (t.m:Nat),I O t.r] 117))):=(HC.call k1).call (below_alloc1 _ _);have lX:=heap_alloc_new w1 (L #[I O (t.m:Nat),I O t.r] 117);have n0:=cell_of lX 0 (v:=I O (t.m:Nat)) rfl;have n1:=cell_of lX 1 (v:=I O t.r) rfl;obtain⟨z0,z1,xe,xo,mq⟩:=aI C1.z;have MQ:=hid (mq (I O (t.m:Nat)) (I O t.r));clear mq lX k1 HC x0 x1 y0 y1;go_wp2_with fail;try simp only[Exit.inBlock,Exit.then]
    refine Ç (v:=φ #[J #[I O (t.m:Nat),I O t.r],U true]) (by simp[results,results96,go_sem,MQ.1,MQ.2]) rfl ?_;rw[δ.out];exact⟨_,_,_,rfl,⟨rfl,rfl,rfl⟩,C1.Ir _ _⟩
   .have pz:=I6.out
    simp only[bB]at pz;subst pz;clear EW Tp g2 g3 z0 z1 xe xo;go_wp2_with fail;refine(HT.out _).mono ?_;rintro _ w1⟨t,ht,rfl,k1⟩;have δ:Hid (cw=Y t):=Yb.symm.trans ht;have C1:Hid (sM w ι r N s (w1.alloc (L #[I O (t.m:Nat),I O t.r] 117))):=(HC.call k1).call (below_alloc1 _ _);have lX:=heap_alloc_new w1 (L #[I O (t.m:Nat),I O t.r] 117);have n0:=cell_of lX 0 (v:=I O (t.m:Nat)) rfl;have n1:=cell_of lX 1 (v:=I O t.r) rfl;obtain⟨z0,z1,xe,xo,mq⟩:=aI C1.z;have MQ:=hid (mq (I O (t.m:Nat)) (I O t.r));clear mq lX k1 HC x0 x1 y0 y1 ht Yb HT;go_wp2_with fail;try simp only[Exit.inBlock,Exit.then]
    refine Ç (v:=φ #[J #[I O (t.m:Nat),I O t.r],U true]) (by simp[results,results96,go_sem,MQ.1,MQ.2]) rfl ?_;rw[δ.out];exact⟨_,_,_,rfl,⟨rfl,rfl,rfl⟩,C1.Ir _ _⟩
   .have δ:Hid (cw=Y ⟨1,0⟩):=by exact EW.out
    have pz:=I6.out;simp only[bB]at pz;subst pz;have MQ:=hid (MQ.out (I O 1) (I O 0));clear EW Yb Tp g2 g3 HT;go_wp2_with fail;try simp only[Exit.inBlock,Exit.then]
    refine Ç (v:=φ #[J #[I O 1,I O 0],U true]) (by simp[results,results96,go_sem,MQ.1,MQ.2]) rfl ?_;rw[δ.out];exact⟨_,_,_,rfl,⟨rfl,rfl,rfl⟩,HC.Ir _ _⟩
   .have δ:Hid (cw=Y ⟨H,r%(H:Int)⟩):=by exact EW.out
    have pz:=I6.out;simp only[bB]at pz;subst pz;generalize r%(H:Int)=z at*;have MQ:=hid (MQ.out (I O (H:Nat)) (I O z));clear EW Yb Tp HT;go_wp2_with fail;refine(g2.out _).mono ?_;rintro _ w1⟨rfl,h1⟩;rw[h1];clear h1 w1;go_wp2_with fail;refine(g3.out _).mono ?_;rintro _ w1⟨rfl,h1⟩;rw[h1];clear h1 w1 g2 g3;go_wp2_with fail;try simp only[Exit.inBlock,Exit.then]
    refine Ç (v:=φ #[J #[I O (H:Nat),I O z],U true]) (by simp[results,results96,go_sem,MQ.1,MQ.2]) rfl ?_;rw[δ.out];exact⟨_,_,_,rfl,⟨rfl,rfl,rfl⟩,HC.Ir _ _⟩
def YH(x y:Sp.Cg)(n found first:Int):Prop:=
 (found=0/\first=0/\∀k,-32768<=k->k<n->bN x y k=false)∨(found=1/\-32768<=first/\first<n/\bN x y first=true/\(∀k,-32768<=k->k<first->bN x y k=false)/\∀k,first<k->k<n->bN x y k=false)
theorem UK{found:Int}(h:YH x y n found first)(hn:n=32768):(bu x y).isSome=decide (0<found)/\(bu x y).getD ⟨0,0⟩=⟨0,first⟩:=by
 subst hn;unfold bu
 rcases h with⟨rfl,rfl,h⟩|⟨rfl,h1,h2,h3,h4,h5⟩
 .rw[pI (λk a b=>h k a À)]
  exact⟨rfl,rfl⟩
 .rw[nF h1 À h3 h4]
  simp only;rw[pI (λk a b=>h5 k À À)];exact⟨rfl,rfl⟩
theorem VR(h:YH x y n 1 first)(hn:n<=32767)(hb:bN x y n=true):first<n/\-32768<=first/\bu x y=Y ⟨(n-first).toNat,first%(n-first)⟩:=by
 unfold bu
 rcases h with⟨h,_⟩|⟨_,h1,h2,h3,h4,h5⟩
 .cases h
 .rw[nF h1 À h3 h4]
  simp only;rw[nF (n:=n) À À hb (λk a b=>h5 k À b)];refine⟨h2,h1,?_⟩;show Y (kI (n-first).toNat first)=_;unfold kI;rw[Int.toNat_of_nonneg À]
theorem RL(hx:cV x)(hy:cV y)(w:Wd) :
  Calls prog 141 #[I O 1,J #[I O (x.m:Nat),I O x.r],J #[I O (y.m:Nat),I O y.r]] w λe w'=>e=υ (φ #[J #[I O (((bu x y).getD ⟨0,0⟩).m:Nat),I O ((bu x y).getD ⟨0,0⟩).r],U (bu x y).isSome])/\ω w w':=by
 have HX:Hid (∀(n:Int) (_:-32768<=n) (_:n<=32767) (W:Wd),_):=GZ hx;have HY:Hid (∀(n:Int) (_:-32768<=n) (_:n<=32767) (W:Wd),_):=GZ hy;have H0:Hid (sM w (x.m:Int) x.r (y.m:Int) y.r _):=JW w (x.m:Int) x.r (y.m:Int) y.r;generalize ((x.m:Nat):Int)=ι at*;generalize ((y.m:Nat):Int)=N at*;generalize x.r=r at*;generalize y.r=s at*;clear hx hy;go_enter func141,ntmps141;go_upto_region 7 with fail;generalize (((w.alloc (L #[I O ι,I O r] 117)).alloc (L #[I O N,I O s] 117)).alloc (L #[I O 0,I O 0] 117))=V at*;go_wp2_with fail
 go_loopw [8,9,10] (λv8 v9 v10 wr=>∃fo fi n:Int,v8=I O fo/\v9=I O fi/\v10=I O n/\-32768<=n/\n<=32768/\0<=fo/\fo<=1/\Hid (YH x y n fo fi)/\Hid (sM w ι r N s wr)) (λ_ _ v10 _=>(32768-intOf v10).toNat)
 case atStart=>exact⟨0,0,-32768,rfl,rfl,rfl,É,É,É,É,.inl ⟨rfl,rfl,λk a b=>À⟩,H0⟩
 case round=>
  obtain⟨fo,fi,n,rfl,rfl,rfl,n1,n2,f1,f2,hI,hC⟩:=hrel;by_cases hn:n<=32767
  .have xy:=cell_of hC.x 0 (v:=I O ι) rfl
   have tW:=cell_of hC.x 1 (v:=I O r) rfl;have hf2:fo<2:=À;go_wp2_with fail;refine(HX.out n n1 hn _).mono ?_;rintro _ w1⟨rfl,k1⟩;have hC1:Hid (sM w ι r N s w1):=hC.call k1;clear hC xy tW k1;have Yc:=cell_of hC1.y 0 (v:=I O N) rfl;have wG:=cell_of hC1.y 1 (v:=I O s) rfl;go_wp2_with fail;refine(HY.out n n1 hn _).mono ?_;rintro _ w2⟨rfl,k2⟩;have hC2:Hid (sM w ι r N s w2):=hC1.call k2;clear hC1 Yc wG k2;have hB:Hid (bN x y n=(decide (bF x n)&&decide (bF y n))):=rfl;generalize decide (bF x n)=p at*;generalize decide (bF y n)=q at*;by_cases hb:p=true/\q=true
   .obtain⟨rfl,rfl⟩:=hb
    have Uf:Hid (bN x y n=true):=hB;clear hB;by_cases hfo:fo=0
    .subst hfo
     have hI':Hid (YH x y (n+1) 1 n):=by
      rcases hI.out with⟨_,_,h⟩|⟨h,_⟩
      .exact .inr ⟨rfl,n1,À,Uf.out,h,λk a b=>À⟩
      .cases h
     clear hI Uf;go_wp2_with fail;exact⟨⟨1,n,n+1,rfl,rfl,rfl,À,À,É,É,hI',hC2⟩,by simp[intOf];omega⟩
    .obtain rfl:fo=1:=À
     obtain⟨e1,e2,e3⟩:=VR hI.out hn Uf.out;have E3:=hid e3;have HM:Hid (∀W:Wd,_):=mS fi (n-fi) À À;clear hI Uf e3;go_wp2_with fail;refine(HM.out _).mono ?_;rintro _ _⟨rfl,rfl⟩;obtain⟨z0,z1,xe,xo,mq⟩:=aI hC2.z;have MQ:=hid (mq (I O (n-fi)) (I O (fi%(n-fi))));clear mq HM;go_wp2_with fail;try simp only[Exit.inBlock,Exit.then]
     refine Ç (v:=φ #[J #[I O (n-fi),I O (fi%(n-fi))],U true]) (by simp[results,results141,go_sem,MQ.1,MQ.2]) rfl ?_;rw[E3.out];refine⟨?_,hC2.Ir _ _⟩;simp only[Option.getD_some,Option.isSome_some];rw[Int.toNat_of_nonneg À]
   .have Uf:Hid (bN x y n=false):=by
     unfold Hid;rw[hB.out];cases p<;>cases q<;>simp_all
    have hI':Hid (YH x y (n+1) fo fi):=by
     have ext:∀k,k<n+1->(k<n∨k=n):=λk _=>À
     rcases hI.out with⟨a,b,h⟩|⟨a,b,c,d,e,h⟩
     .exact .inl ⟨a,b,λk u v=>by
       rcases ext k v with q|rfl
       .exact h k u q
       .exact Uf.out⟩
     .exact .inr ⟨a,b,À,d,e,λk u v=>by
       rcases ext k v with q|rfl
       .exact h k u q
       .exact Uf.out⟩
    have BN:p=false∨(p=true/\q=false):=by cases p<;>cases q<;>simp_all
    clear hI hB Uf hb
    rcases BN with rfl|⟨rfl,rfl⟩
    all_goals
     go_wp2_with fail;exact⟨⟨fo,fi,n+1,rfl,rfl,rfl,À,À,f1,f2,hI',hC2⟩,by simp[intOf];omega⟩
  .obtain⟨e1,e2⟩:=UK hI.out À
   have E1:=hid (And.intro e1 e2);obtain⟨z0,z1,xe,xo,mq⟩:=aI hC.z;have MQ:=hid (mq (I O 0) (I O fi));clear mq hI e1 e2;go_wp2_with fail;try simp only[Exit.inBlock,Exit.then]
   refine Ç (v:=φ #[J #[I O 0,I O fi],U (decide (0<fo))]) (by simp[results,results141,go_sem,MQ.1,MQ.2]) rfl ?_;rw[E1.1,E1.2];exact⟨rfl,hC.Ir _ _⟩
end
end Go.Proofs.YtiopfihjmkfdmabGreatDoor
