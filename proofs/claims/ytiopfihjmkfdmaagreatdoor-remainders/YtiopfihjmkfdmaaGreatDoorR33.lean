import Derived.Test.YtiopfihjmkfdmaaGreatDoorR31
import Derived.Test.YtiopfihjmkfdmaaGreatDoorR32
namespace Go.Proofs.YtiopfihjmkfdmaaGreatDoor
open Go.Value renaming int→I,agg→J,bool→U,tuple→φ,pointer→ρ,slice→Z
open Go.IntKind renaming i64→O,i16→ψ
open Go.Obj renaming cells→L
open Go.Ending renaming returned→υ
open Option renaming none→M,some→Y
open Go.Proofs.Tryz Sp
open Go.RowKit
set_option maxRecDepth 100000
set_option maxHeartbeats 16000000
section
variable{w W W':Wd}
variable{kx ky r:Nat}
variable{a b c d:Int}
theorem yk(k:Nat)(hk:k<5)(a b:Int)(w:Wd)(ha:oh a)(hb:oh b) :
  Calls prog 305 #[J #[],I O (k:Nat),J #[I O 0,I O a],J #[I O 0,I O b]] w fun e w'=>e=υ (jG ((Sp.work k a b).map fun n=>⟨0,n⟩))/\ω w w':=by
 have HZ:oh (gK k a b):=by
  unfold gK;cases h:Sp.work k a b with
  | none=>exact⟨by decide,by decide⟩
  | some n=>exact GY ha h
 have E:Hid (υ (φ #[J #[I O 0,I O (gK k a b)],U (Sp.work k a b).isSome])=Ending.returned (jG ((Sp.work k a b).map fun n=>⟨0,n⟩))):=by unfold Hid gK;cases Sp.work k a b<;>rfl
 have HW:Hid (∀W:Wd,Calls prog 239 #[I O (k:Nat),I ψ a,I ψ b] W fun e w'=>e=υ (φ #[I ψ (gK k a b),U (Sp.work k a b).isSome])/\w'=W):=fun W=>EM k hk a b W
 obtain⟨z1,z2⟩:=HZ;have HN:Hid (∀W:Wd,Calls prog 301 #[J #[],I ψ (gK k a b)] W fun e w'=>e=υ (J #[I O 0,I O (gK k a b)])/\ω W w'):=fun W=>lV (gK k a b) W z1 z2
 have HA:Hid (∀(r:Int) (W:Wd),Calls prog 294 #[J #[I O 0,I O r]] W fun e w'=>e=υ (U true)/\ω W w'):=fun r W=>ch 0 r W
 generalize jG ((Sp.work k a b).map fun n=>⟨0,n⟩)=res at *;generalize gK k a b=z at *;generalize (Sp.work k a b).isSome=ok at *;obtain⟨a1,a2⟩:=ha;obtain⟨b1,b2⟩:=hb;have e1:IntKind.i16.wrap a=a:=by rw[IntWalk.i16_in]<;>omega
 have e2:IntKind.i16.wrap b=b:=by rw[IntWalk.i16_in]<;>omega
 clear a1 a2 b1 b2 z1 z2 hk;have qd:ek w (w.heap.size+1) (w.heap.size+1+1) (w.heap.size+1+1+1) 0 a 0 b ((((w.alloc (L #[] 128)).alloc (L #[I O 0,I O a] 126)).alloc (L #[I O 0,I O b] 126)).alloc (L #[I O 0,I O 0] 126)):=by obtain⟨h1,h2,h3,h4,hb⟩:=bB (w:=w) (o1:=L #[] 128) (o2:=L #[I O 0,I O a] 126) (o3:=L #[I O 0,I O b] 126) (o4:=L #[I O 0,I O 0] 126) (Below.refl _ _);exact⟨h2,h3,⟨_,_,h4⟩,hb⟩
 have h0:fM w w.heap.size (w.heap.size+1) (w.heap.size+1+1) (w.heap.size+1+1+1) 0 a 0 b ((((w.alloc (L #[] 128)).alloc (L #[I O 0,I O a] 126)).alloc (L #[I O 0,I O b] 126)).alloc (L #[I O 0,I O 0] 126)):=by obtain⟨h1,_⟩:=bB (w:=w) (o1:=L #[] 128) (o2:=L #[I O 0,I O a] 126) (o3:=L #[I O 0,I O b] 126) (o4:=L #[I O 0,I O 0] 126) (Below.refl _ _);exact⟨qd,h1⟩
 clear qd;go_enter func305,ntmps305;go_upto_region 1 with fail;generalize ((((w.alloc (L #[] 128)).alloc (L #[I O 0,I O a] 126)).alloc (L #[I O 0,I O b] 126)).alloc (L #[I O 0,I O 0] 126))=W at *
 obtain⟨kd,gC⟩:∃kd,kd=w.heap.size:=⟨_,rfl⟩;obtain⟨kx,hkx⟩:∃kx,kx=w.heap.size+1:=⟨_,rfl⟩;obtain⟨ky,hky⟩:∃ky,ky=w.heap.size+1+1:=⟨_,rfl⟩;obtain⟨kr,hkr⟩:∃kr,kr=w.heap.size+1+1+1:=⟨_,rfl⟩;have kM:kx≠kr:=by omega
 have gD:ky≠kr:=by omega
 have jA:w.heap.size<=kr:=by omega
 rw[<-hkr,<-hky,<-hkx,<-gC]at h0;rw[<-hkr,<-hky,<-hkx,<-gC];clear gC hkx hky hkr;obtain⟨x0,x1,y0,y1⟩:=h0.g.cells;go_wp2_with fail;refine(HA.out _ _).mono ?_;rintro e w1⟨rfl,b1⟩;have h1:=h0.call b1;clear x0 x1 y0 y1 b1 h0;obtain⟨x0,x1,y0,y1⟩:=h1.g.cells;go_wp2_with fail;refine(HA.out _ _).mono ?_;rintro e w2⟨rfl,b1⟩;have h2:=h1.call b1;clear x0 x1 y0 y1 b1 h1 HA;obtain⟨x0,x1,y0,y1⟩:=h2.g.cells;go_wp2_with fail;refine(HW.out _).mono ?_;rintro e w3⟨rfl,rfl⟩;have qo:=h2.o;clear x0 x1 y0 y1 HW;go_wp2_with fail;refine(HN.out _).mono ?_;rintro e w3⟨rfl,b1⟩;have HH:=h2.call b1;clear b1 h2 HN qo;obtain⟨u0,v0,hr⟩:=HH.g.r;obtain⟨m0,m1,nL,nK,_⟩:=aR hr;have MQ:=hid (HH.g.there (I O 0) (I O z));have BQ:Hid (ω w _):=(HH.g.put kM gD jA (I O 0) (I O z)).b;clear hr HH;go_wp2_with fail;exact bodyPost_ret (v:=φ #[J #[I O 0,I O z],U ok]) (by simp[results,results305,go_sem,MQ.1,MQ.2]) rfl ⟨E.out,BQ.out⟩
theorem DA(k:Nat)(hk:k<5)(x y:Sp.Cg)(w:Wd)(hx:cr x)(hy:cr y) :
  Calls prog 305 #[J #[],I O (k:Nat),J #[I O (x.m:Nat),I O x.r],J #[I O (y.m:Nat),I O y.r]] w fun e w'=>e=υ (jG (bt k x y))/\ω w w':=by
 by_cases hn:x.m=0/\y.m=0
 ·have Oq:oh x.r:=by
   rcases hx with h | h
   ·exact h.2
   ·omega
  have UP:oh y.r:=by
   rcases hy with h | h
   ·exact h.2
   ·omega
  have E:bt k x y=(Sp.work k x.r y.r).map fun n=>⟨0,n⟩:=by unfold bt;rw[if_pos hn]
  rw[E,hn.1,hn.2];exact yk k hk x.r y.r w Oq UP
 ·rcases(show k=0∨k=1∨k=2∨k=3∨k=4 from by omega) with rfl | rfl | rfl | rfl | rfl
  ·exact KL x y w hx hy hn
  ·exact LK x y w hx hy hn
  ·exact Lr x y w hx hy hn
  ·exact KU x y w hx hy hn
  ·exact LC x y w hx hy hn
theorem NB(x:Sp.Cg)(n:Int)(w:Wd)(hw:cr x) :
  Calls prog 313 #[J #[I O (x.m:Nat),I O x.r],I O n] w fun e w'=>e=υ (U (decide (bA x n)))/\ω w w':=by
 obtain⟨t,ht⟩:∃t,Hid (t=cG x.m n):=⟨_,rfl⟩;have HC:Hid (∀W:Wd,Calls prog 307 #[I O (x.m:Nat),I O n] W fun e w'=>e=υ (J #[I O (t.m:Nat),I O t.r])/\ω W w'):=fun W=>by rw[ht.out];exact oP x.m n W (by have:=Fz hw;omega)
 have HE:Hid (decide (((t.m:Nat):Int)=((x.m:Nat):Int)/\t.r=x.r)=decide (bA x n)):=by unfold Hid;have h:=GW hw n;rw[<-ht.out]at h;obtain⟨tm,tr⟩:=t;obtain⟨xm,xr⟩:=x;simp only[Sp.Cg.mk.injEq]at h;rw[Bool.eq_iff_iff,decide_eq_true_eq,decide_eq_true_eq,<-h];simp only;omega
 clear hw ht;have eT:∀w,(Op.equalIn 10000 126 (J #[I O (t.m:Nat),I O t.r]) (J #[I O (x.m:Nat),I O x.r])).run prog w=.ok (decide (((t.m:Nat):Int)=((x.m:Nat):Int)/\t.r=x.r)) w:=fun w=>by rw[On]
 rw[HE.out]at eT;clear HE;generalize decide (bA x n)=res at *;generalize x.r=b at *;generalize ((x.m:Nat):Int)=a at *;have h0:ek w w.heap.size w.heap.size w.heap.size a b a b (w.alloc (L #[I O a,I O b] 126)):=⟨heap_alloc_new _ _,heap_alloc_new _ _,⟨_,_,heap_alloc_new _ _⟩,below_alloc1 _ _⟩;go_enter func313,ntmps313;go_wp2_with fail;generalize w.alloc (L #[I O a,I O b] 126)=W at *;obtain⟨kx,hkx⟩:∃kx,kx=w.heap.size:=⟨_,rfl⟩;rw[<-hkx]at h0;rw[<-hkx];clear hkx;refine wp_region_held_drew (S:=fun w':Wd=>ek w kx kx kx a b a b w') (by kernel_rfl) (h0.call (Below.refl _ _).drew) (fun aa=>?_);generalize W.drew=V at *;refine tk 4 (J #[I O a,I O b]) rfl (fun w' h=>by have q:=h.cells.1;have q2:=h.cells.2.1;go_simp) aa ?_;refine tq 0 (ρ (Y ⟨kx,0,M⟩)) aa ?_;refine tk 1 (I O a) rfl (fun w' h=>by have q:=h.cells.1;go_simp) aa ?_;refine tq 2 (I O n) aa ?_;refine bD 3 fun K hK=>?_
 simp only[bp,fB];go_simp;refine(HC.out _).mono ?_;rintro e w1⟨rfl,b1⟩;replace aa:=aa.call b1;clear b1;go_wp2_with fail;refine hK.out _ _ aa (fun _=>?_);clear hK K;refine bD 5 fun K hK=>?_
 simp only[bp];go_simp;refine hK.out _ _ aa (fun _=>?_);clear hK K;refine bD 6 fun K hK=>?_
 simp only[bp];go_simp;refine hK.out _ _ aa (fun _=>?_);clear hK K;refine wpAnyH_done (by kernel_rfl) ?_ _;go_wp2_with fail;go_ret;exact⟨rfl,aa.b⟩
theorem Nl(x:Sp.Cg)(w:Wd)(h0:0<x.m)(h1:x.m<=65536)(h2:x.r.natAbs<=65536) :
  Calls prog 315 #[J #[I O (x.m:Nat),I O x.r]] w fun e w'=>e=υ (I O (cA x))/\ω w w':=by
 obtain⟨t,ht⟩:∃t,Hid (t=(x.r+32768) % ((x.m:Nat):Int)):=⟨_,rfl⟩;have t1:0<=t:=by rw[ht.out];exact Int.emod_nonneg _ (by omega)
 have t2:t<x.m:=by rw[ht.out];exact Int.emod_lt_of_pos _ (by omega)
 have HC:Hid (∀W:Wd,Calls prog 314 #[I O (x.r+32768),I O (x.m:Nat)] W fun e w'=>e=υ (I O t)/\w'=W):=fun W=>by rw[ht.out];exact GM (x.r+32768) (x.m:Nat) W (by omega) (by omega)
 have E:Hid (cA x=-32768+t):=by unfold Hid cA;rw[ht.out]
 have e1:x.r - -32768=x.r+32768:=by omega
 clear ht;go_enter func315,ntmps315;go_wp2_with fail;try simp only[e1]
 refine(HC.out _).mono ?_;rintro e w1⟨rfl,rfl⟩;go_wp2_with fail;go_ret;exact⟨by rw[E.out];rfl,below_alloc1 _ _⟩
theorem IF(n:Int)(ap:Nat)(w:Wd)(h1:-32768<=n)(h2:n<=32767)(h3:ap<=4294967296) :
  Calls prog 316 #[I O n,I O (ap:Nat)] w fun e w'=>e=υ (J #[I O ((if 32767<n+(ap:Nat) then⟨0,n⟩ else cG ap n:Sp.Cg).m:Nat),I O (if 32767<n+(ap:Nat) then⟨0,n⟩ else cG ap n:Sp.Cg).r])/\ω w w':=by
 by_cases hb:32767<n+(ap:Nat)
 ·rw[if_pos hb]
  go_enter func316,ntmps316;go_wp2_with fail;go_returns;exact⟨rfl,by go_grown⟩
 ·rw[if_neg hb]
  have HC:Hid (∀W:Wd,Calls prog 307 #[I O (ap:Nat),I O n] W fun e w'=>e=υ (J #[I O ((cG ap n).m:Nat),I O (cG ap n).r])/\ω W w'):=fun W=>oP ap n W (by omega)
  generalize cG ap n=t at *;go_enter func316,ntmps316;go_wp2_with fail;refine(HC.out _).mono ?_;rintro e w1⟨rfl,b1⟩;obtain⟨bw,hz⟩:=gO b1;obtain⟨m0,m1,nL,nK,mq⟩:=aR hz;have MQ:=hid (mq (I O (t.m:Nat)) (I O t.r));have BW:=hid bw;clear mq b1 bw hz HC;go_wp2_with fail;exact bodyPost_ret (v:=J #[I O (t.m:Nat),I O t.r]) (by simp[results,results316,go_sem,MQ.1,MQ.2]) rfl ⟨rfl,(BW.setCell (p:=⟨w.heap.size,0,M⟩) (Nat.le_refl _) _).setCell (p:=⟨w.heap.size,1,M⟩) (Nat.le_refl _) _⟩
theorem J0(x:Sp.Cg)(w:Wd)(hw:cr x) :
  Calls prog 300 #[J #[],J #[I O (x.m:Nat),I O x.r]] w fun e w'=>e=υ (J #[I O ((jl x).m:Nat),I O (jl x).r])/\ω w w':=by
 by_cases hm:x.m=0
 ·have hr:oh x.r:=by
   rcases hw with h | h
   ·exact h.2
   ·omega
  obtain⟨r1,r2⟩:=hr;have E:Hid (jl x=⟨0,tX (-x.r)⟩):=by unfold Hid jl;rw[if_pos hm]
  rw[E.out];have hz:=sK (-x.r);obtain⟨z,Ac⟩:∃z,Hid (z=tX (-x.r)):=⟨_,rfl⟩;rw[<-Ac.out]at hz ⊢;have e1:IntKind.i16.wrap (-x.r)=z:=Ac.symm;have HA:Hid (∀W:Wd,Calls prog 294 #[J #[I O (x.m:Nat),I O x.r]] W fun e w'=>e=υ (U true)/\ω W w'):=fun W=>by
   have:=ch x.m x.r W
   rwa [decide_eq_true hm]at this
  have HN:Hid (∀W:Wd,Calls prog 301 #[J #[],I ψ z] W fun e w'=>e=υ (J #[I O 0,I O z])/\ω W w'):=fun W=>lV z W hz.1 hz.2
  clear Ac E hw hm;go_enter func300,ntmps300;go_wp2_with fail;refine(HA.out _).mono ?_;rintro e w1⟨rfl,b1⟩;obtain⟨k1,k2,k3,bw⟩:=cH b1;have x0:=cell_of k2 0 (v:=I O (x.m:Nat)) rfl;have x1:=cell_of k2 1 (v:=I O x.r) rfl;have K1:=hid k1;have K3:=hid k3;have BW:=hid bw;clear b1 k1 k2 k3 bw HA;go_wp2_with fail;refine(HN.out _).mono ?_;rintro e w2⟨rfl,b2⟩;have gU:=(b2.block _ (ad K3.out)).trans K3.out;have B2:Hid (ω w w2):=BW.trans (b2.mono BW.size);obtain⟨m0,m1,nL,nK,mq⟩:=aR gU;have MQ:=hid (mq (I O 0) (I O z));clear mq gU b2 K3 BW x0 x1;go_wp2_with fail;exact bodyPost_ret (v:=J #[I O 0,I O z]) (by simp[results,results300,go_sem,MQ.1,MQ.2]) rfl ⟨rfl,(B2.setCell (p:=⟨w.heap.size+1+1,0,M⟩) (by show w.heap.size<=w.heap.size+1+1;omega) _).setCell (p:=⟨w.heap.size+1+1,1,M⟩) (by show w.heap.size<=w.heap.size+1+1;omega) _⟩
 ·have h5:1<=x.m/\x.m<=65536/\0<=x.r/\x.r<x.m:=by
   rcases hw with h | h
   ·omega
   ·exact h
  have E:Hid (jl x=dL x.m (-x.r)):=by unfold Hid jl;rw[if_neg hm]
  rw[E.out];have HA:Hid (∀W:Wd,Calls prog 294 #[J #[I O (x.m:Nat),I O x.r]] W fun e w'=>e=υ (U false)/\ω W w'):=fun W=>by
   have:=ch x.m x.r W
   rwa [decide_eq_false hm]at this
  have HN:Hid (∀W:Wd,Calls prog 309 #[I O (x.m:Nat),I O (-x.r)] W fun e w'=>e=υ (J #[I O ((dL x.m (-x.r)).m:Nat),I O (dL x.m (-x.r)).r])/\ω W w'):=fun W=>nm x.m (-x.r) W (by omega)
  generalize dL x.m (-x.r)=t at *;have e1:IntKind.i64.wrap (-x.r)=-x.r:=by rw[IntWalk.i64_in]<;>omega
  clear E hw;go_enter func300,ntmps300;go_wp2_with fail;refine(HA.out _).mono ?_;rintro e w1⟨rfl,b1⟩;obtain⟨k1,k2,k3,bw⟩:=cH b1;have x0:=cell_of k2 0 (v:=I O (x.m:Nat)) rfl;have x1:=cell_of k2 1 (v:=I O x.r) rfl;have K3:=hid k3;have BW:=hid bw;clear b1 k1 k2 k3 bw HA;go_wp2_with fail;refine(HN.out _).mono ?_;rintro e w2⟨rfl,b2⟩;have gU:=(b2.block _ (ad K3.out)).trans K3.out;have B2:Hid (ω w w2):=BW.trans (b2.mono BW.size);obtain⟨m0,m1,nL,nK,mq⟩:=aR gU;have MQ:=hid (mq (I O (t.m:Nat)) (I O t.r));clear mq gU b2 K3 BW x0 x1;go_wp2_with fail;exact bodyPost_ret (v:=J #[I O (t.m:Nat),I O t.r]) (by simp[results,results300,go_sem,MQ.1,MQ.2]) rfl ⟨rfl,(B2.setCell (p:=⟨w.heap.size+1+1,0,M⟩) (by show w.heap.size<=w.heap.size+1+1;omega) _).setCell (p:=⟨w.heap.size+1+1,1,M⟩) (by show w.heap.size<=w.heap.size+1+1;omega) _⟩
theorem xw(x y:Sp.Cg)(w:Wd)(hx:cr x)(hy:cr y)(uS:0<x.m)(UM:0<y.m) :
  Calls prog 312 #[J #[I O (x.m:Nat),I O x.r],J #[I O (y.m:Nat),I O y.r]] w fun e w'=>e=υ (jG (bf x y))/\ω w w':=by
 obtain⟨lE,jQ⟩:=dz hx;obtain⟨mM,o6⟩:=dz hy;obtain⟨gg,ou⟩:∃gg,Hid (gg=Nat.gcd x.m y.m):=⟨_,rfl⟩;have YM:0<gg:=by rw[ou.out];exact Nat.gcd_pos_of_pos_left _ uS
 obtain⟨q,hq⟩:∃q,Hid (q=x.m / gg):=⟨_,rfl⟩;obtain⟨ap,hap⟩:∃ap,Hid (ap=dT x.m y.m):=⟨_,rfl⟩;have ZV:Hid (q*y.m=ap):=by unfold Hid;rw[hap.out,hq.out,ou.out];rfl
 have hqb:q<=65536:=by rw[hq.out];exact Nat.le_trans (Nat.div_le_self _ _) lE
 have Wh:ap<=4294967296:=by rw[<-ZV.out];exact Nat.mul_le_mul hqb mM
 have ediv:(((x.m:Nat):Int)).tdiv (gg:Int)=(q:Nat):=by rw[hq.out];exact(Int.ofNat_tdiv x.m gg)
 have hdiv:IntKind.i64.wrap ((((x.m:Nat):Int)).tdiv (gg:Int))=(q:Nat):=by rw[ediv,IntWalk.i64_in]<;>omega
 have Xx:(q:Int)*((y.m:Nat):Int)=(ap:Nat):=by rw[<-ZV.out];exact(Int.natCast_mul q y.m).symm
 have hmul:IntKind.i64.wrap ((q:Int)*((y.m:Nat):Int))=(ap:Nat):=by rw[Xx,IntWalk.i64_in]<;>omega
 have hgi:¬ ((gg:Nat):Int)=0:=by omega
 have Qo:¬ gg=0:=by omega
 have hqw:IntKind.i64.wrap ((q:Nat):Int)=(q:Nat):=by rw[IntWalk.i64_in]<;>omega
 have aaH:IntKind.i64.wrap ((ap:Nat):Int)=(ap:Nat):=by rw[IntWalk.i64_in]<;>omega
 obtain⟨f,hf⟩:∃f,Hid (f=cA x):=⟨_,rfl⟩;have YP:-32768<=f/\f<=32768+65536:=by rw[hf.out];unfold cA;have h1:=Int.emod_nonneg (x.r+32768) (show((x.m:Nat):Int)≠0 by omega);have h2:=Int.emod_lt_of_pos (x.r+32768) (show(0:Int)<((x.m:Nat):Int) by omega);omega
 obtain⟨YP,hf2⟩:=YP;have HF:Hid (∀W:Wd,Calls prog 315 #[J #[I O (x.m:Nat),I O x.r]] W fun e w'=>e=υ (I O f)/\ω W w'):=fun W=>by rw[hf.out];exact Nl x W uS lE jQ
 have HG:Hid (∀(W:Wd) (k:Nat),k=W.heap.size->Calls prog 308 #[Z (Y ⟨k,0,M⟩) 2 2] (W.alloc (L #[I O (x.m:Nat),I O (y.m:Nat)] 2)) fun e w'=>e=υ (I O (gg:Nat))/\ω W w'):=fun W k hk=>by rw[ou.out,hk];exact rV (x.m:Nat) (y.m:Nat) W (by omega) (by omega)
 obtain⟨ι,hM⟩:∃ι:Int->Bool,Hid (∀n,ι n=decide (bA y n)):=⟨_,fun _=>rfl⟩;have HM:Hid (∀(n:Int) (W:Wd),Calls prog 313 #[J #[I O (y.m:Nat),I O y.r],I O n] W fun e w'=>e=υ (U (ι n))/\ω W w'):=fun n W=>by rw[hM.out];exact NB y n W hy
 have HO:Hid (∀(n:Int) (W:Wd),-32768<=n->n<=32767->∃t:Sp.Cg,t=(if 32767<n+(ap:Nat) then⟨0,n⟩ else jX ap n:Sp.Cg)/\Calls prog 316 #[I O n,I O (ap:Nat)] W fun e w'=>e=υ (J #[I O (t.m:Nat),I O t.r])/\ω W w'):=fun n W h1 h2=>by
  have h0:ap≠0:=by rw[hap.out];exact Nat.pos_iff_ne_zero.1 (sL uS UM)
  have h:=IF n ap W h1 h2 Wh;have e:cG ap n=jX ap n:=by unfold cG;rw[if_neg h0]
  rw[e]at h;exact⟨_,rfl,h⟩
 have HS:Hid (∀(k:Nat) (n:Int) (t:Sp.Cg),n=f+(k:Int)*((x.m:Nat):Int)->n<=32767->ι n=true->(∀j:Nat,j<k->ι (f+(j:Int)*((x.m:Nat):Int))=false)->t=(if 32767<n+(ap:Nat) then⟨0,n⟩ else jX ap n:Sp.Cg)->bf x y=Y t):=fun k n t h1 h2 h3 h4 h5=>by subst h1;rw[h5,hap.out];rw[hf.out]at h2 h3 h4 ⊢;rw[hM.out]at h3;exact Ga uS UM h2 (of_decide_eq_true h3) (fun j hj=>of_decide_eq_false (by rw[<-hM.out];exact h4 j hj))
 have HE:Hid (∀(k:Nat) (n:Int),n=f+(k:Int)*((x.m:Nat):Int)->(32767<n∨f+(ap:Nat)<=n)->(∀j:Nat,j<k->ι (f+(j:Int)*((x.m:Nat):Int))=false)->bf x y=M):=fun k n h1 h2 h3=>by subst h1;rw[hf.out]at h2 h3;refine JD (k:=k) uS UM ?_ (fun j hj=>of_decide_eq_false (by rw[<-hM.out];exact h3 j hj));rw[<-hap.out];omega
 have nJ:(1:Int)<=((x.m:Nat):Int)/\((x.m:Nat):Int)<=65536:=by omega
 obtain⟨nJ,UU⟩:=nJ;have aaD:((ap:Nat):Int)<=4294967296:=by omega
 clear hx hy uS UM lE jQ mM o6 ou hq hap ZV hqb Wh hf YM;generalize bf x y=res at *;clear hM;generalize x.r=b at *;generalize y.r=d at *;generalize ((x.m:Nat):Int)=a at *;generalize ((y.m:Nat):Int)=c at *;have h0:ek w (w.heap.size) (w.heap.size+1) (w.heap.size+1+1) a b c d (((w.alloc (L #[I O a,I O b] 126)).alloc (L #[I O c,I O d] 126)).alloc (L #[I O 0,I O 0] 126)):=by obtain⟨h1,h2,h3,hb⟩:=cH (w:=w) (o1:=L #[I O a,I O b] 126) (o2:=L #[I O c,I O d] 126) (o3:=L #[I O 0,I O 0] 126) (Below.refl _ _);exact⟨h1,h2,⟨_,_,h3⟩,hb⟩
 go_enter func312,ntmps312;go_wp2_with fail;generalize (((w.alloc (L #[I O a,I O b] 126)).alloc (L #[I O c,I O d] 126)).alloc (L #[I O 0,I O 0] 126))=W at *;obtain⟨kx,hkx⟩:∃kx,kx=(w.heap.size):=⟨_,rfl⟩;obtain⟨ky,hky⟩:∃ky,ky=(w.heap.size+1):=⟨_,rfl⟩;obtain⟨kr,hkr⟩:∃kr,kr=(w.heap.size+1+1):=⟨_,rfl⟩;have kM:kx≠kr:=by omega
 have gD:ky≠kr:=by omega
 have jA:w.heap.size<=kr:=by omega
 rw[<-hkr,<-hky,<-hkx]at h0;rw[<-hkr,<-hky,<-hkx];clear hkx hky hkr;refine wp_region_held_drew (S:=fun w':Wd=>ek w kx ky kr a b c d w') (by kernel_rfl) (h0.call (Below.refl _ _).drew) (fun aa=>?_);generalize W.drew=V at *;refine tq 0 (ρ (Y ⟨kx,0,M⟩)) aa ?_;refine tk 1 (I O a) rfl (fun w' h=>by have q:=h.cells.1;go_simp) aa ?_;refine tq 2 (ρ (Y ⟨kx,0,M⟩)) aa ?_;refine tk 3 (I O a) rfl (fun w' h=>by have q:=h.cells.1;go_simp) aa ?_;refine tq 4 (ρ (Y ⟨ky,0,M⟩)) aa ?_;refine tk 5 (I O c) rfl (fun w' h=>by have q:=h.cells.2.2.1;go_simp) aa ?_;refine tq 9 (ρ (Y ⟨ky,0,M⟩)) aa ?_;refine tk 10 (I O c) rfl (fun w' h=>by have q:=h.cells.2.2.1;go_simp) aa ?_;refine bD 6 fun K hK=>?_
 simp only[bp,fB];go_simp;refine hK.out _ _ (aa.call (below_alloc1 _ _)) (fun _=>?_);clear hK K;refine bD 7 fun K hK=>?_
 simp only[bp];go_simp;refine(HG.out _ _ (by first | rfl | simp)).mono ?_;rintro e w1⟨rfl,b1⟩;replace aa:=aa.call b1;clear b1;go_wp2_with fail;refine hK.out _ _ aa (fun _=>?_);clear hK K;refine bD 8 fun K hK=>?_
 simp only[bp];go_simp;refine hK.out _ _ aa (fun _=>?_);clear hK K;refine bD 11 fun K hK=>?_
 simp only[bp];go_simp;refine hK.out _ _ aa (fun _=>?_);clear hK K;refine bD 12 fun K hK=>?_
 simp only[bp];go_simp;refine hK.out _ _ aa (fun _=>?_);clear hK K;refine wpAnyH_done (by kernel_rfl) ?_ _;obtain⟨x0,x1,y0,y1⟩:=aa.cells;clear HG hdiv hmul ediv Xx hqw hgi Qo h0;go_wp2_with fail;refine(HF.out _).mono ?_;rintro e w2⟨rfl,b2⟩;have H2:Hid (ek w kx ky kr a b c d w2):=aa.call b2;clear b2 aa HF x0 x1 y0 y1;go_wp2_with fail
 go_loopw [8] (fun v8 wr=>∃(k:Nat) (n:Int),v8=I O n/\-32768<=n/\n<=200000/\Hid (n=f+(k:Int)*a)/\Hid (∀j:Nat,j<k->ι (f+(j:Int)*a)=false)/\Hid (ek w kx ky kr a b c d wr)) (fun v8 _=>(200000 - intOf v8).toNat)
 case atStart=>exact⟨0,f,rfl,YP,by omega,by simp[Hid],fun j hj=>absurd hj (Nat.not_lt_zero j),H2⟩
 case round =>
  obtain⟨k,n,rfl,pF,Eg,TY,Kg,hq⟩:=hrel;clear H2;by_cases uE:n<=32767
  ·by_cases TH:n<f+(ap:Nat)
   ·obtain⟨x0,x1,y0,y1⟩:=hq.cells
    go_wp2_with fail;refine(HM.out n _).mono ?_;rintro e w3⟨rfl,b3⟩;have h3:=hq.call b3;clear b3 x0 x1 y0 y1;cases YJ:ι n with
    | true =>obtain⟨t,ht,hO⟩:=HO.out n w3 pF uE;have E:Hid (res=Y t):=HS.out k n t TY.out uE YJ Kg.out ht;have HOt:=hid hO;clear hO ht YJ;go_wp2_with fail;refine HOt.mono ?_;rintro e w4⟨rfl,b4⟩;have HH:=h3.call b4;clear b4 h3 HOt;obtain⟨u0,v0,hr⟩:=HH.r;obtain⟨m0,m1,nL,nK,_⟩:=aR hr;have MQ:=hid (HH.there (I O (t.m:Nat)) (I O t.r));have BQ:Hid (ω w _):=(HH.put kM gD jA (I O (t.m:Nat)) (I O t.r)).b;clear hr HH;go_wp2_with fail;exact bodyPost_ret (v:=φ #[J #[I O (t.m:Nat),I O t.r],U true]) (by simp[results,results312,go_sem,MQ.1,MQ.2]) rfl ⟨iS E.out,BQ.out⟩
    | false =>
     obtain⟨x0,x1,y0,y1⟩:=h3.cells;have H3:=hid h3;have HN:Hid (n+a=f+((k+1:Nat):Int)*a):=by unfold Hid;rw[TY.out,Int.natCast_succ,Int.add_mul];omega
     have TF:Hid (∀j:Nat,j<k+1->ι (f+(j:Int)*a)=false):=fun j hj=>by
      by_cases e:j=k
      ·subst e;rw[<-TY.out];exact YJ
      ·exact Kg.out j (by omega)
     clear h3 YJ;go_wp2_with fail;exact⟨⟨k+1,n+a,rfl,by omega,by omega,HN,TF,H3⟩,by simp[intOf];omega⟩
   ·have E:Hid (res=M):=HE.out k n TY.out (.inr (by omega)) Kg.out
    have aaF:decide (n<f+((ap:Nat):Int))=false:=by simpa using TH
    have HH:=hq.out;clear hq TY Kg;obtain⟨u0,v0,hr⟩:=HH.r;obtain⟨m0,m1,nL,nK,_⟩:=aR hr;have MQ:=hid (HH.there (I O 0) (I O 0));have BQ:Hid (ω w _):=(HH.put kM gD jA (I O 0) (I O 0)).b;clear hr HH;go_wp2_with fail;exact bodyPost_ret (v:=φ #[J #[I O 0,I O 0],U false]) (by simp[results,results312,go_sem,MQ.1,MQ.2]) rfl ⟨lS E.out,BQ.out⟩
  ·have E:Hid (res=M):=HE.out k n TY.out (.inl (by omega)) Kg.out
   have aaB:decide (n<=32767)=false:=by simpa using uE
   have HH:=hq.out;clear hq TY Kg;obtain⟨u0,v0,hr⟩:=HH.r;obtain⟨m0,m1,nL,nK,_⟩:=aR hr;have MQ:=hid (HH.there (I O 0) (I O 0));have BQ:Hid (ω w _):=(HH.put kM gD jA (I O 0) (I O 0)).b;clear hr HH;go_wp2_with fail;exact bodyPost_ret (v:=φ #[J #[I O 0,I O 0],U false]) (by simp[results,results312,go_sem,MQ.1,MQ.2]) rfl ⟨lS E.out,BQ.out⟩
theorem ek.swap{kr:Nat}(h:ek w kx ky kr a b c d W)(h1:kx≠kr)(h2:ky≠kr)(h3:kx≠ky)(h4:w.heap.size<=kx)(h5:w.heap.size<=ky):ek w kx ky kr c d a b ((((W.setCell ⟨kx,0,M⟩ (I O c)).setCell ⟨kx,1,M⟩ (I O d)).setCell ⟨ky,0,M⟩ (I O a)).setCell ⟨ky,1,M⟩ (I O b)):=by
 have e1:=ah (ah h.x 0 (I O c)) 1 (I O d);have e2:((W.setCell ⟨kx,0,M⟩ (I O c)).setCell ⟨kx,1,M⟩ (I O d)).heap[ky]?=Y (L #[I O c,I O d] 126):=by rw[Below.heap_setCell _ _ _ _ h3.symm,Below.heap_setCell _ _ _ _ h3.symm];exact h.y
 have e3:=ah (ah e2 0 (I O a)) 1 (I O b);obtain⟨u,v,hr⟩:=h.r;refine⟨?_,e3,⟨u,v,?_⟩,?_⟩
 ·rw[Below.heap_setCell _ _ _ _ h3,Below.heap_setCell _ _ _ _ h3];exact e1
 ·rw[Below.heap_setCell _ _ _ _ h2.symm,Below.heap_setCell _ _ _ _ h2.symm,Below.heap_setCell _ _ _ _ h1.symm,Below.heap_setCell _ _ _ _ h1.symm];exact hr
 ·exact(((h.b.setCell (p:=⟨kx,0,M⟩) h4 _).setCell (p:=⟨kx,1,M⟩) h4 _).setCell (p:=⟨ky,0,M⟩) h5 _).setCell (p:=⟨ky,1,M⟩) h5 _
theorem uX(x y:Sp.Cg)(w:Wd)(hx:cr x)(hy:cr y) :
  Calls prog 306 #[J #[I O (x.m:Nat),I O x.r],J #[I O (y.m:Nat),I O y.r]] w fun e w'=>e=υ (jG (bf x y))/\ω w w':=by
 obtain⟨p,q,J9,hp,hq,hle,hme⟩:∃p q:Sp.Cg,((x.m<y.m/\p=y/\q=x)∨(¬ x.m<y.m/\p=x/\q=y))/\cr p/\cr q/\q.m<=p.m/\bf x y=bf p q:=by
  by_cases h:x.m<y.m
  ·exact⟨y,x,.inl ⟨h,rfl,rfl⟩,hy,hx,by omega,Sp.meet_comm x y⟩
  ·exact⟨x,y,.inr ⟨h,rfl,rfl⟩,hx,hy,by omega,rfl⟩
 rw[hme];clear hme hx hy;have HA:Hid (∀W:Wd,Calls prog 294 #[J #[I O (q.m:Nat),I O q.r]] W fun e w'=>e=υ (U (decide (q.m=0)))/\ω W w'):=fun W=>ch q.m q.r W
 have Up:Hid (∀W:Wd,Calls prog 313 #[J #[I O (p.m:Nat),I O p.r],I O q.r] W fun e w'=>e=υ (U (decide (bA p q.r)))/\ω W w'):=fun W=>NB p q.r W hp
 have HM:Hid (¬ q.m=0->∀W:Wd,Calls prog 312 #[J #[I O (p.m:Nat),I O p.r],J #[I O (q.m:Nat),I O q.r]] W fun e w'=>e=υ (jG (bf p q))/\ω W w'):=fun h W=>xw p q W hp hq (by omega) (by omega)
 have HE:Hid (q.m=0->bf p q=if bA p q.r then Y ⟨0,q.r⟩ else M):=fun h=>by
  have hr:oh q.r:=by
   rcases hq with h | h
   ·exact h.2
   ·omega
  have e:q=⟨0,q.r⟩:=by cases q;simp only at h;rw[h]
  exact(congrArg (bf p) e).trans (Nn (x:=p) hr).1
 have WQ:Hid (((x.m:Int)<(y.m:Int)/\(p.m:Int)=(y.m:Int)/\p.r=y.r/\(q.m:Int)=(x.m:Int)/\q.r=x.r)∨(¬ (x.m:Int)<(y.m:Int)/\(p.m:Int)=(x.m:Int)/\p.r=x.r/\(q.m:Int)=(y.m:Int)/\q.r=y.r)):=by
  unfold Hid
  rcases J9 with⟨h,rfl,rfl⟩ | ⟨h,rfl,rfl⟩
  ·exact .inl ⟨by omega,rfl,rfl,rfl,rfl⟩
  ·exact .inr ⟨by omega,rfl,rfl,rfl,rfl⟩
 clear J9 hp hq hle;generalize bf p q=res at *;obtain⟨A,hA⟩:∃A,A=((p.m:Nat):Int):=⟨_,rfl⟩;obtain⟨C,hC⟩:∃C,C=((q.m:Nat):Int):=⟨_,rfl⟩;rw[<-hA,<-hC]at WQ;rw[<-hC]at HA;rw[<-hA]at Up;rw[<-hA,<-hC]at HM;have Kw:Hid (C=0↔q.m=0):=by unfold Hid;rw[hC];omega
 clear hA hC;generalize x.r=b at *;generalize y.r=d at *;generalize ((x.m:Nat):Int)=a at *;generalize ((y.m:Nat):Int)=c at *;have h0:ek w (w.heap.size) (w.heap.size+1) (w.heap.size+1+1) a b c d (((w.alloc (L #[I O a,I O b] 126)).alloc (L #[I O c,I O d] 126)).alloc (L #[I O 0,I O 0] 126)):=by obtain⟨h1,h2,h3,hb⟩:=cH (w:=w) (o1:=L #[I O a,I O b] 126) (o2:=L #[I O c,I O d] 126) (o3:=L #[I O 0,I O 0] 126) (Below.refl _ _);exact⟨h1,h2,⟨_,_,h3⟩,hb⟩
 go_enter func306,ntmps306;go_upto_if 10 with fail;generalize (((w.alloc (L #[I O a,I O b] 126)).alloc (L #[I O c,I O d] 126)).alloc (L #[I O 0,I O 0] 126))=W at *
 obtain⟨kx,hkx⟩:∃kx,kx=(w.heap.size):=⟨_,rfl⟩;obtain⟨ky,hky⟩:∃ky,ky=(w.heap.size+1):=⟨_,rfl⟩;obtain⟨kr,hkr⟩:∃kr,kr=(w.heap.size+1+1):=⟨_,rfl⟩;have kM:kx≠kr:=by omega
 have gD:ky≠kr:=by omega
 have jA:w.heap.size<=kr:=by omega
 have Qt:kx≠ky:=by omega
 have xU:w.heap.size<=kx:=by omega
 have Ib:w.heap.size<=ky:=by omega
 rw[<-hkr,<-hky,<-hkx]at h0;rw[<-hkr,<-hky,<-hkx];clear hkx hky hkr
 go_cut [] from 6 to 12 (fun wc=>Hid (ek w kx ky kr A p.r C q.r wc))
 case first =>
  obtain⟨x0,x1,y0,y1⟩:=h0.cells;have xf0:=aw h0.x 0;have xf1:=aw h0.x 1;have Gu:=aw h0.y 0;have Gf:=aw h0.y 1
  rcases WQ.out with⟨cR,e1,e2,e3,e4⟩ | ⟨cR,e1,e2,e3,e4⟩
  ·have H1:Hid (ek w kx ky kr A p.r C q.r ((((W.setCell ⟨kx,0,M⟩ (I O c)).setCell ⟨kx,1,M⟩ (I O d)).setCell ⟨ky,0,M⟩ (I O a)).setCell ⟨ky,1,M⟩ (I O b))):=by
    unfold Hid;rw[e1,e2,e3,e4];exact h0.swap kM gD Qt xU Ib
   clear e1 e2 e3 e4 WQ h0 HA Up HM HE Kw;go_wp2_with fail;go_meet
   case rel=>exact H1
  ·have H1:Hid (ek w kx ky kr A p.r C q.r W):=by
    unfold Hid;rw[e1,e2,e3,e4];exact h0
   clear e1 e2 e3 e4 WQ h0 HA Up HM HE Kw;go_wp2_with fail;go_meet
   case rel=>exact H1
 case rest =>
  have h1:=hcut.out;clear h0 hcut WQ;generalize p.r=B at *;by_cases Ow:q.m=0
  ·have E:=HE.out Ow
   have UQ:=hid E;rw[decide_eq_true Ow]at HA;have hC0:=Kw.2 Ow;have UN:=hid hC0;clear HE E HM Kw hC0 Ow;obtain⟨x0,x1,y0,y1⟩:=h1.cells;go_wp2_with fail;refine(HA.out _).mono ?_;rintro e w1⟨rfl,b1⟩;have h2:=h1.call b1;clear x0 x1 y0 y1 b1 h1 HA;obtain⟨x0,x1,y0,y1⟩:=h2.cells;go_wp2_with fail;refine(Up.out _).mono ?_;rintro e w2⟨rfl,b2⟩;have HH:=h2.call b2;clear x0 x1 y0 y1 b2 h2 Up;by_cases hm:bA p q.r
   ·have E:Hid (res=Y ⟨0,q.r⟩):=by unfold Hid;rw[UQ.out,if_pos hm]
    rw[decide_eq_true hm];clear UQ hm;generalize q.r=D at *;obtain⟨x0,x1,y0,y1⟩:=HH.cells;obtain⟨u0,v0,hr⟩:=HH.r;obtain⟨m0,m1,nL,nK,_⟩:=aR hr;have MQ:=hid (HH.there (I O C) (I O D));have BQ:Hid (ω w _):=(HH.put kM gD jA (I O C) (I O D)).b;clear hr HH;go_wp2_with fail;exact bodyPost_ret (v:=φ #[J #[I O C,I O D],U true]) (by simp[results,results306,go_sem,MQ.1,MQ.2]) rfl ⟨by rw[UN.out];exact iS (a:=0) E.out,BQ.out⟩
   ·have E:Hid (res=M):=by unfold Hid;rw[UQ.out,if_neg hm]
    rw[decide_eq_false hm];clear UQ hm;generalize q.r=D at *;obtain⟨u0,v0,hr⟩:=HH.r;obtain⟨m0,m1,nL,nK,_⟩:=aR hr;have MQ:=hid (HH.there (I O 0) (I O 0));have BQ:Hid (ω w _):=(HH.put kM gD jA (I O 0) (I O 0)).b;clear hr HH;go_wp2_with fail;exact bodyPost_ret (v:=φ #[J #[I O 0,I O 0],U false]) (by simp[results,results306,go_sem,MQ.1,MQ.2]) rfl ⟨lS E.out,BQ.out⟩
  ·rw[decide_eq_false Ow]at HA
   have Ya:Hid (∀W:Wd,Calls _ _ _ W _):=HM.out Ow;clear HE Up HM Kw Ow;obtain⟨x0,x1,y0,y1⟩:=h1.cells;generalize q.r=D at *;go_wp2_with fail;refine(HA.out _).mono ?_;rintro e w1⟨rfl,b1⟩;have h2:=h1.call b1;clear x0 x1 y0 y1 b1 h1 HA;obtain⟨x0,x1,y0,y1⟩:=h2.cells;go_wp2_with fail;refine(Ya.out _).mono ?_;rintro e w2⟨rfl,b2⟩;have HH:=h2.call b2;clear x0 x1 y0 y1 b2 h2 Ya;cases res with
   | none =>simp only[jG];obtain⟨u0,v0,hr⟩:=HH.r;obtain⟨m0,m1,nL,nK,_⟩:=aR hr;have MQ:=hid (HH.there (I O 0) (I O 0));have BQ:Hid (ω w _):=(HH.put kM gD jA (I O 0) (I O 0)).b;clear hr HH;go_wp2_with fail;exact bodyPost_ret (v:=φ #[J #[I O 0,I O 0],U false]) (by simp[results,results306,go_sem,MQ.1,MQ.2]) rfl ⟨rfl,BQ.out⟩
   | some t =>simp only[jG];obtain⟨u0,v0,hr⟩:=HH.r;obtain⟨m0,m1,nL,nK,_⟩:=aR hr;have MQ:=hid (HH.there (I O (t.m:Nat)) (I O t.r));have BQ:Hid (ω w _):=(HH.put kM gD jA (I O (t.m:Nat)) (I O t.r)).b;clear hr HH;go_wp2_with fail;exact bodyPost_ret (v:=φ #[J #[I O (t.m:Nat),I O t.r],U true]) (by simp[results,results306,go_sem,MQ.1,MQ.2]) rfl ⟨rfl,BQ.out⟩
theorem KO(r:Nat)(x y:Sp.Cg)(w:Wd)(hx:cr x)(hy:cr y) :
  Calls prog 295 #[J #[],I O (r:Nat),J #[I O (x.m:Nat),I O x.r],J #[I O (y.m:Nat),I O y.r]] w fun e w'=>e=υ (jG (lq r x y))/\ω w w':=by
 have HM:Hid (∀W:Wd,Calls prog 306 #[J #[I O (x.m:Nat),I O x.r],J #[I O (y.m:Nat),I O y.r]] W fun e w'=>e=υ (jG (bf x y))/\ω W w'):=fun W=>uX x y W hx hy
 unfold lq;by_cases h2:r=2
 ·rw[if_pos h2]
  subst h2;clear hx hy;generalize bf x y=res at *;generalize x.r=b at *;generalize y.r=d at *;generalize ((x.m:Nat):Int)=a at *;generalize ((y.m:Nat):Int)=c at *;have h0:ek w (w.heap.size+1) (w.heap.size+1+1) (w.heap.size+1+1+1) a b c d ((((w.alloc (L #[] 128)).alloc (L #[I O a,I O b] 126)).alloc (L #[I O c,I O d] 126)).alloc (L #[I O 0,I O 0] 126)):=by obtain⟨h1,h2,h3,h4,hb⟩:=bB (w:=w) (o1:=L #[] 128) (o2:=L #[I O a,I O b] 126) (o3:=L #[I O c,I O d] 126) (o4:=L #[I O 0,I O 0] 126) (Below.refl _ _);exact⟨h2,h3,⟨_,_,h4⟩,hb⟩
  go_enter func295,ntmps295;go_wp2_with fail;generalize ((((w.alloc (L #[] 128)).alloc (L #[I O a,I O b] 126)).alloc (L #[I O c,I O d] 126)).alloc (L #[I O 0,I O 0] 126))=W at *;obtain⟨kx,hkx⟩:∃kx,kx=(w.heap.size+1):=⟨_,rfl⟩;obtain⟨ky,hky⟩:∃ky,ky=(w.heap.size+1+1):=⟨_,rfl⟩;obtain⟨kr,hkr⟩:∃kr,kr=(w.heap.size+1+1+1):=⟨_,rfl⟩;have kM:kx≠kr:=by omega
  have gD:ky≠kr:=by omega
  have jA:w.heap.size<=kr:=by omega
  rw[<-hkr,<-hky,<-hkx]at h0;rw[<-hkr,<-hky,<-hkx];clear hkx hky hkr;refine(HM.out _).mono ?_;rintro e w1⟨rfl,b1⟩;have HH:=h0.call b1;clear b1 h0 HM;cases res with
  | none =>simp only[jG];obtain⟨u0,v0,hr⟩:=HH.r;obtain⟨m0,m1,nL,nK,_⟩:=aR hr;have MQ:=hid (HH.there (I O 0) (I O 0));have BQ:Hid (ω w _):=(HH.put kM gD jA (I O 0) (I O 0)).b;clear hr HH;go_wp2_with fail;exact bodyPost_ret (v:=φ #[J #[I O 0,I O 0],U false]) (by simp[results,results295,go_sem,MQ.1,MQ.2]) rfl ⟨rfl,BQ.out⟩
  | some t =>simp only[jG];obtain⟨u0,v0,hr⟩:=HH.r;obtain⟨m0,m1,nL,nK,_⟩:=aR hr;have MQ:=hid (HH.there (I O (t.m:Nat)) (I O t.r));have BQ:Hid (ω w _):=(HH.put kM gD jA (I O (t.m:Nat)) (I O t.r)).b;clear hr HH;go_wp2_with fail;exact bodyPost_ret (v:=φ #[J #[I O (t.m:Nat),I O t.r],U true]) (by simp[results,results295,go_sem,MQ.1,MQ.2]) rfl ⟨rfl,BQ.out⟩
 ·rw[if_neg h2]
  have Ij:¬ ((r:Nat):Int)=2:=by omega
  clear HM h2 hx hy;go_enter func295,ntmps295;go_wp2_with fail;go_returns;exact⟨rfl,by go_grown⟩
structure yD(w:Wd)(kx ky:Nat)(a b c d:Int)(W:Wd):Prop where
 x:W.heap[kx]?=Y (L #[I O a,I O b] 126)
 y:W.heap[ky]?=Y (L #[I O c,I O d] 126)
 b:ω w W
theorem yD.call(h:yD w kx ky a b c d W)(k:ω W W'):yD w kx ky a b c d W' :=
 ⟨(k.block _ (ad h.x)).trans h.x,(k.block _ (ad h.y)).trans h.y,h.b.trans (k.mono h.b.size)⟩
theorem yD.cells(h:yD w kx ky a b c d W):W.cell? ⟨kx,0,M⟩=Y (I O a)/\W.cell? ⟨kx,1,M⟩=Y (I O b)/\W.cell? ⟨ky,0,M⟩=Y (I O c)/\W.cell? ⟨ky,1,M⟩=Y (I O d) :=
 ⟨cell_of h.x 0 rfl,cell_of h.x 1 rfl,cell_of h.y 0 rfl,cell_of h.y 1 rfl⟩
theorem JR{x y:Sp.Cg}(hx:x.m=0)(hy:y.m=0)(hxr:oh x.r):rF r x y=Sp.holds r x.r y.r:=by
 unfold rF;rw[decide_eq_true hx,decide_eq_true hy];cases h:Sp.holds r x.r y.r with
 | false=>rfl
 | true =>
  by_cases h2:r=2
  ·subst h2
   have e:x.r=y.r:=by simpa [Sp.holds] using h
   obtain⟨v,hv,_⟩:=Sp.uX (x:=x) (y:=y) (n:=x.r) hxr (by unfold bA;rw[if_pos hx]) (by unfold bA;rw[if_pos hy];exact e);simp[hv]
  ·simp[h2]
theorem JZ{x y:Sp.Cg}(hn:¬ (x.m=0/\y.m=0)):rF r x y=!(decide (r=2) && (bf x y).isNone):=by
 unfold rF;have:(decide (x.m=0) && decide (y.m=0))=false:=by rw[Bool.eq_false_iff];intro h;rw[Bool.and_eq_true,decide_eq_true_eq,decide_eq_true_eq]at h;exact hn h
 rw[this];simp
theorem Ai(r:Nat)(hr:r<6)(b d:Int)(w:Wd)(hb:oh b)(hd:oh d) :
  Calls prog 298 #[J #[],I O (r:Nat),J #[I O 0,I O b],J #[I O 0,I O d]] w fun e w'=>e=υ (U (Sp.holds r b d))/\ω w w':=by
 have HO:Hid (∀W:Wd,Calls prog 213 #[I O (r:Nat),I ψ b,I ψ d] W fun e w'=>e=υ (U (Sp.holds r b d))/\w'=W):=fun W=>Dq r hr b d W
 have HA:Hid (∀(z:Int) (W:Wd),Calls prog 294 #[J #[I O 0,I O z]] W fun e w'=>e=υ (U true)/\ω W w'):=fun z W=>ch 0 z W
 generalize Sp.holds r b d=res at *;obtain⟨b1,b2⟩:=hb;obtain⟨d1,d2⟩:=hd;have e1:IntKind.i16.wrap b=b:=by rw[IntWalk.i16_in]<;>omega
 have e2:IntKind.i16.wrap d=d:=by rw[IntWalk.i16_in]<;>omega
 clear b1 b2 d1 d2 hr;have h0:yD w (w.heap.size+1) (w.heap.size+1+1) 0 b 0 d (((w.alloc (L #[] 128)).alloc (L #[I O 0,I O b] 126)).alloc (L #[I O 0,I O d] 126)):=by obtain⟨_,h2,h3,hb⟩:=cH (w:=w) (o1:=L #[] 128) (o2:=L #[I O 0,I O b] 126) (o3:=L #[I O 0,I O d] 126) (Below.refl _ _);exact⟨h2,h3,hb⟩
 go_enter func298,ntmps298;go_upto_region 1 with fail;generalize (((w.alloc (L #[] 128)).alloc (L #[I O 0,I O b] 126)).alloc (L #[I O 0,I O d] 126))=W at *
 obtain⟨kd,gC⟩:∃kd,kd=w.heap.size:=⟨_,rfl⟩;obtain⟨kx,hkx⟩:∃kx,kx=w.heap.size+1:=⟨_,rfl⟩;obtain⟨ky,hky⟩:∃ky,ky=w.heap.size+1+1:=⟨_,rfl⟩;rw[<-hky,<-hkx]at h0;rw[<-hky,<-hkx,<-gC];clear gC hkx hky;obtain⟨x0,x1,y0,y1⟩:=h0.cells;go_wp2_with fail;refine(HA.out _ _).mono ?_;rintro e w1⟨rfl,b1⟩;have h1:=h0.call b1;clear x0 x1 y0 y1 b1 h0;obtain⟨x0,x1,y0,y1⟩:=h1.cells;go_wp2_with fail;refine(HA.out _ _).mono ?_;rintro e w2⟨rfl,b1⟩;have h2:=h1.call b1;clear x0 x1 y0 y1 b1 h1 HA;obtain⟨x0,x1,y0,y1⟩:=h2.cells;go_wp2_with fail;refine(HO.out _).mono ?_;rintro e w3⟨rfl,rfl⟩;clear x0 x1 y0 y1 HO;go_wp2_with fail;go_ret;exact⟨rfl,h2.b⟩
theorem As(r:Nat)(x y:Sp.Cg)(w:Wd)(hx:cr x)(hy:cr y)(hn:¬ (x.m=0/\y.m=0)) :
  Calls prog 298 #[J #[],I O (r:Nat),J #[I O (x.m:Nat),I O x.r],J #[I O (y.m:Nat),I O y.r]] w fun e w'=>e=υ (U (!(decide (r=2) && (bf x y).isNone)))/\ω w w':=by
 have HA:Hid (((∀W:Wd,Calls prog 294 #[J #[I O (x.m:Nat),I O x.r]] W fun e w'=>e=υ (U true)/\ω W w')/\(∀W:Wd,Calls prog 294 #[J #[I O (y.m:Nat),I O y.r]] W fun e w'=>e=υ (U false)/\ω W w'))∨(∀W:Wd,Calls prog 294 #[J #[I O (x.m:Nat),I O x.r]] W fun e w'=>e=υ (U false)/\ω W w')):=by
  unfold Hid;by_cases h:x.m=0
  ·refine .inl ⟨fun W=>?_,fun W=>?_⟩
   ·have:=ch x.m x.r W;rwa [decide_eq_true h]at this
   ·have:=ch y.m y.r W;rwa [decide_eq_false (fun e=>hn ⟨h,e⟩)]at this
  ·refine .inr (fun W=>?_)
   have:=ch x.m x.r W;rwa [decide_eq_false h]at this
 have HM:Hid (∀W:Wd,Calls prog 306 #[J #[I O (x.m:Nat),I O x.r],J #[I O (y.m:Nat),I O y.r]] W fun e w'=>e=υ (jG (bf x y))/\ω W w'):=fun W=>uX x y W hx hy
 clear hx hy hn;generalize bf x y=res at *;generalize x.r=b at *;generalize y.r=d at *;generalize ((x.m:Nat):Int)=a at *;generalize ((y.m:Nat):Int)=c at *;have h0:yD w (w.heap.size+1) (w.heap.size+1+1) a b c d (((w.alloc (L #[] 128)).alloc (L #[I O a,I O b] 126)).alloc (L #[I O c,I O d] 126)):=by obtain⟨_,h2,h3,hb⟩:=cH (w:=w) (o1:=L #[] 128) (o2:=L #[I O a,I O b] 126) (o3:=L #[I O c,I O d] 126) (Below.refl _ _);exact⟨h2,h3,hb⟩
 go_enter func298,ntmps298;go_upto_region 1 with fail;generalize (((w.alloc (L #[] 128)).alloc (L #[I O a,I O b] 126)).alloc (L #[I O c,I O d] 126))=W at *
 obtain⟨kd,gC⟩:∃kd,kd=w.heap.size:=⟨_,rfl⟩;obtain⟨kx,hkx⟩:∃kx,kx=w.heap.size+1:=⟨_,rfl⟩;obtain⟨ky,hky⟩:∃ky,ky=w.heap.size+1+1:=⟨_,rfl⟩;rw[<-hky,<-hkx]at h0;rw[<-hky,<-hkx,<-gC];clear gC hkx hky
 go_cut [16] from 11 to 16 (fun v16 wc=>v16=U false/\Hid (yD w kx ky a b c d wc))
 case first =>
  obtain⟨x0,x1,y0,y1⟩:=h0.cells
  rcases HA.out with⟨HX,HY⟩ | HX
  ·go_wp2_with fail
   refine(HX W).mono ?_;rintro e w1⟨rfl,b1⟩;have h1:=h0.call b1;clear x0 x1 y0 y1;obtain⟨x0,x1,y0,y1⟩:=h1.cells;go_wp2_with fail;refine(HY w1).mono ?_;rintro e w2⟨rfl,b2⟩;have H2:Hid (yD w kx ky a b c d w2):=h1.call b2;clear x0 x1 y0 y1 h1 b1 b2;go_wp2_with fail;go_meet;exact⟨rfl,H2⟩
  ·go_wp2_with fail
   refine(HX W).mono ?_;rintro e w1⟨rfl,b1⟩;have H1:Hid (yD w kx ky a b c d w1):=h0.call b1;clear x0 x1 y0 y1 b1;go_wp2_with fail;go_meet;exact⟨rfl,H1⟩
 case rest =>
  obtain⟨rfl,hcut⟩:=hcut;have h1:=hcut.out;clear h0 hcut HA;by_cases h2:r=2
  ·subst h2
   obtain⟨x0,x1,y0,y1⟩:=h1.cells;go_wp2_with fail;refine(HM.out _).mono ?_;rintro e w1⟨rfl,b1⟩;have BB:Hid (ω w w1):=(h1.call b1).b;clear x0 x1 y0 y1 b1 h1 HM;cases res with
   | none =>simp only[jG];go_wp2_with fail;go_ret;exact⟨rfl,BB.alloc BB.size _⟩
   | some t =>simp only[jG];go_wp2_with fail;go_ret;exact⟨rfl,BB.alloc BB.size _⟩
  ·have Ij:¬ ((r:Nat):Int)=2:=by omega
   have UQ:Hid (decide (r=2)=false):=decide_eq_false h2;clear HM h2;go_wp2_with fail;go_ret;exact⟨eK (by rw[UQ.out];rfl),h1.b⟩
theorem SC(r:Nat)(hr:r<6)(x y:Sp.Cg)(w:Wd)(hx:cr x)(hy:cr y) :
  Calls prog 298 #[J #[],I O (r:Nat),J #[I O (x.m:Nat),I O x.r],J #[I O (y.m:Nat),I O y.r]] w fun e w'=>e=υ (U (rF r x y))/\ω w w':=by
 by_cases hn:x.m=0/\y.m=0
 ·have Oq:oh x.r:=by
   rcases hx with h | h
   ·exact h.2
   ·omega
  have UP:oh y.r:=by
   rcases hy with h | h
   ·exact h.2
   ·omega
  rw[JR hn.1 hn.2 Oq,hn.1,hn.2];exact Ai r hr x.r y.r w Oq UP
 ·rw[JZ hn]
  exact As r x y w hx hy hn
end
end Go.Proofs.YtiopfihjmkfdmaaGreatDoor
