import Derived.Test.YtiopfihjmkfdmabGreatDoorC44
namespace Go.Proofs.YtiopfihjmkfdmabGreatDoor
open Go.Value renaming int->I,agg->J,bool->U,tuple->φ,pointer->ρ,slice->Z
open Go.IntKind renaming i64->O,i16->ψ
open Go.Obj renaming cells->L
open Go.Ending renaming returned->υ
open Option renaming none->M,some->Y
open Go.Proofs.Tryz Sp
open Go.RowKit
set_option maxRecDepth 100000
set_option maxHeartbeats 16000000
section
def iq(k:Nat)(x y:Int):Int:=(Sp.work k x y).getD 0
theorem Hi(k:Nat)(hk:k<5)(x y:Int)(w:Wd) :
  Calls prog 226 #[I O k,I ψ x,I ψ y] w λe w'=>e=υ (φ #[I ψ (iq k x y),U (Sp.work k x y).isSome])/\w'=w:=by
 rcases(show k=0∨k=1∨k=2∨k=3∨k=4 from À) with rfl|rfl|rfl|rfl|rfl
 .go_enter func226,ntmps226
  go_wp2_with fail
  go_ret2
  exact⟨rfl,rfl⟩
 .go_enter func226,ntmps226
  go_wp2_with fail
  go_ret2
  exact⟨rfl,rfl⟩
 .go_enter func226,ntmps226
  go_wp2_with fail
  go_ret2
  exact⟨rfl,rfl⟩
 .by_cases hy:y=0
  .subst hy
   go_enter func226,ntmps226;go_wp2_with fail
   go_ret2
   exact⟨rfl,rfl⟩
  .have e:Hid (Sp.work 3 x y=Y (wh (x.tdiv y))):=by unfold Hid Sp.work;simp[hy]
   go_enter func226,ntmps226;go_wp2_with fail
   go_ret2
   refine⟨?_,rfl⟩;unfold iq;rw[e.out];rfl
 .by_cases hy:y=0
  .subst hy
   go_enter func226,ntmps226;go_wp2_with fail
   go_ret2
   exact⟨rfl,rfl⟩
  .have e:Hid (Sp.work 4 x y=Y (x.tmod y)):=by unfold Hid Sp.work;simp[hy]
   go_enter func226,ntmps226;go_wp2_with fail
   go_ret2
   refine⟨?_,rfl⟩;unfold iq;rw[e.out];rfl
theorem Eu(k:Nat)(hk:k<6)(x y:Int)(w:Wd) :
  Calls prog 209 #[I O k,I ψ x,I ψ y] w λe w'=>e=υ (U (Sp.holds k x y))/\w'=w:=by
 rcases(show k=0∨k=1∨k=2∨k=3∨k=4∨k=5 from À) with rfl|rfl|rfl|rfl|rfl|rfl
 all_goals
  go_enter func209,ntmps209;go_wp2_with fail;go_ret;exact⟨rfl,rfl⟩
end
section
variable{w W W':Wd}
variable{kx ky r:Nat}
variable{a b c d:Int}
theorem Af(k:Nat)(hk:k<5)(a b:Int)(w:Wd)(ha:pr a)(hb:pr b) :
  Calls prog 283 #[J #[],I O (k:Nat),J #[I O 0,I O a],J #[I O 0,I O b]] w λe w'=>e=υ (ni ((Sp.work k a b).map λn=>⟨0,n⟩))/\ω w w':=by
 have HZ:pr (iq k a b):=by
  unfold iq;cases h:Sp.work k a b with
  |none=>exact⟨É,É⟩
  |some n=>exact Jv ha h
 have δ:Hid (υ (φ #[J #[I O 0,I O (iq k a b)],U (Sp.work k a b).isSome])=Ending.returned (ni ((Sp.work k a b).map λn=>⟨0,n⟩))):=by unfold Hid iq;cases Sp.work k a b<;>rfl
 have HW:Hid (∀W:Wd,_):=λW=>Hi k hk a b W
 obtain⟨z1,z2⟩:=HZ;have HN:Hid (∀W:Wd,_):=λW=>qO (iq k a b) W z1 z2
 have HA:Hid (∀(r:Int) (W:Wd),Calls prog 272 #[J #[I O 0,I O r]] W λe w'=>e=υ (U true)/\ω W w'):=λr W=>ib 0 r W
 generalize ni ((Sp.work k a b).map λn=>⟨0,n⟩)=res at*;generalize iq k a b=z at*;generalize (Sp.work k a b).isSome=ok at*;obtain⟨a1,a2⟩:=ha;obtain⟨b1,b2⟩:=hb;have e1:IntKind.i16.wrap a=a:=by rw[IntWalk.i16_in]<;>omega
 have e2:IntKind.i16.wrap b=b:=by rw[IntWalk.i16_in]<;>omega
 clear a1 a2 b1 b2 z1 z2 hk;have h0:=J3 w 0 a 0 b;go_enter func283,ntmps283;go_upto_region 1 with fail;generalize ((((w.alloc (L #[] 87)).alloc (L #[I O 0,I O a] 85)).alloc (L #[I O 0,I O b] 85)).alloc (L #[I O 0,I O 0] 85))=W at*;obtain⟨x0,x1,y0,y1⟩:=h0.cells;go_wp2_with fail;refine(HA.out _ _).mono ?_;rintro e w1⟨rfl,b1⟩;have h1:=h0.call b1;clear x0 x1 y0 y1 b1 h0;obtain⟨x0,x1,y0,y1⟩:=h1.cells;go_wp2_with fail;refine(HA.out _ _).mono ?_;rintro e w2⟨rfl,b1⟩;have h2:=h1.call b1;clear x0 x1 y0 y1 b1 h1 HA;obtain⟨x0,x1,y0,y1⟩:=h2.cells;go_wp2_with fail;refine(HW.out _).mono ?_;rintro e w3⟨rfl,rfl⟩;have qo:=h2.o;clear x0 x1 y0 y1 HW;go_wp2_with fail;refine(HN.out _).mono ?_;rintro e w3⟨rfl,b1⟩;have HH:=h2.call b1;clear b1 h2 HN qo;obtain⟨u0,v0,hr⟩:=HH.z;obtain⟨m0,m1,jo,jH,mq⟩:=aI hr;have MQ:=hid (mq (I O 0) (I O z));have BQ:Hid (ω w _):=(HH.put (I O 0) (I O z)).b;clear hr HH mq;go_wp2_with fail;exact Ç (v:=φ #[J #[I O 0,I O z],U ok]) (by simp[results,results283,go_sem,MQ.1,MQ.2]) rfl ⟨δ.out,BQ.out⟩
theorem Eg(k:Nat)(hk:k<5)(x y:Sp.Cg)(w:Wd)(hx:cV x)(hy:cV y) :
  Calls prog 283 #[J #[],I O (k:Nat),J #[I O (x.m:Nat),I O x.r],J #[I O (y.m:Nat),I O y.r]] w λe w'=>e=υ (ni (dI k x y))/\ω w w':=by
 by_cases hn:x.m=0/\y.m=0
 .have QZ:pr x.r:=by
   rcases hx with h|h
   .exact h.2
   .omega
  have XX:pr y.r:=by
   rcases hy with h|h
   .exact h.2
   .omega
  have δ:dI k x y=(Sp.work k x.r y.r).map λn=>⟨0,n⟩:=by unfold dI;rw[Á hn]
  rw[δ,hn.1,hn.2];exact Af k hk x.r y.r w QZ XX
 .exact AA k hk x y w hx hy hn
theorem PV(x:Sp.Cg)(n:Int)(w:Wd)(hw:cV x) :
  Calls prog 291 #[J #[I O (x.m:Nat),I O x.r],I O n] w λe w'=>e=υ (U (decide (bF x n)))/\ω w w':=by
 obtain⟨t,ht⟩:∃t,Hid (t=cF x.m n):=⟨_,rfl⟩;have HC:Hid (∀W:Wd,Calls prog 285 #[I O (x.m:Nat),I O n] W λe w'=>e=υ (J #[I O (t.m:Nat),I O t.r])/\ω W w'):=λW=>by rw[ht.out];exact qe x.m n W (by have:=GQ hw;omega)
 have HE:Hid (decide (((t.m:Nat):Int)=((x.m:Nat):Int)/\t.r=x.r)=decide (bF x n)):=by unfold Hid;have h:=Jz hw n;rw[<-ht.out]at h;obtain⟨tm,tr⟩:=t;obtain⟨xm,xr⟩:=x;simp only[Sp.Cg.mk.injEq]at h;rw[Bool.eq_iff_iff,Õ,Õ,<-h];simp only;omega
 clear hw ht;have eT:∀w,(Op.equalIn 10000 85 (J #[I O (t.m:Nat),I O t.r]) (J #[I O (x.m:Nat),I O x.r])).run prog w=.ok (decide (((t.m:Nat):Int)=((x.m:Nat):Int)/\t.r=x.r)) w:=λw=>by rw[Vg]
 rw[HE.out]at eT;clear HE;generalize decide (bF x n)=res at*;generalize x.r=b at*;generalize ((x.m:Nat):Int)=a at*;have h0:iJ w w.heap.size w.heap.size w.heap.size a b a b (w.alloc (L #[I O a,I O b] 85)):=⟨heap_alloc_new _ _,heap_alloc_new _ _,⟨_,_,heap_alloc_new _ _⟩,below_alloc1 _ _⟩;go_enter func291,ntmps291;go_wp2_with fail;generalize w.alloc (L #[I O a,I O b] 85)=W at*;obtain⟨kx,hkx⟩:∃kx,kx=w.heap.size:=⟨_,rfl⟩;rw[<-hkx]at h0;rw[<-hkx];clear hkx;refine wp_region_held_drew (S:=λw':Wd=>iJ w kx kx kx a b a b w') Ã (h0.call (Å).drew) (λaa=>?_);generalize W.drew=V at*;refine tk 4 (J #[I O a,I O b]) rfl (λw' h=>by have q:=h.cells.1;have q2:=h.cells.2.1;go_simp) aa ?_;refine tq 0 (ρ (Y ⟨kx,0,M⟩)) aa ?_;refine tk 1 (I O a) rfl (λw' h=>by have q:=h.cells.1;go_simp) aa ?_;refine tq 2 (I O n) aa ?_;refine bP 3 λK hK=>?_
 simp only[bG,gd];go_simp;refine(HC.out _).mono ?_;rintro e w1⟨rfl,b1⟩;replace aa:=aa.call b1;clear b1;go_wp2_with fail;refine hK.out _ _ aa (λ_=>?_);clear hK K;refine bP 5 λK hK=>?_
 simp only[bG];go_simp;refine hK.out _ _ aa (λ_=>?_);clear hK K;refine bP 6 λK hK=>?_
 simp only[bG];go_simp;refine hK.out _ _ aa (λ_=>?_);clear hK K;refine wpAnyH_done Ã ?_ _;go_wp2_with fail;go_ret;exact⟨rfl,aa.b⟩
theorem ND(x:Sp.Cg)(w:Wd)(h0:0<x.m)(h1:x.m<=65536)(h2:x.r.natAbs<=65536) :
  Calls prog 293 #[J #[I O (x.m:Nat),I O x.r]] w λe w'=>e=υ (I O (cG x))/\ω w w':=by
 obtain⟨t,ht⟩:∃t,Hid (t=(x.r+32768)%((x.m:Nat):Int)):=⟨_,rfl⟩;have t1:0<=t:=by rw[ht.out];exact Int.emod_nonneg _ À
 have t2:t<x.m:=by rw[ht.out];exact Int.emod_lt_of_pos _ À
 have HC:Hid (∀W:Wd,Calls prog 292 #[I O (x.r+32768),I O (x.m:Nat)] W λe w'=>e=υ (I O t)/\w'=W):=λW=>by rw[ht.out];exact J8 (x.r+32768) (x.m:Nat) W À À
 have δ:Hid (cG x=-32768+t):=by unfold Hid cG;rw[ht.out]
 have e1:x.r - -32768=x.r+32768:=À;clear ht;go_enter func293,ntmps293;go_wp2_with fail;try simp only[e1]
 refine(HC.out _).mono ?_;rintro e w1⟨rfl,rfl⟩;go_wp2_with fail;go_ret;exact⟨by rw[δ.out];rfl,below_alloc1 _ _⟩
theorem LI(n:Int)(ap:Nat)(w:Wd)(h1:-32768<=n)(h2:n<=32767)(h3:ap<=4294967296) :
  Calls prog 294 #[I O n,I O (ap:Nat)] w λe w'=>e=υ (J #[I O ((if 32767<n+(ap:Nat) then⟨0,n⟩ else cF ap n:Sp.Cg).m:Nat),I O (if 32767<n+(ap:Nat) then⟨0,n⟩ else cF ap n:Sp.Cg).r])/\ω w w':=by
 by_cases hb:32767<n+(ap:Nat)
 .rw[Á hb]
  go_enter func294,ntmps294;go_wp2_with fail;go_returns;exact⟨rfl,by go_grown⟩
 .rw[Â hb]
  have HC:Hid (∀W:Wd,_):=λW=>qe ap n W À
  generalize cF ap n=t at*;go_enter func294,ntmps294;go_wp2_with fail;refine(HC.out _).mono ?_;rintro e w1⟨rfl,b1⟩;obtain⟨bw,hz⟩:=fN b1;obtain⟨m0,m1,jo,jH,mq⟩:=aI hz;have MQ:=hid (mq (I O (t.m:Nat)) (I O t.r));have BW:=hid bw;clear mq b1 bw hz HC;go_wp2_with fail;exact Ç (v:=J #[I O (t.m:Nat),I O t.r]) (by simp[results,results294,go_sem,MQ.1,MQ.2]) rfl ⟨rfl,(BW.setCell (p:=⟨w.heap.size,0,M⟩) È _).setCell (p:=⟨w.heap.size,1,M⟩) È _⟩
theorem L4(x:Sp.Cg)(w:Wd)(hw:cV x) :
  Calls prog 278 #[J #[],J #[I O (x.m:Nat),I O x.r]] w λe w'=>e=υ (J #[I O ((jS x).m:Nat),I O (jS x).r])/\ω w w':=by
 by_cases hm:x.m=0
 .have hr:pr x.r:=by
   rcases hw with h|h
   .exact h.2
   .omega
  obtain⟨r1,r2⟩:=hr;have δ:Hid (jS x=⟨0,wh (-x.r)⟩):=by unfold Hid jS;rw[Á hm]
  rw[δ.out];have hz:=uC (-x.r);obtain⟨z,xi⟩:∃z,Hid (z=wh (-x.r)):=⟨_,rfl⟩;rw[<-xi.out]at hz⊢;have e1:IntKind.i16.wrap (-x.r)=z:=xi.symm;have HA:Hid (∀W:Wd,Calls prog 272 #[J #[I O (x.m:Nat),I O x.r]] W λe w'=>e=υ (U true)/\ω W w'):=λW=>by
   have:=ib x.m x.r W
   rwa[decide_eq_true hm]at this
  have HN:Hid (∀W:Wd,_):=λW=>qO z W hz.1 hz.2
  clear xi δ hw hm;go_enter func278,ntmps278;go_wp2_with fail;refine(HA.out _).mono ?_;rintro e w1⟨rfl,b1⟩;obtain⟨k1,k2,k3,bw⟩:=bQ b1;have x0:=cell_of k2 0 (v:=I O (x.m:Nat)) rfl;have x1:=cell_of k2 1 (v:=I O x.r) rfl;have K1:=hid k1;have K3:=hid k3;have BW:=hid bw;clear b1 k1 k2 k3 bw HA;go_wp2_with fail;refine(HN.out _).mono ?_;rintro e w2⟨rfl,b2⟩;have ff:=(b2.block _ (ah K3.out)).trans K3.out;have B2:Hid (ω w w2):=BW.trans (b2.mono BW.size);obtain⟨m0,m1,jo,jH,mq⟩:=aI ff;have MQ:=hid (mq (I O 0) (I O z));clear mq ff b2 K3 BW x0 x1;go_wp2_with fail;exact Ç (v:=J #[I O 0,I O z]) (by simp[results,results278,go_sem,MQ.1,MQ.2]) rfl ⟨rfl,(B2.setCell (p:=⟨w.heap.size+1+1,0,M⟩) (by show w.heap.size<=w.heap.size+1+1;omega) _).setCell (p:=⟨w.heap.size+1+1,1,M⟩) (by show w.heap.size<=w.heap.size+1+1;omega) _⟩
 .have h5:1<=x.m/\x.m<=65536/\0<=x.r/\x.r<x.m:=by
   rcases hw with h|h
   .omega
   .exact h
  have δ:Hid (jS x=dR x.m (-x.r)):=by unfold Hid jS;rw[Â hm]
  rw[δ.out];have HA:Hid (∀W:Wd,Calls prog 272 #[J #[I O (x.m:Nat),I O x.r]] W λe w'=>e=υ (U false)/\ω W w'):=λW=>by
   have:=ib x.m x.r W
   rwa[decide_eq_false hm]at this
  have HN:Hid (∀W:Wd,_):=λW=>rR x.m (-x.r) W À
  generalize dR x.m (-x.r)=t at*;have e1:IntKind.i64.wrap (-x.r)=-x.r:=by rw[IntWalk.i64_in]<;>omega
  clear δ hw;go_enter func278,ntmps278;go_wp2_with fail;refine(HA.out _).mono ?_;rintro e w1⟨rfl,b1⟩;obtain⟨k1,k2,k3,bw⟩:=bQ b1;have x0:=cell_of k2 0 (v:=I O (x.m:Nat)) rfl;have x1:=cell_of k2 1 (v:=I O x.r) rfl;have K3:=hid k3;have BW:=hid bw;clear b1 k1 k2 k3 bw HA;go_wp2_with fail;refine(HN.out _).mono ?_;rintro e w2⟨rfl,b2⟩;have ff:=(b2.block _ (ah K3.out)).trans K3.out;have B2:Hid (ω w w2):=BW.trans (b2.mono BW.size);obtain⟨m0,m1,jo,jH,mq⟩:=aI ff;have MQ:=hid (mq (I O (t.m:Nat)) (I O t.r));clear mq ff b2 K3 BW x0 x1;go_wp2_with fail;exact Ç (v:=J #[I O (t.m:Nat),I O t.r]) (by simp[results,results278,go_sem,MQ.1,MQ.2]) rfl ⟨rfl,(B2.setCell (p:=⟨w.heap.size+1+1,0,M⟩) (by show w.heap.size<=w.heap.size+1+1;omega) _).setCell (p:=⟨w.heap.size+1+1,1,M⟩) (by show w.heap.size<=w.heap.size+1+1;omega) _⟩
theorem yX(x y:Sp.Cg)(w:Wd)(hx:cV x)(hy:cV y)(xy:0<x.m)(Yc:0<y.m) :
  Calls prog 290 #[J #[I O (x.m:Nat),I O x.r],J #[I O (y.m:Nat),I O y.r]] w λe w'=>e=υ (ni (bu x y))/\ω w w':=by
 obtain⟨tW,py⟩:=jQ hx;obtain⟨wG,xU⟩:=jQ hy;obtain⟨gg,vj⟩:∃gg,Hid (gg=Nat.gcd x.m y.m):=⟨_,rfl⟩;have hg0:0<gg:=by rw[vj.out];exact Nat.gcd_pos_of_pos_left _ xy
 obtain⟨q,hq⟩:∃q,Hid (q=x.m / gg):=⟨_,rfl⟩;obtain⟨ap,hap⟩:∃ap,Hid (ap=ew x.m y.m):=⟨_,rfl⟩;have hqa:Hid (q*y.m=ap):=by unfold Hid;rw[hap.out,hq.out,vj.out];rfl
 have hqb:q<=65536:=by rw[hq.out];exact Nat.le_trans (Nat.div_le_self _ _) tW
 have ZX:ap<=4294967296:=by rw[<-hqa.out];exact Nat.mul_le_mul hqb wG
 have ediv:(((x.m:Nat):Int)).tdiv (gg:Int)=(q:Nat):=by rw[hq.out];exact(Int.ofNat_tdiv x.m gg)
 have hdiv:IntKind.i64.wrap ((((x.m:Nat):Int)).tdiv (gg:Int))=(q:Nat):=by rw[ediv,IntWalk.i64_in]<;>omega
 have Z9:(q:Int)*((y.m:Nat):Int)=(ap:Nat):=by rw[<-hqa.out];exact(Int.natCast_mul q y.m).symm
 have hmul:IntKind.i64.wrap ((q:Int)*((y.m:Nat):Int))=(ap:Nat):=by rw[Z9,IntWalk.i64_in]<;>omega
 have hgi:¬((gg:Nat):Int)=0:=À;have IY:¬gg=0:=À;have hqw:IntKind.i64.wrap ((q:Nat):Int)=(q:Nat):=by rw[IntWalk.i64_in]<;>omega
 have abt:IntKind.i64.wrap ((ap:Nat):Int)=(ap:Nat):=by rw[IntWalk.i64_in]<;>omega
 obtain⟨f,hf⟩:∃f,Hid (f=cG x):=⟨_,rfl⟩;have hf1:-32768<=f/\f<=32768+65536:=by rw[hf.out];unfold cG;have h1:=Int.emod_nonneg (x.r+32768) (show((x.m:Nat):Int)≠0 by omega);have h2:=Int.emod_lt_of_pos (x.r+32768) (show(0:Int)<((x.m:Nat):Int) by omega);omega
 obtain⟨hf1,hf2⟩:=hf1;have HF:Hid (∀W:Wd,Calls prog 293 #[J #[I O (x.m:Nat),I O x.r]] W λe w'=>e=υ (I O f)/\ω W w'):=λW=>by rw[hf.out];exact ND x W xy tW py
 have HG:Hid (∀(W:Wd) (k:Nat),k=W.heap.size->Calls prog 286 #[Z (Y ⟨k,0,M⟩) 2 2] (W.alloc (L #[I O (x.m:Nat),I O (y.m:Nat)] 2)) λe w'=>e=υ (I O (gg:Nat))/\ω W w'):=λW k hk=>by rw[vj.out,hk];exact yL (x.m:Nat) (y.m:Nat) W À À
 obtain⟨ι,hM⟩:∃ι:Int->Bool,Hid (∀n,ι n=decide (bF y n)):=⟨_,λ_=>rfl⟩;have HM:Hid (∀(n:Int) (W:Wd),Calls prog 291 #[J #[I O (y.m:Nat),I O y.r],I O n] W λe w'=>e=υ (U (ι n))/\ω W w'):=λn W=>by rw[hM.out];exact PV y n W hy
 have HO:Hid (∀(n:Int) (W:Wd),-32768<=n->n<=32767->∃t:Sp.Cg,t=(if 32767<n+(ap:Nat) then⟨0,n⟩ else kI ap n:Sp.Cg)/\Calls prog 294 #[I O n,I O (ap:Nat)] W λe w'=>e=υ (J #[I O (t.m:Nat),I O t.r])/\ω W w'):=λn W h1 h2=>by
  have h0:ap≠0:=by rw[hap.out];exact Nat.pos_iff_ne_zero.1 (uq xy Yc)
  have h:=LI n ap W h1 h2 ZX;have e:cF ap n=kI ap n:=by unfold cF;rw[Â h0]
  rw[e]at h;exact⟨_,rfl,h⟩
 have HS:Hid (∀(k:Nat) (n:Int) (t:Sp.Cg),n=f+(k:Int)*((x.m:Nat):Int)->n<=32767->ι n=true->(∀j:Nat,j<k->ι (f+(j:Int)*((x.m:Nat):Int))=false)->t=(if 32767<n+(ap:Nat) then⟨0,n⟩ else kI ap n:Sp.Cg)->bu x y=Y t):=λk n t h1 h2 h3 h4 h5=>by subst h1;rw[h5,hap.out];rw[hf.out]at h2 h3 h4⊢;rw[hM.out]at h3;exact G1 xy Yc h2 (of_decide_eq_true h3) (λj hj=>of_decide_eq_false (by rw[<-hM.out];exact h4 j hj))
 have HE:Hid (∀(k:Nat) (n:Int),n=f+(k:Int)*((x.m:Nat):Int)->(32767<n∨f+(ap:Nat)<=n)->(∀j:Nat,j<k->ι (f+(j:Int)*((x.m:Nat):Int))=false)->bu x y=M):=λk n h1 h2 h3=>by subst h1;rw[hf.out]at h2 h3;refine Sp.u5 (k:=k) xy Yc ?_ (λj hj=>of_decide_eq_false (by rw[<-hM.out];exact h3 j hj));rw[<-hap.out];omega
 have oQ:(1:Int)<=((x.m:Nat):Int)/\((x.m:Nat):Int)<=65536:=À;obtain⟨oQ,X5⟩:=oQ;have abB:((ap:Nat):Int)<=4294967296:=À;clear hx hy xy Yc tW py wG xU vj hq hap hqa hqb ZX hf hg0;generalize bu x y=res at*;clear hM;generalize x.r=b at*;generalize y.r=d at*;generalize ((x.m:Nat):Int)=a at*;generalize ((y.m:Nat):Int)=c at*;have h0:iJ w (w.heap.size) (w.heap.size+1) (w.heap.size+1+1) a b c d (((w.alloc (L #[I O a,I O b] 85)).alloc (L #[I O c,I O d] 85)).alloc (L #[I O 0,I O 0] 85)):=by obtain⟨h1,h2,h3,hb⟩:=bQ (w:=w) (o1:=L #[I O a,I O b] 85) (o2:=L #[I O c,I O d] 85) (o3:=L #[I O 0,I O 0] 85) Å;exact⟨h1,h2,⟨_,_,h3⟩,hb⟩
 go_enter func290,ntmps290;go_wp2_with fail;generalize (((w.alloc (L #[I O a,I O b] 85)).alloc (L #[I O c,I O d] 85)).alloc (L #[I O 0,I O 0] 85))=W at*;obtain⟨kx,hkx⟩:∃kx,kx=(w.heap.size):=⟨_,rfl⟩;obtain⟨ky,hky⟩:∃ky,ky=(w.heap.size+1):=⟨_,rfl⟩;obtain⟨kr,hkr⟩:∃kr,kr=(w.heap.size+1+1):=⟨_,rfl⟩;have sG:kx≠kr:=À;have kM:ky≠kr:=À;have qZ:w.heap.size<=kr:=À;rw[<-hkr,<-hky,<-hkx]at h0;rw[<-hkr,<-hky,<-hkx];clear hkx hky hkr;refine wp_region_held_drew (S:=λw':Wd=>iJ w kx ky kr a b c d w') Ã (h0.call (Å).drew) (λaa=>?_);generalize W.drew=V at*;refine tq 0 (ρ (Y ⟨kx,0,M⟩)) aa ?_;refine tk 1 (I O a) rfl (λw' h=>by have q:=h.cells.1;go_simp) aa ?_;refine tq 2 (ρ (Y ⟨kx,0,M⟩)) aa ?_;refine tk 3 (I O a) rfl (λw' h=>by have q:=h.cells.1;go_simp) aa ?_;refine tq 4 (ρ (Y ⟨ky,0,M⟩)) aa ?_;refine tk 5 (I O c) rfl (λw' h=>by have q:=h.cells.2.2.1;go_simp) aa ?_;refine tq 9 (ρ (Y ⟨ky,0,M⟩)) aa ?_;refine tk 10 (I O c) rfl (λw' h=>by have q:=h.cells.2.2.1;go_simp) aa ?_;refine bP 6 λK hK=>?_
 simp only[bG,gd];go_simp;refine hK.out _ _ (aa.call (below_alloc1 _ _)) (λ_=>?_);clear hK K;refine bP 7 λK hK=>?_
 simp only[bG];go_simp;refine(HG.out _ _ (by first|rfl|simp)).mono ?_;rintro e w1⟨rfl,b1⟩;replace aa:=aa.call b1;clear b1;go_wp2_with fail;refine hK.out _ _ aa (λ_=>?_);clear hK K;refine bP 8 λK hK=>?_
 simp only[bG];go_simp;refine hK.out _ _ aa (λ_=>?_);clear hK K;refine bP 11 λK hK=>?_
 simp only[bG];go_simp;refine hK.out _ _ aa (λ_=>?_);clear hK K;refine bP 12 λK hK=>?_
 simp only[bG];go_simp;refine hK.out _ _ aa (λ_=>?_);clear hK K;refine wpAnyH_done Ã ?_ _;obtain⟨x0,x1,y0,y1⟩:=aa.cells;clear HG hdiv hmul ediv Z9 hqw hgi IY h0;go_wp2_with fail;refine(HF.out _).mono ?_;rintro e w2⟨rfl,b2⟩;have H2:Hid (iJ w kx ky kr a b c d w2):=aa.call b2;clear b2 aa HF x0 x1 y0 y1;go_wp2_with fail
 go_loopw [8] (λv8 wr=>∃(k:Nat) (n:Int),v8=I O n/\-32768<=n/\n<=200000/\Hid (n=f+(k:Int)*a)/\Hid (∀j:Nat,j<k->ι (f+(j:Int)*a)=false)/\Hid (iJ w kx ky kr a b c d wr)) (λv8 _=>(200000-intOf v8).toNat)
 case atStart=>exact⟨0,f,rfl,hf1,À,by simp[Hid],λj hj=>absurd hj (Nat.not_lt_zero j),H2⟩
 case round=>
  obtain⟨k,n,rfl,nO,Gb,Xw,MR,hq⟩:=hrel;clear H2;by_cases tZ:n<=32767
  .by_cases Xh:n<f+(ap:Nat)
   .obtain⟨x0,x1,y0,y1⟩:=hq.cells
    go_wp2_with fail;refine(HM.out n _).mono ?_;rintro e w3⟨rfl,b3⟩;have h3:=hq.call b3;clear b3 x0 x1 y0 y1;cases hMn:ι n with
    |true=>obtain⟨t,ht,hO⟩:=HO.out n w3 nO tZ;have δ:Hid (res=Y t):=HS.out k n t Xw.out tZ hMn MR.out ht;have HOt:=hid hO;clear hO ht hMn;go_wp2_with fail;refine HOt.mono ?_;rintro e w4⟨rfl,b4⟩;have HH:=h3.call b4;clear b4 h3 HOt;obtain⟨u0,v0,hr⟩:=HH.r;obtain⟨m0,m1,jo,jH,_⟩:=aI hr;have MQ:=hid (HH.there (I O (t.m:Nat)) (I O t.r));have BQ:Hid (ω w _):=(HH.put sG kM qZ (I O (t.m:Nat)) (I O t.r)).b;clear hr HH;go_wp2_with fail;exact Ç (v:=φ #[J #[I O (t.m:Nat),I O t.r],U true]) (by simp[results,results290,go_sem,MQ.1,MQ.2]) rfl ⟨ð δ.out,BQ.out⟩
    |false=>
     obtain⟨x0,x1,y0,y1⟩:=h3.cells;have H3:=hid h3;have HN:Hid (n+a=f+((k+1:Nat):Int)*a):=by unfold Hid;rw[Xw.out,Int.natCast_succ,Int.add_mul];omega
     have Xe:Hid (∀j:Nat,j<k+1->ι (f+(j:Int)*a)=false):=λj hj=>by
      by_cases e:j=k
      .subst e;rw[<-Xw.out];exact hMn
      .exact MR.out j À
     clear h3 hMn;go_wp2_with fail;exact⟨⟨k+1,n+a,rfl,À,À,HN,Xe,H3⟩,by simp[intOf];omega⟩
   .have δ:Hid (res=M):=HE.out k n Xw.out (.inr À) MR.out
    have abC:decide (n<f+((ap:Nat):Int))=false:=by simpa using Xh
    have HH:=hq.out;clear hq Xw MR;obtain⟨u0,v0,hr⟩:=HH.r;obtain⟨m0,m1,jo,jH,_⟩:=aI hr;have MQ:=hid (HH.there (I O 0) (I O 0));have BQ:Hid (ω w _):=(HH.put sG kM qZ (I O 0) (I O 0)).b;clear hr HH;go_wp2_with fail;exact Ç (v:=φ #[J #[I O 0,I O 0],U false]) (by simp[results,results290,go_sem,MQ.1,MQ.2]) rfl ⟨qQ δ.out,BQ.out⟩
  .have δ:Hid (res=M):=HE.out k n Xw.out (.inl À) MR.out
   have abu:decide (n<=32767)=false:=by simpa using tZ
   have HH:=hq.out;clear hq Xw MR;obtain⟨u0,v0,hr⟩:=HH.r;obtain⟨m0,m1,jo,jH,_⟩:=aI hr;have MQ:=hid (HH.there (I O 0) (I O 0));have BQ:Hid (ω w _):=(HH.put sG kM qZ (I O 0) (I O 0)).b;clear hr HH;go_wp2_with fail;exact Ç (v:=φ #[J #[I O 0,I O 0],U false]) (by simp[results,results290,go_sem,MQ.1,MQ.2]) rfl ⟨qQ δ.out,BQ.out⟩
theorem iJ.swap{kr:Nat}(h:iJ w kx ky kr a b c d W)(h1:kx≠kr)(h2:ky≠kr)(h3:kx≠ky)(h4:w.heap.size<=kx)(h5:w.heap.size<=ky):iJ w kx ky kr c d a b ((((W.setCell ⟨kx,0,M⟩ (I O c)).setCell ⟨kx,1,M⟩ (I O d)).setCell ⟨ky,0,M⟩ (I O a)).setCell ⟨ky,1,M⟩ (I O b)):=by
 have e1:=ai (ai h.x 0 (I O c)) 1 (I O d);have e2:((W.setCell ⟨kx,0,M⟩ (I O c)).setCell ⟨kx,1,M⟩ (I O d)).heap[ky]?=Y (L #[I O c,I O d] 85):=by rw[Æ _ _ _ _ h3.symm,Æ _ _ _ _ h3.symm];exact h.y
 have e3:=ai (ai e2 0 (I O a)) 1 (I O b);obtain⟨u,v,hr⟩:=h.r;refine⟨?_,e3,⟨u,v,?_⟩,?_⟩
 .rw[Æ _ _ _ _ h3,Æ _ _ _ _ h3];exact e1
 .rw[Æ _ _ _ _ h2.symm,Æ _ _ _ _ h2.symm,Æ _ _ _ _ h1.symm,Æ _ _ _ _ h1.symm];exact hr
 .exact(((h.b.setCell (p:=⟨kx,0,M⟩) h4 _).setCell (p:=⟨kx,1,M⟩) h4 _).setCell (p:=⟨ky,0,M⟩) h5 _).setCell (p:=⟨ky,1,M⟩) h5 _
theorem xI(x y:Sp.Cg)(w:Wd)(hx:cV x)(hy:cV y) :
  Calls prog 284 #[J #[I O (x.m:Nat),I O x.r],J #[I O (y.m:Nat),I O y.r]] w λe w'=>e=υ (ni (bu x y))/\ω w w':=by
 obtain⟨p,q,BN,hp,hq,hle,hme⟩:∃p q:Sp.Cg,((x.m<y.m/\p=y/\q=x)∨(¬x.m<y.m/\p=x/\q=y))/\cV p/\cV q/\q.m<=p.m/\bu x y=bu p q:=by
  by_cases h:x.m<y.m
  .exact⟨y,x,.inl ⟨h,rfl,rfl⟩,hy,hx,À,Sp.meet_comm x y⟩
  .exact⟨x,y,.inr ⟨h,rfl,rfl⟩,hx,hy,À,rfl⟩
 rw[hme];clear hme hx hy;have HA:Hid (∀W:Wd,_):=λW=>ib q.m q.r W
 have XT:Hid (∀W:Wd,_):=λW=>PV p q.r W hp
 have HM:Hid (¬q.m=0->∀W:Wd,Calls prog 290 #[J #[I O (p.m:Nat),I O p.r],J #[I O (q.m:Nat),I O q.r]] W λe w'=>e=υ (ni (bu p q))/\ω W w'):=λh W=>yX p q W hp hq À À
 have HE:Hid (q.m=0->bu p q=if bF p q.r then Y ⟨0,q.r⟩ else M):=λh=>by
  have hr:pr q.r:=by
   rcases hq with h|h
   .exact h.2
   .omega
  have e:q=⟨0,q.r⟩:=by cases q;simp only at h;rw[h]
  exact(Ë (bu p) e).trans (Ok (x:=p) hr).1
 have ZQ:Hid (((x.m:Int)<(y.m:Int)/\(p.m:Int)=(y.m:Int)/\p.r=y.r/\(q.m:Int)=(x.m:Int)/\q.r=x.r)∨(¬(x.m:Int)<(y.m:Int)/\(p.m:Int)=(x.m:Int)/\p.r=x.r/\(q.m:Int)=(y.m:Int)/\q.r=y.r)):=by
  unfold Hid
  rcases BN with⟨h,rfl,rfl⟩|⟨h,rfl,rfl⟩
  .exact .inl ⟨À,rfl,rfl,rfl,rfl⟩
  .exact .inr ⟨À,rfl,rfl,rfl,rfl⟩
 clear BN hp hq hle;generalize bu p q=res at*;obtain⟨A,hA⟩:∃A,A=((p.m:Nat):Int):=⟨_,rfl⟩;obtain⟨C,hC⟩:∃C,C=((q.m:Nat):Int):=⟨_,rfl⟩;rw[<-hA,<-hC]at ZQ;rw[<-hC]at HA;rw[<-hA]at XT;rw[<-hA,<-hC]at HM;have Nr:Hid (C=0↔q.m=0):=by unfold Hid;rw[hC];omega
 clear hA hC;generalize x.r=b at*;generalize y.r=d at*;generalize ((x.m:Nat):Int)=a at*;generalize ((y.m:Nat):Int)=c at*;have h0:iJ w (w.heap.size) (w.heap.size+1) (w.heap.size+1+1) a b c d (((w.alloc (L #[I O a,I O b] 85)).alloc (L #[I O c,I O d] 85)).alloc (L #[I O 0,I O 0] 85)):=by obtain⟨h1,h2,h3,hb⟩:=bQ (w:=w) (o1:=L #[I O a,I O b] 85) (o2:=L #[I O c,I O d] 85) (o3:=L #[I O 0,I O 0] 85) Å;exact⟨h1,h2,⟨_,_,h3⟩,hb⟩
 go_enter func284,ntmps284;go_upto_if 10 with fail;generalize (((w.alloc (L #[I O a,I O b] 85)).alloc (L #[I O c,I O d] 85)).alloc (L #[I O 0,I O 0] 85))=W at*;obtain⟨kx,hkx⟩:∃kx,kx=(w.heap.size):=⟨_,rfl⟩;obtain⟨ky,hky⟩:∃ky,ky=(w.heap.size+1):=⟨_,rfl⟩;obtain⟨kr,hkr⟩:∃kr,kr=(w.heap.size+1+1):=⟨_,rfl⟩;have sG:kx≠kr:=À;have kM:ky≠kr:=À;have qZ:w.heap.size<=kr:=À;have Tw:kx≠ky:=À;have zN:w.heap.size<=kx:=À;have Kq:w.heap.size<=ky:=À;rw[<-hkr,<-hky,<-hkx]at h0;rw[<-hkr,<-hky,<-hkx];clear hkx hky hkr
 go_cut [] from 6 to 12 (λwc=>Hid (iJ w kx ky kr A p.r C q.r wc))
 case first=>
  obtain⟨x0,x1,y0,y1⟩:=h0.cells;have xf0:=ay h0.x 0;have xf1:=ay h0.x 1;have wE:=ay h0.y 0;have wH:=ay h0.y 1
  rcases ZQ.out with⟨df,e1,e2,e3,e4⟩|⟨df,e1,e2,e3,e4⟩
  .have H1:Hid (iJ w kx ky kr A p.r C q.r ((((W.setCell ⟨kx,0,M⟩ (I O c)).setCell ⟨kx,1,M⟩ (I O d)).setCell ⟨ky,0,M⟩ (I O a)).setCell ⟨ky,1,M⟩ (I O b))):=by
    unfold Hid;rw[e1,e2,e3,e4];exact h0.swap sG kM Tw zN Kq
   clear e1 e2 e3 e4 ZQ h0 HA XT HM HE Nr;go_wp2_with fail;go_meet
   case rel=>exact H1
  .have H1:Hid (iJ w kx ky kr A p.r C q.r W):=by
    unfold Hid;rw[e1,e2,e3,e4];exact h0
   clear e1 e2 e3 e4 ZQ h0 HA XT HM HE Nr;go_wp2_with fail;go_meet
   case rel=>exact H1
 case rest=>
  have h1:=hcut.out;clear h0 hcut ZQ;generalize p.r=B at*;by_cases Q4:q.m=0
  .have δ:=HE.out Q4
   have Ra:=hid δ;rw[decide_eq_true Q4]at HA;have hC0:=Nr.2 Q4;have XY:=hid hC0;clear HE δ HM Nr hC0 Q4;obtain⟨x0,x1,y0,y1⟩:=h1.cells;go_wp2_with fail;refine(HA.out _).mono ?_;rintro e w1⟨rfl,b1⟩;have h2:=h1.call b1;clear x0 x1 y0 y1 b1 h1 HA;obtain⟨x0,x1,y0,y1⟩:=h2.cells;go_wp2_with fail;refine(XT.out _).mono ?_;rintro e w2⟨rfl,b2⟩;have HH:=h2.call b2;clear x0 x1 y0 y1 b2 h2 XT;by_cases hm:bF p q.r
   .have δ:Hid (res=Y ⟨0,q.r⟩):=by unfold Hid;rw[Ra.out,Á hm]
    rw[decide_eq_true hm];clear Ra hm;generalize q.r=D at*;obtain⟨x0,x1,y0,y1⟩:=HH.cells;obtain⟨u0,v0,hr⟩:=HH.r;obtain⟨m0,m1,jo,jH,_⟩:=aI hr;have MQ:=hid (HH.there (I O C) (I O D));have BQ:Hid (ω w _):=(HH.put sG kM qZ (I O C) (I O D)).b;clear hr HH;go_wp2_with fail;exact Ç (v:=φ #[J #[I O C,I O D],U true]) (by simp[results,results284,go_sem,MQ.1,MQ.2]) rfl ⟨by rw[XY.out];exact ð (a:=0) δ.out,BQ.out⟩
   .have δ:Hid (res=M):=by unfold Hid;rw[Ra.out,Â hm]
    rw[decide_eq_false hm];clear Ra hm;generalize q.r=D at*;obtain⟨u0,v0,hr⟩:=HH.r;obtain⟨m0,m1,jo,jH,_⟩:=aI hr;have MQ:=hid (HH.there (I O 0) (I O 0));have BQ:Hid (ω w _):=(HH.put sG kM qZ (I O 0) (I O 0)).b;clear hr HH;go_wp2_with fail;exact Ç (v:=φ #[J #[I O 0,I O 0],U false]) (by simp[results,results284,go_sem,MQ.1,MQ.2]) rfl ⟨qQ δ.out,BQ.out⟩
  .rw[decide_eq_false Q4]at HA
   have HM2:Hid (∀W:Wd,Calls _ _ _ W _):=HM.out Q4;clear HE XT HM Nr Q4;obtain⟨x0,x1,y0,y1⟩:=h1.cells;generalize q.r=D at*;go_wp2_with fail;refine(HA.out _).mono ?_;rintro e w1⟨rfl,b1⟩;have h2:=h1.call b1;clear x0 x1 y0 y1 b1 h1 HA;obtain⟨x0,x1,y0,y1⟩:=h2.cells;go_wp2_with fail;refine(HM2.out _).mono ?_;rintro e w2⟨rfl,b2⟩;have HH:=h2.call b2;clear x0 x1 y0 y1 b2 h2 HM2;cases res with
   |none=>simp only[ni];obtain⟨u0,v0,hr⟩:=HH.r;obtain⟨m0,m1,jo,jH,_⟩:=aI hr;have MQ:=hid (HH.there (I O 0) (I O 0));have BQ:Hid (ω w _):=(HH.put sG kM qZ (I O 0) (I O 0)).b;clear hr HH;go_wp2_with fail;exact Ç (v:=φ #[J #[I O 0,I O 0],U false]) (by simp[results,results284,go_sem,MQ.1,MQ.2]) rfl ⟨rfl,BQ.out⟩
   |some t=>simp only[ni];obtain⟨u0,v0,hr⟩:=HH.r;obtain⟨m0,m1,jo,jH,_⟩:=aI hr;have MQ:=hid (HH.there (I O (t.m:Nat)) (I O t.r));have BQ:Hid (ω w _):=(HH.put sG kM qZ (I O (t.m:Nat)) (I O t.r)).b;clear hr HH;go_wp2_with fail;exact Ç (v:=φ #[J #[I O (t.m:Nat),I O t.r],U true]) (by simp[results,results284,go_sem,MQ.1,MQ.2]) rfl ⟨rfl,BQ.out⟩
theorem Ph(r:Nat)(x y:Sp.Cg)(w:Wd)(hx:cV x)(hy:cV y) :
  Calls prog 273 #[J #[],I O (r:Nat),J #[I O (x.m:Nat),I O x.r],J #[I O (y.m:Nat),I O y.r]] w λe w'=>e=υ (ni (mg r x y))/\ω w w':=by
 have HM:Hid (∀W:Wd,_):=λW=>xI x y W hx hy
 unfold mg;by_cases h2:r=2
 .rw[Á h2]
  subst h2;clear hx hy;generalize bu x y=res at*;generalize x.r=b at*;generalize y.r=d at*;generalize ((x.m:Nat):Int)=a at*;generalize ((y.m:Nat):Int)=c at*;have h0:iJ w (w.heap.size+1) (w.heap.size+1+1) (w.heap.size+1+1+1) a b c d ((((w.alloc (L #[] 87)).alloc (L #[I O a,I O b] 85)).alloc (L #[I O c,I O d] 85)).alloc (L #[I O 0,I O 0] 85)):=by obtain⟨h1,h2,h3,h4,hb⟩:=cN (w:=w) (o1:=L #[] 87) (o2:=L #[I O a,I O b] 85) (o3:=L #[I O c,I O d] 85) (o4:=L #[I O 0,I O 0] 85) Å;exact⟨h2,h3,⟨_,_,h4⟩,hb⟩
  go_enter func273,ntmps273;go_wp2_with fail;generalize ((((w.alloc (L #[] 87)).alloc (L #[I O a,I O b] 85)).alloc (L #[I O c,I O d] 85)).alloc (L #[I O 0,I O 0] 85))=W at*;obtain⟨kx,hkx⟩:∃kx,kx=(w.heap.size+1):=⟨_,rfl⟩;obtain⟨ky,hky⟩:∃ky,ky=(w.heap.size+1+1):=⟨_,rfl⟩;obtain⟨kr,hkr⟩:∃kr,kr=(w.heap.size+1+1+1):=⟨_,rfl⟩;have sG:kx≠kr:=À;have kM:ky≠kr:=À;have qZ:w.heap.size<=kr:=À;rw[<-hkr,<-hky,<-hkx]at h0;rw[<-hkr,<-hky,<-hkx];clear hkx hky hkr;refine(HM.out _).mono ?_;rintro e w1⟨rfl,b1⟩;have HH:=h0.call b1;clear b1 h0 HM;cases res with
  |none=>simp only[ni];obtain⟨u0,v0,hr⟩:=HH.r;obtain⟨m0,m1,jo,jH,_⟩:=aI hr;have MQ:=hid (HH.there (I O 0) (I O 0));have BQ:Hid (ω w _):=(HH.put sG kM qZ (I O 0) (I O 0)).b;clear hr HH;go_wp2_with fail;exact Ç (v:=φ #[J #[I O 0,I O 0],U false]) (by simp[results,results273,go_sem,MQ.1,MQ.2]) rfl ⟨rfl,BQ.out⟩
  |some t=>simp only[ni];obtain⟨u0,v0,hr⟩:=HH.r;obtain⟨m0,m1,jo,jH,_⟩:=aI hr;have MQ:=hid (HH.there (I O (t.m:Nat)) (I O t.r));have BQ:Hid (ω w _):=(HH.put sG kM qZ (I O (t.m:Nat)) (I O t.r)).b;clear hr HH;go_wp2_with fail;exact Ç (v:=φ #[J #[I O (t.m:Nat),I O t.r],U true]) (by simp[results,results273,go_sem,MQ.1,MQ.2]) rfl ⟨rfl,BQ.out⟩
 .rw[Â h2]
  have Gq:¬((r:Nat):Int)=2:=À;clear HM h2 hx hy;go_enter func273,ntmps273;go_wp2_with fail;go_returns;exact⟨rfl,by go_grown⟩
structure Ag(w:Wd)(kx ky:Nat)(a b c d:Int)(W:Wd):Prop where
 x:W.heap[kx]?=Y (L #[I O a,I O b] 85)
 y:W.heap[ky]?=Y (L #[I O c,I O d] 85)
 b:ω w W
theorem Ag.call(h:Ag w kx ky a b c d W)(k:ω W W'):Ag w kx ky a b c d W':=
 ⟨(k.block _ (ah h.x)).trans h.x,(k.block _ (ah h.y)).trans h.y,h.b.trans (k.mono h.b.size)⟩
theorem Ag.cells(h:Ag w kx ky a b c d W):W.cell? ⟨kx,0,M⟩=Y (I O a)/\W.cell? ⟨kx,1,M⟩=Y (I O b)/\W.cell? ⟨ky,0,M⟩=Y (I O c)/\W.cell? ⟨ky,1,M⟩=Y (I O d):=
 ⟨cell_of h.x 0 rfl,cell_of h.x 1 rfl,cell_of h.y 0 rfl,cell_of h.y 1 rfl⟩
theorem LZ{x y:Sp.Cg}(hx:x.m=0)(hy:y.m=0)(hxr:pr x.r):sS r x y=Sp.holds r x.r y.r:=by
 unfold sS;rw[decide_eq_true hx,decide_eq_true hy];cases h:Sp.holds r x.r y.r with
 |false=>rfl
 |true=>
  by_cases h2:r=2
  .subst h2
   have e:x.r=y.r:=by simpa[Sp.holds] using h
   obtain⟨v,hv,_⟩:=Sp.xI (x:=x) (y:=y) (n:=x.r) hxr (by unfold bF;rw[Á hx]) (by unfold bF;rw[Á hy];exact e);simp[hv]
  .simp[h2]
theorem Lk{x y:Sp.Cg}(hn:¬(x.m=0/\y.m=0)):sS r x y=!(decide (r=2)&&(bu x y).isNone):=by
 unfold sS;have:(decide (x.m=0)&&decide (y.m=0))=false:=by rw[Bool.eq_false_iff];intro h;rw[à,Õ,Õ]at h;exact hn h
 rw[this];simp
theorem CX(r:Nat)(hr:r<6)(b d:Int)(w:Wd)(hb:pr b)(hd:pr d) :
  Calls prog 276 #[J #[],I O (r:Nat),J #[I O 0,I O b],J #[I O 0,I O d]] w λe w'=>e=υ (U (Sp.holds r b d))/\ω w w':=by
 have HO:Hid (∀W:Wd,_):=λW=>Eu r hr b d W
 have HA:Hid (∀(z:Int) (W:Wd),Calls prog 272 #[J #[I O 0,I O z]] W λe w'=>e=υ (U true)/\ω W w'):=λz W=>ib 0 z W
 generalize Sp.holds r b d=res at*;obtain⟨b1,b2⟩:=hb;obtain⟨d1,d2⟩:=hd;have e1:IntKind.i16.wrap b=b:=by rw[IntWalk.i16_in]<;>omega
 have e2:IntKind.i16.wrap d=d:=by rw[IntWalk.i16_in]<;>omega
 clear b1 b2 d1 d2 hr;have h0:Ag w (w.heap.size+1) (w.heap.size+1+1) 0 b 0 d (((w.alloc (L #[] 87)).alloc (L #[I O 0,I O b] 85)).alloc (L #[I O 0,I O d] 85)):=by obtain⟨_,h2,h3,hb⟩:=bQ (w:=w) (o1:=L #[] 87) (o2:=L #[I O 0,I O b] 85) (o3:=L #[I O 0,I O d] 85) Å;exact⟨h2,h3,hb⟩
 go_enter func276,ntmps276;go_upto_region 1 with fail;generalize (((w.alloc (L #[] 87)).alloc (L #[I O 0,I O b] 85)).alloc (L #[I O 0,I O d] 85))=W at*;obtain⟨kd,qq⟩:∃kd,kd=w.heap.size:=⟨_,rfl⟩;obtain⟨kx,hkx⟩:∃kx,kx=w.heap.size+1:=⟨_,rfl⟩;obtain⟨ky,hky⟩:∃ky,ky=w.heap.size+1+1:=⟨_,rfl⟩;rw[<-hky,<-hkx]at h0;rw[<-hky,<-hkx,<-qq];clear qq hkx hky;obtain⟨x0,x1,y0,y1⟩:=h0.cells;go_wp2_with fail;refine(HA.out _ _).mono ?_;rintro e w1⟨rfl,b1⟩;have h1:=h0.call b1;clear x0 x1 y0 y1 b1 h0;obtain⟨x0,x1,y0,y1⟩:=h1.cells;go_wp2_with fail;refine(HA.out _ _).mono ?_;rintro e w2⟨rfl,b1⟩;have h2:=h1.call b1;clear x0 x1 y0 y1 b1 h1 HA;obtain⟨x0,x1,y0,y1⟩:=h2.cells;go_wp2_with fail;refine(HO.out _).mono ?_;rintro e w3⟨rfl,rfl⟩;clear x0 x1 y0 y1 HO;go_wp2_with fail;go_ret;exact⟨rfl,h2.b⟩
theorem C4(r:Nat)(x y:Sp.Cg)(w:Wd)(hx:cV x)(hy:cV y)(hn:¬ (x.m=0/\y.m=0)) :
  Calls prog 276 #[J #[],I O (r:Nat),J #[I O (x.m:Nat),I O x.r],J #[I O (y.m:Nat),I O y.r]] w λe w'=>e=υ (U (!(decide (r=2)&&(bu x y).isNone)))/\ω w w':=by
 have HA:Hid (((∀W:Wd,Calls prog 272 #[J #[I O (x.m:Nat),I O x.r]] W λe w'=>e=υ (U true)/\ω W w')/\(∀W:Wd,Calls prog 272 #[J #[I O (y.m:Nat),I O y.r]] W λe w'=>e=υ (U false)/\ω W w'))∨(∀W:Wd,Calls prog 272 #[J #[I O (x.m:Nat),I O x.r]] W λe w'=>e=υ (U false)/\ω W w')):=by
  unfold Hid;by_cases h:x.m=0
  .refine .inl ⟨λW=>?_,λW=>?_⟩
   .have:=ib x.m x.r W;rwa[decide_eq_true h]at this
   .have:=ib y.m y.r W;rwa[decide_eq_false (λe=>hn ⟨h,e⟩)]at this
  .refine .inr (λW=>?_)
   have:=ib x.m x.r W;rwa[decide_eq_false h]at this
 have HM:Hid (∀W:Wd,_):=λW=>xI x y W hx hy
 clear hx hy hn;generalize bu x y=res at*;generalize x.r=b at*;generalize y.r=d at*;generalize ((x.m:Nat):Int)=a at*;generalize ((y.m:Nat):Int)=c at*;have h0:Ag w (w.heap.size+1) (w.heap.size+1+1) a b c d (((w.alloc (L #[] 87)).alloc (L #[I O a,I O b] 85)).alloc (L #[I O c,I O d] 85)):=by obtain⟨_,h2,h3,hb⟩:=bQ (w:=w) (o1:=L #[] 87) (o2:=L #[I O a,I O b] 85) (o3:=L #[I O c,I O d] 85) Å;exact⟨h2,h3,hb⟩
 go_enter func276,ntmps276;go_upto_region 1 with fail;generalize (((w.alloc (L #[] 87)).alloc (L #[I O a,I O b] 85)).alloc (L #[I O c,I O d] 85))=W at*;obtain⟨kd,qq⟩:∃kd,kd=w.heap.size:=⟨_,rfl⟩;obtain⟨kx,hkx⟩:∃kx,kx=w.heap.size+1:=⟨_,rfl⟩;obtain⟨ky,hky⟩:∃ky,ky=w.heap.size+1+1:=⟨_,rfl⟩;rw[<-hky,<-hkx]at h0;rw[<-hky,<-hkx,<-qq];clear qq hkx hky
 go_cut [16] from 11 to 16 (λv16 wc=>v16=U false/\Hid (Ag w kx ky a b c d wc))
 case first=>
  obtain⟨x0,x1,y0,y1⟩:=h0.cells
  rcases HA.out with⟨HX,HY⟩|HX
  .go_wp2_with fail
   refine(HX W).mono ?_;rintro e w1⟨rfl,b1⟩;have h1:=h0.call b1;clear x0 x1 y0 y1;obtain⟨x0,x1,y0,y1⟩:=h1.cells;go_wp2_with fail;refine(HY w1).mono ?_;rintro e w2⟨rfl,b2⟩;have H2:Hid (Ag w kx ky a b c d w2):=h1.call b2;clear x0 x1 y0 y1 h1 b1 b2;go_wp2_with fail;go_meet;exact⟨rfl,H2⟩
  .go_wp2_with fail
   refine(HX W).mono ?_;rintro e w1⟨rfl,b1⟩;have H1:Hid (Ag w kx ky a b c d w1):=h0.call b1;clear x0 x1 y0 y1 b1;go_wp2_with fail;go_meet;exact⟨rfl,H1⟩
 case rest=>
  obtain⟨rfl,hcut⟩:=hcut;have h1:=hcut.out;clear h0 hcut HA;by_cases h2:r=2
  .subst h2
   obtain⟨x0,x1,y0,y1⟩:=h1.cells;go_wp2_with fail;refine(HM.out _).mono ?_;rintro e w1⟨rfl,b1⟩;have BB:Hid (ω w w1):=(h1.call b1).b;clear x0 x1 y0 y1 b1 h1 HM;cases res with
   |none=>simp only[ni];go_wp2_with fail;go_ret;exact⟨rfl,BB.alloc BB.size _⟩
   |some t=>simp only[ni];go_wp2_with fail;go_ret;exact⟨rfl,BB.alloc BB.size _⟩
  .have Gq:¬((r:Nat):Int)=2:=À
   have Ra:Hid (decide (r=2)=false):=decide_eq_false h2;clear HM h2;go_wp2_with fail;go_ret;exact⟨bt (by rw[Ra.out];rfl),h1.b⟩
theorem UJ(r:Nat)(hr:r<6)(x y:Sp.Cg)(w:Wd)(hx:cV x)(hy:cV y) :
  Calls prog 276 #[J #[],I O (r:Nat),J #[I O (x.m:Nat),I O x.r],J #[I O (y.m:Nat),I O y.r]] w λe w'=>e=υ (U (sS r x y))/\ω w w':=by
 by_cases hn:x.m=0/\y.m=0
 .have QZ:pr x.r:=by
   rcases hx with h|h
   .exact h.2
   .omega
  have XX:pr y.r:=by
   rcases hy with h|h
   .exact h.2
   .omega
  rw[LZ hn.1 hn.2 QZ,hn.1,hn.2];exact CX r hr x.r y.r w QZ XX
 .rw[Lk hn]
  exact C4 r x y w hx hy hn
theorem OC(dv:Value)(r:Nat)(hr:r<6)(a b c d:Int)(w:Wd)(h1:-32768<=c)(h2:c<=32767)(h3:-32768<=d)(h4:d<=32767) :
  Calls prog 296 #[J #[dv],I O (r:Nat),J #[I ψ a,I ψ b],J #[I ψ c,I ψ d]] w λe w'=>e=υ (iW (nY r ⟨a,b⟩ ⟨c,d⟩))/\ω w w':=by
 obtain⟨o,ho⟩:∃o,Hid (o=nY r ⟨a,b⟩ ⟨c,d⟩):=⟨_,rfl⟩;rw[<-ho.out];obtain⟨p,q,ok,hp⟩:=Jx o;rw[hp]
 rcases(show r=0∨r=1∨r=2∨r=3∨r=4∨r=5 from À) with rfl|rfl|rfl|rfl|rfl|rfl
 all_goals
  go_enter func296,ntmps296;go_wp2_with fail
 refine(FO a b d _ h3 h4).mono ?_
 rotate_left 1
 refine(qK a b (-32768) d _).mono ?_
 rotate_left 1
 refine(qK a b c d _).mono ?_
 rotate_left 1
 refine(ME a b c d _ h1 h2 h3 h4).mono ?_
 rotate_left 1
 refine(qK a b c 32767 _).mono ?_
 rotate_left 1
 refine(EH a b c _ h1 h2).mono ?_
 all_goals
  rintro e w1⟨he,b1⟩;obtain rfl:e=υ (φ #[J #[I ψ p,I ψ q],U ok]):=by rw[<-hp,ho.out];exact he
  obtain⟨_,_,_,hz,bw⟩:=cN b1;obtain⟨m0,m1,jo,jH,mq⟩:=aI hz;have BW:=hid bw;have MQ:=hid (mq (I ψ p) (I ψ q));clear b1 bw hz mq he hp ho;go_wp2_with fail;exact Ç (v:=φ #[J #[I ψ p,I ψ q],U ok]) (by simp[results,results296,go_sem,MQ.1,MQ.2]) rfl ⟨rfl,(BW.setCell (p:=⟨w.heap.size+1+1+1,0,M⟩) (by show w.heap.size<=w.heap.size+1+1+1;omega) _).setCell (p:=⟨w.heap.size+1+1+1,1,M⟩) (by show w.heap.size<=w.heap.size+1+1+1;omega) _⟩
end
end Go.Proofs.YtiopfihjmkfdmabGreatDoor
