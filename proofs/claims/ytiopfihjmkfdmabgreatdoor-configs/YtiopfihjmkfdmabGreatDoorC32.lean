import Derived.Test.YtiopfihjmkfdmabGreatDoorC26
import Derived.Test.YtiopfihjmkfdmabGreatDoorC31
namespace Go.Proofs.YtiopfihjmkfdmabGreatDoor
open Option renaming none->M,some->Y
open Go.Value renaming int->I,slice->Z,agg->J,bool->U,pointer->ρ,tuple->φ,string->χ
open Go.IntKind renaming i64->O
open Go.Obj renaming cells->L
open Go.Ending renaming returned->υ
open Go.Proofs.Tryz Sp
set_option maxRecDepth 100000
set_option maxHeartbeats 16000000
section
namespace RG
open Go.RowKit W
theorem IB(x y:T):decide (max x.a y.a<=min x.b y.b)=(dB x y).isSome:=by
 unfold dB;split
 .rename_i h;simp[h]
 .rename_i h;simp[h]
theorem Y2:RD true:=by
 refine⟨λn w=>SN n w,λw=>Nv w,λ{x} _ w=>VO x.a x.b w,λ{x} h w=>Oj x.a x.b w h.1 h.2.1 h.2.2,λ{x y} h k w=>RZ x.a x.b y.a y.b w h.1 h.2.1 h.2.2 k.1 k.2.1 k.2.2,λk hk {x y} hx hy w=>?_,λ_ r hr {x y} h k w=>OH r hr x.a x.b y.a y.b w h.1 h.2.1 h.2.2 k.1 k.2.1 k.2.2,λ_ r hr {x y} h k w=>N7 r hr x.a x.b y.a y.b w h.2.1 k.2.1,λ{x y} _ _ w=>?_⟩
 .refine(D3 k hk x.a x.b y.a y.b w hx.1 hx.2.1 hx.2.2 hy.1 hy.2.1 hy.2.2).mono ?_
  rintro e w'⟨rfl,hb⟩;cases q:nP k x y with
  |none=>exact⟨0,0,false,rfl,by rw[show qj true k x y=M from q];exact rfl,hb⟩
  |some v=>exact⟨v.a,v.b,true,rfl,by rw[show qj true k x y=Y v from q];exact⟨rfl,rfl,rfl,(pd []).wwork k x y v hx hy q⟩,hb⟩
 .refine(RY x.a x.b y.a y.b w).mono ?_
  rintro e w'⟨rfl,hb⟩;refine⟨?_,hb⟩;rw[IB];rfl
theorem YS(C:Rc true):RW C:=⟨λl F g1 g2 e f w h1 h2 h3 h4=>mL C F l g1 g2 e f w h1 h2 h3 h4,λl F g1 g2 e f w h1 h2 h3 h4=>yK C F l g1 g2 e f w h1 h2 h3 h4⟩
end RG
end
section
namespace RG
open Go.RowKit W
variable {E: Bool}
section
variable{g cap n k ge a:Nat}
variable{ns:List aK}
variable{d:aK}
theorem IJ{C:Rc E}(G:aw E){n:Nat}(π:Gd C g)(ct:Ct)(hd:ns[k]?=Y d)(hk:d.kind=2)(hn:d.n=(n:Int))(hm:n<8):kf C G g cap ns (.name n) k ct:=by
 intro F e ge rec w hR hL he nN hr;have HW:=tj π hR hL nN d;obtain⟨W,hW⟩:∃W,wW w ge d=W:=⟨_,rfl⟩;rw[hW]at HW;unfold wW at hW;rw[hk]at hW;have m0:=cell_of hR.aV 0 (v:=ρ (Y ⟨C.pb,0,M⟩)) rfl;have c0:=hL.slice;obtain⟨df,r0,r1,r2,r3,r4,r5,r6,r7,r8,r9⟩:=hL.facts hd;have h1:=hL.nH;have h2:=hL.hmax;have h3:=hL.hn;have lp:=hL.ltp;have lg:=hL.ltg;have lb:C.b<w.heap.size:=ah hR.aV;rw[hk]at r0;have H:=hid HW;have HE:=hid he;have HG:=hid π;have HK:Hid (d.kind=2/\d.n=(n:Int)):=⟨hk,hn⟩;clear hR hL nN he hr hd HW π hk hn;go_enter func58,ntmps58;go_upto_region 2 with fail;try rw[hW]
 obtain⟨k6,e6⟩:∃k6,k6=w.heap.size:=⟨_,rfl⟩;obtain⟨k8,e8⟩:∃k8,k8=w.heap.size+1:=⟨_,rfl⟩;obtain⟨kn,en⟩:∃kn,kn=w.heap.size+1+1:=⟨_,rfl⟩;rw[<-en,<-e8,<-e6];rw[<-en,<-e8,<-e6]at H;clear hW m0 c0 r0 r1 r2 r3 r4 r5 r6 r7 r8 r9 h1 h2 h3 lp lg lb df e6 e8 en;have n0:=cell_of H.nd 0 (v:=I O 2) (by rw[<-HK.1];rfl);have n4:=cell_of H.nd 4 (v:=I O (n:Int)) (by rw[<-HK.2];rfl);have b1:=cell_of H.box 1 (v:=Z (Y ⟨ge,0,M⟩) 8 8) rfl;obtain⟨va,vb⟩:=mi e n hm;have z0:=cell_of H.env _ va;have z1:=cell_of H.env _ vb;have HX:Hid (told G rec F (dJ G (.name n) ct e).1=F/\SS E (pA (e ⟨n,hm⟩)) (pB (e ⟨n,hm⟩)) true (dJ G (.name n) ct e).2):=⟨eI G rec F,by show SS E _ _ _ (Y (pV (Dm G) e n));have q:pV (Dm G) e n=e ⟨n,hm⟩:=dif_pos hm;rw[q];exact⟨rfl,rfl,rfl,HE.out _⟩⟩;have hmi:((n:Nat):Int)<8:=À;clear va vb;generalize pA (e ⟨n,hm⟩)=xa at*;generalize pB (e ⟨n,hm⟩)=xb at*;have h9:=H.out;obtain⟨y0,y1,wE,wH,mq⟩:=aI h9.res;have MQ:=hid (mq (I O xa) (I O xb));have HT:=hid (h9.ret (I O xa) (I O xb));clear h9 mq H;go_wp2_with fail;exact Ç (v:=φ #[J #[I O xa,I O xb],U true]) (by simp[results,results58,go_sem,MQ.1,MQ.2]) rfl ⟨xa,xb,true,rfl,by rw[HX.1];exact HT.1,HT.2,HX.2⟩
theorem jM.fill{C:Rc E}{e:di}{w:Wd}{k6 k8 kn:Nat}{F:jg}{W:Wd}(π:Gd C g)(h:jM C g cap ns e ge d w k6 k8 kn F W){u v:Value}(hk:Bk W k #[u,v] 117)(hl:w.heap.size<=k)(n8:k≠k8)(a b:Value) :
  jM C g cap ns e ge d w k6 k8 kn F ((W.setCell ⟨k,0,M⟩ a).setCell ⟨k,1,M⟩ b)/\((W.setCell ⟨k,0,M⟩ a).setCell ⟨k,1,M⟩ b).heap[k]?=Y (L #[a,b] 117):=by
 obtain⟨l1,l2⟩:=h.lt;have hb:k≠C.b:=λq=>by have:=h.ra.aV;rw[<-q,hk]at this;cases this
 have hle:C.base<=w.heap.size:=Nat.le_trans h.ra.lf À;have h6:k6≠k:=λq=>by have:=h.box;rw[q,hk]at this;cases this
 have hn:kn≠k:=λq=>by have:=h.nd;rw[q,hk]at this;cases this
 have he:ge≠k:=λq=>by have:=h.env;rw[q,hk]at this;exact Fz _ rfl _ _ this
 have iO:∀j,j≠k->((W.setCell ⟨k,0,M⟩ a).setCell ⟨k,1,M⟩ b).heap[j]?=W.heap[j]?:=λj hj=>by rw[Æ _ _ _ _ hj,Æ _ _ _ _ hj]
 exact⟨⟨h.ra.own (k:=k) hb À À (λe=>by rw[hk];exact Fz _ rfl _ _) iO,FI π h.look (((Å).setCell (p:=⟨k,0,M⟩) (Nat.le_trans hle hl) _).setCell (p:=⟨k,1,M⟩) (Nat.le_trans hle hl) _),(iO _ he).trans h.env,(iO _ h6).trans h.box,(iO _ n8.symm).trans h.res,(iO _ hn).trans h.nd,(h.bH.own hl hle _ _).own hl hle _ _,.inr ⟨l1,l2⟩,h.l6,h.l8,h.ln⟩,by rw[ai (ai hk 0 a) 1 b];rfl⟩
theorem Mx{C:Rc E}(G:aw E){x:Sm}{a:Nat}(π:Gd C g){ct:Ct}(hd:ns[k]?=Y d)(hk:d.kind=3)(ha:d.a=(a:Int))(IH:kf C G g cap ns x a ct):kf C G g cap ns (.neg x) k ct:=by
 intro F e ge rec w hR hL he nN hr;have HW:=tj π hR hL nN d;obtain⟨W,hW⟩:∃W,wW w ge d=W:=⟨_,rfl⟩;rw[hW]at HW;unfold wW at hW;rw[hk]at hW;have m0:=cell_of hR.aV 0 (v:=ρ (Y ⟨C.pb,0,M⟩)) rfl;have c0:=hL.slice;obtain⟨df,r0,r1,r2,r3,r4,r5,r6,r7,r8,r9⟩:=hL.facts hd;have h1:=hL.nH;have h2:=hL.hmax;have h3:=hL.hn;have lp:=hL.ltp;have lg:=hL.ltg;have lb:C.b<w.heap.size:=ah hR.aV;rw[hk]at r0;have H:=hid HW;have HE:=hid he;have HG:=hid π;have HC:=hid (IH F e ge rec W HW.ra HW.look he HW.env hr);have HK:Hid (d.kind=3/\d.a=(a:Int)):=⟨hk,ha⟩;clear hR hL nN he hr hd HW π hk ha IH;go_enter func58,ntmps58;go_upto_region 2 with fail;try rw[hW]
 obtain⟨k6,e6⟩:∃k6,k6=w.heap.size:=⟨_,rfl⟩;obtain⟨k8,e8⟩:∃k8,k8=w.heap.size+1:=⟨_,rfl⟩;obtain⟨kn,en⟩:∃kn,kn=w.heap.size+1+1:=⟨_,rfl⟩;rw[<-en,<-e8,<-e6];rw[<-en,<-e8,<-e6]at H;clear hW m0 c0 r0 r1 r2 r3 r4 r5 r6 r7 r8 r9 h1 h2 h3 lp lg lb df e6 e8 en;have n0:=cell_of H.nd 0 (v:=I O 3) (by rw[<-HK.1];rfl);have n1:=cell_of H.nd 1 (v:=I O (a:Int)) (by rw[<-HK.2];rfl);have b0:=cell_of H.box 0 (v:=U false) rfl;have b1:=cell_of H.box 1 (v:=Z (Y ⟨ge,0,M⟩) 8 8) rfl;go_wp2_with fail;refine HC.mono ?_;rintro r w2⟨xa,xb,ok,rfl,r2,k2,o2⟩;have h2:=H.step HG.out r2 k2;have h3:=h2.call HG.out (below_alloc1 w2 (L #[I O xa,I O xb] 117));have hv:=heap_alloc_new w2 (L #[I O xa,I O xb] 117);have Zc:w.heap.size<=w2.heap.size/\w2.heap.size≠k8:=⟨h2.bH.below.size,by have:=ah h2.res;omega⟩;clear HC H n0 n1 b0 b1 r2 k2 h2;go_upto_region 10 with fail;have HL:=hid Zc;clear Zc;generalize w2.alloc (L #[I O xa,I O xb] 117)=X at*;generalize w2.heap.size=kv at*;cases hx:(dJ G x ct e).2 with
 |none=>
  rw[hx]at o2;obtain rfl:ok=false:=o2;have HX:Hid (SS E xa xb false (dJ G (.neg x) ct e).2):=by have q:(dJ G (.neg x) ct e).2=(dJ G x ct e).2.map (Dm G).neg:=rfl;unfold Hid;rw[q,hx];rfl
  clear hx;obtain⟨v0,v1,_,_,_⟩:=aI hv;have h9:=h3;clear h3 hv;obtain⟨y0,y1,wE,wH,mq⟩:=aI h9.res;have MQ:=hid (mq (I O xa) (I O xb));have HT:=hid (h9.ret (I O xa) (I O xb));clear h9 mq;go_wp2_with fail;exact Ç (v:=φ #[J #[I O xa,I O xb],U false]) (by simp[results,results58,go_sem,MQ.1,MQ.2]) rfl ⟨xa,xb,false,rfl,HT.1,HT.2,HX.out⟩
 |some x0=>
  rw[hx]at o2;obtain⟨rfl,rfl,rfl,wx⟩:=o2;have HX:Hid (SS E (pA (kD E x0)) (pB (kD E x0)) true (dJ G (.neg x) ct e).2):=by have q:(dJ G (.neg x) ct e).2=(dJ G x ct e).2.map (Dm G).neg:=rfl;unfold Hid;rw[q,hx];exact⟨rfl,rfl,rfl,(Kr G).wneg _ wx⟩
  have HM:Hid (∀w:Wd,Calls _ _ _ _ _):=λw=>h3.ra.ch.minus wx w
  generalize pA (kD E x0)=ya at*;generalize pB (kD E x0)=yb at*;clear hx wx;have HS:=hid (And.intro h3 hv);obtain⟨v0,v1,_,_,_⟩:=aI hv;clear h3 hv;go_wp2_with fail;have hS:jM C g cap ns e ge d w k6 k8 kn (told G rec F (dJ G x ct e).1) X.drew/\X.drew.heap[kv]?=Y (L #[I O (pA x0),I O (pB x0)] 117):=⟨HS.1.call HG.out (Å).drew,HS.2⟩;refine wp_region_held_drew (S:=λw':Wd=>jM C g cap ns e ge d w k6 k8 kn (told G rec F (dJ G x ct e).1) w'/\∃u v,w'.heap[kv]?=Y (L #[u,v] 117)) Ã ⟨hS.1,_,_,hS.2⟩ (λaa=>?_);generalize X.drew=V at*;refine tq 0 (ρ (Y ⟨C.b,0,M⟩)) aa ?_;refine tq 1 (ρ (Y ⟨C.b,0,M⟩)) aa ?_;refine tq 2 (ρ (Y ⟨C.b,1,M⟩)) aa ?_;refine tq 3 (ρ (Y ⟨C.b,1,M⟩)) aa ?_;refine tk 4 (I O (dn E)) rfl (λw' h=>by have q:=h.1.ra.cells.1;go_simp) aa ?_;obtain⟨v0',v1',_,_,_⟩:=aI hS.2;refine bP 5 λK hK=>?_
  simp only[bG,gd];go_simp;refine hK.out _ _ aa (λ_=>?_);clear hK K;refine bP 6 λK hK=>?_
  simp only[bG];go_simp;refine(HM.out _).mono ?_;rintro r w8⟨rfl,b8⟩;have AG:=(b8.block _ (ah hS.2)).trans hS.2;have h8:=hS.1.call HG.out b8;obtain⟨q0,q1,oR,oP,_⟩:=aI AG;have h9:=h8.fill HG.out AG HL.1 HL.2 (I O ya) (I O yb);clear b8 v0' v1' v0 v1;go_wp2_with fail;refine hK.out _ _ ⟨h8,_,_,AG⟩ (λ_=>?_);clear hK K;refine bP 7 λK hK=>?_
  simp only[bG];go_simp;refine hK.out _ _ ⟨h9.1,_,_,h9.2⟩ (λ_=>?_);clear hK K;refine wpAnyH_done Ã ?_ _;obtain⟨h9,hv⟩:=h9;obtain⟨v0,v1,_,_,_⟩:=aI hv;clear q0 q1 oR oP AG h8 aa hS HS;generalize (w8.setCell ⟨kv,0,M⟩ (I O ya)).setCell ⟨kv,1,M⟩ (I O yb)=κ at*;obtain⟨y0,y1,wE,wH,mq⟩:=aI h9.res;have MQ:=hid (mq (I O ya) (I O yb));have HT:=hid (h9.ret (I O ya) (I O yb));clear h9 mq;go_wp2_with fail;exact Ç (v:=φ #[J #[I O ya,I O yb],U true]) (by simp[results,results58,go_sem,MQ.1,MQ.2]) rfl ⟨ya,yb,true,rfl,HT.1,HT.2,HX.out⟩
end
end RG
end
section
namespace RG
open Go.RowKit W
variable {E: Bool}
section
variable{g cap op lo:Nat}
variable{ns:List aK}
def rz(op:Nat)(q:Int)(bad:Bool):List (fG T):=if 3<=op then [.site q bad] else []
theorem yt(G:aw E)(k:Nat)(x y:Sm)(ct:Ct)(s:di)(es:List (fG T))(h:dJ G x ct s=(es,M)):dJ G (.bin k x y) ct s=(es,M):=Sp.yt (Dm G) k x y ct s es h
theorem uA(G:aw E)(k:Nat)(x y:Sm)(ct:Ct)(s:di)(es:List (fG T))(a:T)(dU:List (fG T))(h:dJ G x ct s=(es,Y a))(h2:dJ G y (if 3<=k then Sp.aL (Sp.cS x ct) else Sp.cS x ct) s=(dU,M)):dJ G (.bin k x y) ct s=(es++dU,M):=Sp.uA (Dm G) k x y ct s es a dU h h2
theorem PA(G:aw E)(k:Nat)(x y:Sm)(ct:Ct)(s:di)(es:List (fG T))(a:T)(dU:List (fG T))(c:T)(h:dJ G x ct s=(es,Y a))(h2:dJ G y (if 3<=k then Sp.aL (Sp.cS x ct) else Sp.cS x ct) s=(dU,Y c)):dJ G (.bin k x y) ct s=(es++dU++rz k (Sp.cS x ct).2 ((Dm G).nought c),qj E k a c):=by
 by_cases h3:3<=k
 .rw[rz,Á h3];exact Qb (Dm G) k x y ct s es a dU c h h2 h3
 .rw[rz,Â h3,List.append_nil];exact NU (Dm G) k x y ct s es a dU c h h2 h3
theorem A7{C:Rc E}(G:aw E){F:jg}(op:Nat)(q:Int)(bad rec:Bool){w:Wd}(h:bE C F w)(hr:dk rec F (rz op q bad)) :
  Calls prog 62 #[ρ (Y ⟨C.b,0,M⟩),I O (if 3<=op then q else -1),U bad,U rec] w λr w'=>r=υ (φ #[])/\bE C (told G rec F (rz op q bad)) w'/\RK C w w':=by
 unfold rz at hr⊢;cases rec with
 |false=>exact(Md C.b _ bad w).mono λr w' ⟨h1,h2⟩=>⟨h1,by rw[h2];exact h,by rw[h2];exact RK.refl _ _⟩
 |true=>
  by_cases h3:3<=op
  .simp only[Á h3]at hr⊢
   obtain⟨q0,q1⟩:=hr rfl _ (List.mem_cons_self ..);obtain⟨n,rfl⟩:=Int.eq_ofNat_of_zero_le q0;exact OR C G F n bad w h (by simpa using q1)
  .simp only[Â h3]
   exact(Mt C.b (-1) bad w À).mono λr w' ⟨h1,h2⟩=>⟨h1,by rw[h2];exact h,by rw[h2];exact RK.refl _ _⟩
theorem KN{C:Rc E}(G:aw E){x y:Sm}{a b k:Nat}{d:aK}(π:Gd C g){ct:Ct}(hd:ns[k]?=Y d)(hk:d.kind=4)(ha:d.a=(a:Int))(hb:d.b=(b:Int))(hs:d.sign=bB op)(iM:op<5)(Kw:d.site=if 3<=op then(Sp.cS x ct).2 else -1)
  (IHx:kf C G g cap ns x a ct) (IHy:kf C G g cap ns y b (if 3<=op then Sp.aL (Sp.cS x ct) else Sp.cS x ct)):kf C G g cap ns (.bin op x y) k ct:=by
 intro F e ge rec w hR hL he nN hr;have HW:=tj π hR hL nN d;obtain⟨W,hW⟩:∃W,wW w ge d=W:=⟨_,rfl⟩;rw[hW]at HW;unfold wW at hW;rw[hk]at hW;have m0:=cell_of hR.aV 0 (v:=ρ (Y ⟨C.pb,0,M⟩)) rfl;have c0:=hL.slice;obtain⟨df,r0,r1,r2,r3,r4,r5,r6,r7,r8,r9⟩:=hL.facts hd;have h1:=hL.nH;have h2:=hL.hmax;have h3:=hL.hn;have lp:=hL.ltp;have lg:=hL.ltg;have lb:C.b<w.heap.size:=ah hR.aV;rw[hk]at r0;have H:=hid HW;have HE:=hid he;have HG:=hid π;obtain⟨es,vx,ex⟩:∃(es:List (fG T)) (vx:Option T),dJ G x ct e=(es,vx):=⟨_,_,rfl⟩;obtain⟨dU,vy,ey⟩:∃(dU:List (fG T)) (vy:Option T),dJ G y (if 3<=op then Sp.aL (Sp.cS x ct) else Sp.cS x ct) e=(dU,vy):=⟨_,_,rfl⟩;have HR:=hid hr;have EX:=hid ex;have EY:=hid ey;have hrx:dk rec F es:=by
  cases vx with
  |none=>rw[yt G op x y ct e es ex]at hr;exact hr
  |some x0=>
   cases vy with
   |none=>rw[uA G op x y ct e es x0 dU ex ey]at hr;exact dk.left (es':=dU) hr
   |some y0=>rw[PA G op x y ct e es x0 dU y0 ex ey]at hr;exact dk.left (es':=dU) (dk.left (es':=rz op (Sp.cS x ct).2 ((Dm G).nought y0)) hr)
 have HIY:=hid IHy;have HC:=IHx F e ge rec W HW.ra HW.look he HW.env (by rw[ex];exact hrx);rw[ex]at HC;have Gk:=hid HC;have HK:Hid (d.kind=4/\d.a=(a:Int)/\d.b=(b:Int)/\d.sign=bB op/\d.site=if 3<=op then(Sp.cS x ct).2 else -1):=⟨hk,ha,hb,hs,Kw⟩;clear hR hL nN he hr hd HW π hk ha hb hs Kw IHx IHy HC hrx ex ey;go_enter func58,ntmps58;go_upto_region 2 with fail;try rw[hW]
 obtain⟨k6,e6⟩:∃k6,k6=w.heap.size:=⟨_,rfl⟩;obtain⟨k8,e8⟩:∃k8,k8=w.heap.size+1:=⟨_,rfl⟩;obtain⟨kn,en⟩:∃kn,kn=w.heap.size+1+1:=⟨_,rfl⟩;rw[<-en,<-e8,<-e6];rw[<-en,<-e8,<-e6]at H;clear hW m0 c0 r0 r1 r2 r3 r4 r5 r6 r7 r8 r9 h1 h2 h3 lp lg lb df e6 e8 en;have n0:=cell_of H.nd 0 (v:=I O 4) (by rw[<-HK.1];rfl);have n1:=cell_of H.nd 1 (v:=I O (a:Int)) (by rw[<-HK.2.1];rfl);have b0:=cell_of H.box 0 (v:=U false) rfl;have b1:=cell_of H.box 1 (v:=Z (Y ⟨ge,0,M⟩) 8 8) rfl;go_wp2_with fail;refine Gk.mono ?_;rintro r w2⟨xa,xb,ok,rfl,r2,k2,o2⟩;have h2:=H.step HG.out r2 k2;have h3:=h2.call HG.out (below_alloc1 w2 (L #[I O xa,I O xb] 117));have hv:=heap_alloc_new w2 (L #[I O xa,I O xb] 117);have Zc:w.heap.size<=w2.heap.size/\w2.heap.size≠k8:=⟨h2.bH.below.size,by have:=ah h2.res;omega⟩;clear Gk H n0 n1 b0 b1 r2 k2 h2;go_upto_region 15 with fail;have HL:=hid Zc;clear Zc;generalize w2.alloc (L #[I O xa,I O xb] 117)=X at*;generalize w2.heap.size=kx at*;cases vx with
 |none=>
  obtain rfl:ok=false:=o2;have HX:Hid (dJ G (.bin op x y) ct e=(es,M)):=by exact yt G op x y ct e es EX.out
  obtain⟨v0,v1,_,_,_⟩:=aI hv;have h9:=h3;clear h3 hv;obtain⟨y0,y1,wE,wH,mq⟩:=aI h9.res;have MQ:=hid (mq (I O xa) (I O xb));have HT:=hid (h9.ret (I O xa) (I O xb));clear h9 mq;go_wp2_with fail;exact Ç (v:=φ #[J #[I O xa,I O xb],U false]) (by simp[results,results58,go_sem,MQ.1,MQ.2]) rfl ⟨xa,xb,false,rfl,by rw[HX.out];exact HT.1,HT.2,by rw[HX.out];rfl⟩
 |some x0=>
  obtain⟨rfl,rfl,rfl,wx⟩:=o2;have hry:dk rec (told G rec F es) dU:=by
   have q:=HR.out;cases vy with
   |none=>rw[uA G op x y ct e es x0 dU EX.out EY.out]at q;exact dk.right (es:=es) (es':=dU) q
   |some y0=>rw[PA G op x y ct e es x0 dU y0 EX.out EY.out]at q;exact dk.right (es:=es) (es':=dU) (dk.left (es':=rz op (Sp.cS x ct).2 ((Dm G).nought y0)) q)
  have HC:=HIY.out (told G rec F es) e ge rec X h3.ra h3.look HE.out h3.env (by rw[EY.out];exact hry);rw[EY.out]at HC;have Gk:=hid HC;have n2:=cell_of h3.nd 2 (v:=I O (b:Int)) (by rw[<-HK.2.2.1];rfl);have b0:=cell_of h3.box 0 (v:=U false) rfl;have b1:=cell_of h3.box 1 (v:=Z (Y ⟨ge,0,M⟩) 8 8) rfl;have H:=hid (And.intro h3 hv);have HWX:=hid wx;clear HC hry h3 hv wx;go_wp2_with fail;refine Gk.mono ?_;rintro r w4⟨ya,yb,ok,rfl,r4,k4,o4⟩;have h4:=H.1.step HG.out r4 k4;have hvx:w4.heap[kx]?=Y (L #[I O (pA x0),I O (pB x0)] 117):=by obtain⟨l1,l2⟩:=H.1.lt;have:=HL.1;exact(k4.others kx (ah H.2) À À).trans H.2
  have bw:=below_alloc1 w4 (L #[I O ya,I O yb] 117);have h5:=h4.call HG.out bw;have Wp:=(bw.block _ (ah hvx)).trans hvx;have BS:=heap_alloc_new w4 (L #[I O ya,I O yb] 117);have HLY:=hid h4.bH.below.size;clear Gk H n2 b0 b1 r4 k4 h4 hvx bw;go_upto_region 18 with fail;generalize w4.alloc (L #[I O ya,I O yb] 117)=κ at*;generalize w4.heap.size=ky at*;cases vy with
  |none=>
   obtain rfl:ok=false:=o4;have HX:Hid (dJ G (.bin op x y) ct e=(es++dU,M)):=by exact uA G op x y ct e es x0 dU EX.out EY.out
   obtain⟨v0,v1,_,_,_⟩:=aI BS;have h9:=h5;clear h5 BS Wp;obtain⟨y0,y1,wE,wH,mq⟩:=aI h9.res;have MQ:=hid (mq (I O ya) (I O yb));have HT:=hid (h9.ret (I O ya) (I O yb));clear h9 mq;go_wp2_with fail;exact Ç (v:=φ #[J #[I O ya,I O yb],U false]) (by simp[results,results58,go_sem,MQ.1,MQ.2]) rfl ⟨ya,yb,false,rfl,by rw[HX.out];exact(aH G rec F es dU).symm▸HT.1,HT.2,by rw[HX.out];rfl⟩
  |some y0=>
   obtain⟨rfl,rfl,rfl,wy⟩:=o4;have HX:Hid (dJ G (.bin op x y) ct e=(es++dU++rz op (Sp.cS x ct).2 ((Dm G).nought y0),qj E op x0 y0)):=PA G op x y ct e es x0 dU y0 EX.out EY.out;have hrs:dk rec (told G rec (told G rec F es) dU) (rz op (Sp.cS x ct).2 ((Dm G).nought y0)):=by have q:=HR.out;rw[HX.out]at q;rw[<-aH];exact dk.right (es:=es++dU) q
   have AE:=hid hrs;have aaS:Hid (∀w:Wd,Calls _ _ _ _ _):=λw=>h5.ra.ch.has wy w
   have aav:Hid (∀w:Wd,Calls _ _ _ _ _):=λw=>h5.ra.ch.work op iM HWX.out wy w
   have HS:=hid (And.intro h5 (And.intro Wp BS));clear hrs wy h5 Wp BS;go_wp2_with fail;have hS:jM C g cap ns e ge d w k6 k8 kn (told G rec (told G rec F es) dU) κ.drew/\κ.drew.heap[kx]?=Y (L #[I O (pA x0),I O (pB x0)] 117)/\κ.drew.heap[ky]?=Y (L #[I O (pA y0),I O (pB y0)] 117):=⟨HS.1.call HG.out (Å).drew,HS.2⟩;clear HS;refine wp_region_held_drew (S:=λw':Wd=>jM C g cap ns e ge d w k6 k8 kn (told G rec (told G rec F es) dU) w'/\w'.heap[kx]?=Y (L #[I O (pA x0),I O (pB x0)] 117)/\w'.heap[ky]?=Y (L #[I O (pA y0),I O (pB y0)] 117)) Ã hS (λaa=>?_);clear hS;generalize κ.drew=V at*;refine tk 0 (J #[I O (pA y0),I O (pB y0)]) rfl (λw' h=>by have q:=cell_of h.2.2 0 (v:=I O (pA y0)) rfl;have q2:=cell_of h.2.2 1 (v:=I O (pB y0)) rfl;go_simp) aa ?_;refine tq 1 (ρ (Y ⟨C.b,0,M⟩)) aa ?_;refine tq 2 (ρ (Y ⟨C.b,0,M⟩)) aa ?_;refine tq 3 (ρ (Y ⟨C.b,1,M⟩)) aa ?_;refine tq 4 (ρ (Y ⟨C.b,1,M⟩)) aa ?_;refine tk 5 (I O (dn E)) rfl (λw' h=>by have q:=h.1.ra.cells.1;go_simp) aa ?_;refine bP 6 λK hK=>?_
   simp only[bG,gd];go_simp;refine(aaS.out _).mono ?_;rintro r w8⟨rfl,b8⟩;have h8:jM C g cap ns e ge d w k6 k8 kn (told G rec (told G rec F es) dU) w8/\w8.heap[kx]?=Y (L #[I O (pA x0),I O (pB x0)] 117)/\w8.heap[ky]?=Y (L #[I O (pA y0),I O (pB y0)] 117):=⟨aa.1.call HG.out b8,(b8.block _ (ah aa.2.1)).trans aa.2.1,(b8.block _ (ah aa.2.2)).trans aa.2.2⟩;clear aa b8;have HKN:=hid (A7 G op (Sp.cS x ct).2 ((Dm G).nought y0) rec h8.1.ra AE.out);generalize I5:iR E y0=bd;rw[show(Dm G).nought y0=bd from I5]at HKN HX;have n7:=cell_of h8.1.nd 7 (v:=I O (if 3<=op then(Sp.cS x ct).2 else -1)) (by rw[<-HK.2.2.2.2];rfl);clear I5;generalize (if 3<=op then(Sp.cS x ct).2 else -1)=sq at*;go_wp2_with fail;refine hK.out _ _ h8 (λ_=>?_);clear hK K;refine bP 7 λK hK=>?_
   simp only[bG];go_simp;refine hK.out _ _ h8 (λ_=>?_);clear hK K;refine wpAnyH_done Ã ?_ _;have H8:=hid h8;clear h8;go_wp2_with fail;refine HKN.mono ?_;rintro r wk⟨rfl,rk,kk⟩;have sG:=H8.1.step HG.out rk kk;obtain⟨l1,l2⟩:=H8.1.lt;have tW:wk.heap[kx]?=_:=(kk.others kx (ah H8.2.1) (by have:=HL.1;omega) (by have:=HL.1;omega)).trans H8.2.1;have wG:wk.heap[ky]?=_:=(kk.others ky (ah H8.2.2) (by have:=HLY.out;omega) (by have:=HLY.out;omega)).trans H8.2.2;have m1:=sG.ra.cells.1;obtain⟨ZA,ZY,_,_,_⟩:=aI tW;obtain⟨y0',Zg,_,_,_⟩:=aI wG;have n6:=cell_of sG.nd 6 (v:=χ ⟨(bB op).toArray⟩) (by rw[<-HK.2.2.2.1];rfl);have H9:=hid sG;clear HKN H8 rk kk sG l1 l2 tW wG n7
   rcases JV E with⟨_,q1,q2⟩|⟨_,q1,q2⟩
   all_goals
    rw[q1]at m1;rw[q2]at aav;clear q1 q2;go_wp2_with fail;refine(aav.out _).mono ?_;rintro r wz⟨za,zb,zo,rfl,oz,bz⟩;have h9:=H9.call HG.out bz;have HO:=hid oz;clear m1 ZA ZY y0' Zg n6 bz oz H9;obtain⟨y0,y1,wE,wH,mq⟩:=aI h9.res;have MQ:=hid (mq (I O za) (I O zb));have HT:=hid (h9.ret (I O za) (I O zb));clear h9 mq;go_wp2_with fail;exact Ç (v:=φ #[J #[I O za,I O zb],U zo]) (by simp[results,results58,go_sem,MQ.1,MQ.2]) rfl ⟨za,zb,zo,rfl,by rw[HX.out];have q:=HT.1;rw[<-aH,<-aH,<-Ô]at q;exact q,HT.2,by rw[HX.out];exact HO.out⟩
theorem rF.cS:∀{x:Sm} {k:Nat} {ct bj:Ct},rF ns lo x k ct bj->bj=Sp.cS x ct
 |.num _,_,_,_,⟨_,_,_,_,_,_,h⟩=>h
 |.name _,_,_,_,⟨_,_,_,_,_,_,h⟩=>h
 |.neg x,_,_,_,⟨_,_,_,_,_,_,h⟩=>rF.cS (x:=x) h
 |.bin op x y,_,_,_,⟨_,_,_,_,_,_,_,_,_,_,_,_,h1,_,h2⟩=>by have e1:=rF.cS h1;have e2:=rF.cS h2;rw[e1]at e2;exact e2
theorem iF{C:Rc E}(G:aw E)(π:Gd C g):∀{x:Sm} {k:Nat} {ct bj:Ct},rF ns lo x k ct bj->kf C G g cap ns x k ct
 |.num _,_,ct,_,⟨_,h1,h2,h3,h4,_⟩=>LN G π ct h1 h2 h3 h4
 |.name _,_,ct,_,⟨_,h1,h2,h3,h4,_⟩=>IJ G π ct h1 h2 h3 h4
 |.neg x,_,_,_,⟨_,_,h1,h2,h3,_,h5⟩=>Mx G π h1 h2 h3 (iF G π h5)
 |.bin op x y,_,ct,_,⟨d,a,bb,ct1,h1,h2,h3,h4,h5,h6,_,_,h9,gW,wD⟩=>by have e:=rF.cS h9;subst e;exact KN G π h1 h2 h3 h4 h5 h6 gW (iF G π h9) (iF G π wD)
end
end RG
end
section
namespace RG
open Go.RowKit W
variable {E: Bool}
section
variable{te es:jt}
variable{s' yes no s s0:dT}
variable{c1 c2 c3 Nj:Ct}
variable{ns:List aK}
variable{lo rel k hi n j r g cap k8 k6:Nat}
variable{x y:Sm}
variable{t xs t0 rest:Bl}
def cJ(G:aw E)(C:Rc E)(t:Bl)(ct:Ct)(s:dT):jt×dT:=Sp.cJ (Dm G) (iL C) t ct s
theorem GA(G:aw E)(C:Rc E)(t:Bl)(ct:Ct):cJ G C t ct M=([],M):=jc (D:=Dm G) (iL C) t ct
theorem JI(G:aw E)(C:Rc E)(ct:Ct)(s:dT):cJ G C .nil ct s=([],s):=rfl
theorem Im(G:aw E)(C:Rc E)(v:Nat)(x:Sm)(rest:Bl)(ct:Ct)(e:di){u:Option T}(h:dJ G x (Sp.aD ct) e=(te,u))(hs:u.map (λz=>qM e v z)=s'):cJ G C (.assign v x rest) ct (Y e)=(([.aA ct.1 e]++te)++(cJ G C rest (Sp.cS x (Sp.aD ct)) s').1,(cJ G C rest (Sp.cS x (Sp.aD ct)) s').2):=by subst hs;have q:cJ G C (.assign v x rest) ct (Y e)=(([.aA ct.1 e]++(dJ G x (Sp.aD ct) e).1)++(cJ G C rest (Sp.cS x (Sp.aD ct)) ((dJ G x (Sp.aD ct) e).2.map (λz=>qM e v z))).1,(cJ G C rest (Sp.cS x (Sp.aD ct)) ((dJ G x (Sp.aD ct) e).2.map (λz=>qM e v z))).2):=rfl;rw[q,h]
theorem NA(G:aw E)(C:Rc E)(v:Nat)(rest:Bl)(ct:Ct)(e:di):cJ G C (.read v rest) ct (Y e)=([.aA ct.1 e]++(cJ G C rest (Sp.aD ct) (Y (qM e v (dV E)))).1,(cJ G C rest (Sp.aD ct) (Y (qM e v (dV E)))).2):=rfl
theorem Hg(G:aw E)(C:Rc E)(r:Nat)(x y:Sm)(rest:Bl)(ct:Ct)(e:di)(h:dK G r x y (Sp.aL (Sp.aD ct)) (Y e)=(te,yes,no)):cJ G C (.assert r x y rest) ct (Y e)=(([.aA ct.1 e]++te++[.site ct.2 no.isSome])++(cJ G C rest (Sp.cS y (Sp.cS x (Sp.aL (Sp.aD ct)))) yes).1,(cJ G C rest (Sp.cS y (Sp.cS x (Sp.aL (Sp.aD ct)))) yes).2):=by have q:cJ G C (.assert r x y rest) ct (Y e)=(([.aA ct.1 e]++(dK G r x y (Sp.aL (Sp.aD ct)) (Y e)).1++[.site ct.2 (dK G r x y (Sp.aL (Sp.aD ct)) (Y e)).2.2.isSome])++(cJ G C rest (Sp.cS y (Sp.cS x (Sp.aL (Sp.aD ct)))) (dK G r x y (Sp.aL (Sp.aD ct)) (Y e)).2.1).1,(cJ G C rest (Sp.cS y (Sp.cS x (Sp.aL (Sp.aD ct)))) (dK G r x y (Sp.aL (Sp.aD ct)) (Y e)).2.1).2):=rfl;rw[q,h]
theorem SG(G:aw E)(C:Rc E)(r:Nat)(x y:Sm)(xs:Bl)(els:Bool)(ys rest:Bl)(ct:Ct)(e:di)(hy:els=false->ys=.nil){t1 t2:jt}{u v:dT}(h1:c1=Sp.cS y (Sp.cS x (Sp.aD ct)))(h2:c2=Sp.cB xs c1)(h3:c3=Sp.cB ys c2)(h:dK G r x y (Sp.aD ct) (Y e)=(te,yes,no))(hu:cJ G C xs c1 yes=(t1,u))(hv:cJ G C ys c2 no=(t2,v))(hs:xC E u v=s') :
  cJ G C (.ite r x y xs els ys rest) ct (Y e)=(([.aA ct.1 e]++(te++t1++t2))++(cJ G C rest c3 s').1,(cJ G C rest c3 s').2):=by
 subst h1 h2 h3;have hc:Sp.dK (Dm G) r x y (Sp.aD ct) (Y e)=(te,yes,no):=h;have Dl:Sp.cJ (Dm G) (iL C) xs (Sp.cS y (Sp.cS x (Sp.aD ct))) yes=(t1,u):=hu;have Qn:Sp.cJ (Dm G) (iL C) ys (Sp.cB xs (Sp.cS y (Sp.cS x (Sp.aD ct)))) no=(t2,v):=hv;have dq:Sp.jn (Dm G) u v=s':=(oH G u v).symm.trans hs;cases els with
 |true=>have q:cJ G C (.ite r x y xs true ys rest) ct (Y e)=gJ (Dm G) (.aA ct.1 e::(yr (Dm G) (Sp.dK (Dm G) r x y (Sp.aD ct)) (Sp.cJ (Dm G) (iL C) xs (Sp.cS y (Sp.cS x (Sp.aD ct)))) (Sp.cJ (Dm G) (iL C) ys (Sp.cB xs (Sp.cS y (Sp.cS x (Sp.aD ct))))) e).1,(yr (Dm G) (Sp.dK (Dm G) r x y (Sp.aD ct)) (Sp.cJ (Dm G) (iL C) xs (Sp.cS y (Sp.cS x (Sp.aD ct)))) (Sp.cJ (Dm G) (iL C) ys (Sp.cB xs (Sp.cS y (Sp.cS x (Sp.aD ct))))) e).2) (Sp.cJ (Dm G) (iL C) rest (Sp.cB ys (Sp.cB xs (Sp.cS y (Sp.cS x (Sp.aD ct)))))):=rfl;rw[q];unfold yr;simp only[hc,Dl,Qn,dq];rfl
 |false=>
  obtain rfl:=hy rfl;have hv2:(([]:jt),no)=(t2,v):=hv;injection hv2 with e1 e2
  subst e1 e2;have q:cJ G C (.ite r x y xs false .nil rest) ct (Y e)=gJ (Dm G) (.aA ct.1 e::(yr (Dm G) (Sp.dK (Dm G) r x y (Sp.aD ct)) (Sp.cJ (Dm G) (iL C) xs (Sp.cS y (Sp.cS x (Sp.aD ct)))) (λs=>([],s)) e).1,(yr (Dm G) (Sp.dK (Dm G) r x y (Sp.aD ct)) (Sp.cJ (Dm G) (iL C) xs (Sp.cS y (Sp.cS x (Sp.aD ct)))) (λs=>([],s)) e).2) (Sp.cJ (Dm G) (iL C) rest (Sp.cB xs (Sp.cS y (Sp.cS x (Sp.aD ct))))):=rfl;rw[q];unfold yr;simp only[hc,Dl,dq];rfl
theorem OJ(G:aw E)(C:Rc E)(r:Nat)(x y:Sm)(xs rest:Bl)(ct:Ct)(e:di)(h1:c1=Sp.cS y (Sp.cS x (Sp.aD ct)))(h2:c2=Sp.cB xs c1)(h:tz G C (dK G r x y (Sp.aD ct)) (cJ G C xs c1) ct.1 (Y e)=(te,s')) :
  cJ G C (.loop r x y xs rest) ct (Y e)=((.aA ct.1 e::te)++(cJ G C rest c2 s').1,(cJ G C rest c2 s').2):=by
 subst h1 h2;have q:cJ G C (.loop r x y xs rest) ct (Y e)=((.aA ct.1 e::(tz G C (dK G r x y (Sp.aD ct)) (cJ G C xs (Sp.cS y (Sp.cS x (Sp.aD ct)))) ct.1 (Y e)).1)++(cJ G C rest (Sp.cB xs (Sp.cS y (Sp.cS x (Sp.aD ct)))) (tz G C (dK G r x y (Sp.aD ct)) (cJ G C xs (Sp.cS y (Sp.cS x (Sp.aD ct)))) ct.1 (Y e)).2).1,(cJ G C rest (Sp.cB xs (Sp.cS y (Sp.cS x (Sp.aD ct)))) (tz G C (dK G r x y (Sp.aD ct)) (cJ G C xs (Sp.cS y (Sp.cS x (Sp.aD ct)))) ct.1 (Y e)).2).2):=rfl;rw[q,h]
theorem Ao.cS{ct bj:Ct}(h:Ao ns lo rel x y k ct bj):bj=Sp.cS y (Sp.cS x ct):=by obtain⟨_,_,_,c1,_,_,_,_,_,_,_,h1,h2⟩:=h;rw[rF.cS h2,rF.cS h1]
theorem jZ.cB:∀{t:Bl} {k:Int} {ct bj:Ct},jZ ns lo hi t k ct bj->bj=Sp.cB t ct
 |.nil,_,_,_,h=>h.2
 |.assign v x rest,_,_,_,⟨_,_,_,_,_,_,_,_,_,_,_,_,_,_,hx,hr⟩=>by rw[jZ.cB hr,rF.cS hx];rfl
 |.read v rest,_,_,_,⟨_,_,_,_,_,_,_,_,_,_,hr⟩=>by rw[jZ.cB hr];rfl
 |.assert r x y rest,_,_,_,⟨_,_,_,_,_,_,_,_,_,_,_,_,_,hx,hr⟩=>by rw[jZ.cB hr,Ao.cS hx];rfl
 |.ite r x y xs els ys rest,_,_,_,⟨_,_,_,_,_,_,_,_,_,_,_,_,_,_,_,hx,h1,h2,hy,hr⟩=>by
  rw[jZ.cB hr,jZ.cB h2,jZ.cB h1,Ao.cS hx];cases els with
  |true=>rfl
  |false=>obtain rfl:=hy rfl;rfl
 |.loop r x y xs rest,_,_,_,⟨_,_,_,_,_,_,_,_,_,_,_,_,_,hx,h1,hr⟩=>by rw[jZ.cB hr,jZ.cB h1,Ao.cS hx];rfl
def wU:Bl->Nat
 |.nil=>0
 |.assign _ _ r=>wU r+1
 |.read _ r=>wU r+1
 |.assert _ _ _ r=>wU r+1
 |.ite _ _ _ xs _ ys r=>wU xs+wU ys+wU r+1
 |.loop _ _ _ xs r=>wU xs+wU r+1
def nh:Bl->Nat
 |.nil=>0
 |.assign _ _ r=>nh r+1
 |.read _ r=>nh r+1
 |.assert _ _ _ r=>nh r+1
 |.ite _ _ _ _ _ _ r=>nh r+1
 |.loop _ _ _ _ r=>nh r+1
def chain(ns:List aK):Nat->Int->Nat
 |0,_=>0
 |n+1,k=>if k<0 then 0 else match ns[k.toNat]? with
  |none=>0
  |some d=>chain ns n d.next+1
theorem lK{j:Nat}{d:aK}(h:ns[j]?=Y d):chain ns (n+1) (j:Int)=chain ns n d.next+1:=by rw[chain.eq_2,Â À,Int.toNat_natCast,h]
theorem BA:∀{k:Int} {ct bj:Ct} (n:Nat),jZ ns lo hi t k ct bj->nh t<=n->chain ns n k=nh t:=by
 induction t with
 |nil=>intro k ct bj n h hl;rw[h.1];cases n<;>rfl
 |assign v x rest ih=>
  intro k ct bj n h hl;obtain⟨_,_,_,_,rfl,_,_,hd,_,_,_,_,_,_,_,hr⟩:=h;cases n with
  |zero=>exact absurd hl (Nat.not_succ_le_zero _)
  |succ n=>rw[lK hd,ih n hr (Nat.le_of_succ_le_succ hl)];rfl
 |read v rest ih=>
  intro k ct bj n h hl;obtain⟨_,_,rfl,_,_,hd,_,_,_,_,hr⟩:=h;cases n with
  |zero=>exact absurd hl (Nat.not_succ_le_zero _)
  |succ n=>rw[lK hd,ih n hr (Nat.le_of_succ_le_succ hl)];rfl
 |assert r x y rest ih=>
  intro k ct bj n h hl;obtain⟨_,_,_,_,rfl,_,_,hd,_,_,_,_,_,_,hr⟩:=h;cases n with
  |zero=>exact absurd hl (Nat.not_succ_le_zero _)
  |succ n=>rw[lK hd,ih n hr (Nat.le_of_succ_le_succ hl)];rfl
 |ite r x y xs els ys rest _ _ ih=>
  intro k ct bj n h hl;obtain⟨_,_,_,_,_,_,rfl,_,_,hd,_,_,_,_,_,_,_,_,_,hr⟩:=h;cases n with
  |zero=>exact absurd hl (Nat.not_succ_le_zero _)
  |succ n=>rw[lK hd,ih n hr (Nat.le_of_succ_le_succ hl)];rfl
 |loop r x y xs rest _ ih=>
  intro k ct bj n h hl;obtain⟨_,_,_,_,_,rfl,_,_,hd,_,_,_,_,_,_,hr⟩:=h;cases n with
  |zero=>exact absurd hl (Nat.not_succ_le_zero _)
  |succ n=>rw[lK hd,ih n hr (Nat.le_of_succ_le_succ hl)];rfl
theorem İ(G:aw E)(C:Rc E)(hx:yd x)(hy:yd y)(hb:vJ xs)(ct c1:Ct):KT G (dK G r x y ct) (cJ G C xs c1):=
 ⟨λ_ hs=>mw (K:=Kr G) hx hy hs,λs hs=>gH (K:=Kr G) (iL C) xs hb c1 s hs,rfl,GA G C xs c1⟩
theorem Hr(G:aw E)(C:Rc E)(h:vJ t)(ct:Ct)(hs:eR E s):eR E (cJ G C t ct s).2:=gH (K:=Kr G) (iL C) t h ct s hs
theorem NO(G:aw E)(hx:yd x)(hy:yd y)(ct:Ct)(hs:eR E s):eR E (dK G r x y ct s).2.1/\eR E (dK G r x y ct s).2.2:=mw (K:=Kr G) hx hy hs
def VA(C:Rc E)(G:aw E)(g cap:Nat)(ns:List aK)(l:List Int)(lo hi:Nat)(t0:Bl)(Nj:Ct)(s0:dT)(F:jg)(rec:Bool)(w:Wd)(k8 k6:Nat)(kk:Int)(W:Wd):Prop:=
 ∃t c1 c2 es s,jZ ns lo hi t kk c1 c2/\vJ t/\nh t<=nh t0/\wU t<=wU t0/\cJ G C t0 Nj s0=(es++(cJ G C t c1 s).1,(cJ G C t c1 s).2)/\bA C g cap ns l w k8 [] (told G rec F es) [(k6,s)] W
theorem qS{C:Rc E}{G:aw E}{l:List Int}{F:jg}{rec:Bool}{w:Wd}{kk next:Int}{W:Wd}
  (h1:jZ ns lo hi t kk c1 c2) (h2:jZ ns lo hi rest next c3 c2) (ok:vJ rest) (hl:nh t<=nh t0) (hs:wU t<=wU t0) (Dz:nh rest+1=nh t) (gN:wU rest<=wU t) (he:cJ G C t0 Nj s0=(es++(cJ G C t c1 s).1,(cJ G C t c1 s).2)) (hn:cJ G C t c1 s=(te++(cJ G C rest c3 s').1,(cJ G C rest c3 s').2)) (hL:bA C g cap ns l w k8 [] (told G rec (told G rec F es) te) [(k6,s')] W):
  VA C G g cap ns l lo hi t0 Nj s0 F rec w k8 k6 next W/\chain ns (nh t0) next<chain ns (nh t0) kk:=by
 refine⟨⟨rest,c3,c2,es++te,s',h2,ok,À,À,?_,?_⟩,?_⟩
 .rw[he,hn]
  simp
 .rw[aH];exact hL
 .rw[BA (nh t0) h1 hl,BA (nh t0) h2 À]
  omega
theorem zB{G:aw E}{C:Rc E}{rec:Bool}{F:jg}(hr:dk rec F (cJ G C t0 Nj s0).1)(he:cJ G C t0 Nj s0=(es++(cJ G C t c1 s).1,(cJ G C t c1 s).2))(hn:cJ G C t c1 s=(te++(cJ G C rest c3 s').1,(cJ G C rest c3 s').2)):dk rec (told G rec F es) te:=by rw[he,hn]at hr;exact dk.left (dk.right hr)
end
section
variable {C: Rc E}{G: aw E}{g cap: Nat}{ns: List aK}{l: List Int}{w: Wd}{k8: Nat}{o: List (Nat×Obj)}{F: jg}{m: List (Nat×dT)}{W: Wd}
section
variable{k ge v:Nat}
theorem bA.UO(h:bA C g cap ns l w k8 o F m W)(k:Nat)(e:di)(hx:(k,Y e)∈m):∃ge,W.cell? ⟨k,0,M⟩=Y (U false)/\W.cell? ⟨k,1,M⟩=Y (Z (Y ⟨ge,0,M⟩) 8 8)/\W.frozen? ⟨k,0,M⟩=false/\W.frozen? ⟨k,1,M⟩=false/\W.heap[ge]?=Y (L (gi e) 117)/\∀k,Wv E (e k):=by
 obtain⟨a,n,c,s0,s1,f0,f1,⟨ge,q1,q2⟩,ws⟩:=h.box k (Y e) hx;injection q1 with q1
 have q3:=Ë Array.toList q1;simp at q3;obtain⟨rfl,rfl,rfl⟩:=q3;exact⟨ge,s0,s1,f0,f1,q2,ws e rfl⟩
theorem O5{x:Sm}{ct:Ct}(hW:kf C G g cap ns x k ct)(π:Gd C g)(h:bA C g cap ns l w k8 o F m W){e:di}(hg:Bk W ge (gi e) 117)(he:∀k,Wv E (e k)){te:jt}{u:Option T}(hu:dJ G x ct e=(te,u)){rec:Bool}(hr:dk rec F te) :
  Calls prog 58 #[ρ (Y ⟨C.b,0,M⟩),I O (k:Nat),J #[U false,Z (Y ⟨ge,0,M⟩) 8 8],U rec] W λr w'=>∃a b ok,r=υ (φ #[J #[I O a,I O b],U ok])/\bA C g cap ns l w k8 o (told G rec F te) m w'/\w'.heap[ge]?=Y (L (gi e) 117)/\SS E a b ok u:=by
 have q:=hW F e ge rec W h.ra h.look he hg (by rw[hu];exact hr);rw[hu]at q;refine q.mono ?_;rintro r w'⟨a,b,ok,rfl,h1,h2,h3⟩;obtain⟨n1,n2⟩:=h.ra.apart hg;exact⟨a,b,ok,rfl,h.step π h1 h2,(h2.others ge (ah hg) n1 n2).trans hg,h3⟩
theorem JF(π:Gd C g)(h:bA C g cap ns l w k8 o F m W){e:di}(hg:Bk W ge (gi e) 117)(hv:v<8)(z:T){u:dT}(hu:u=Y (qM e v z)) :
  Calls prog 59 #[J #[U false,Z (Y ⟨ge,0,M⟩) 8 8],I O (v:Nat),J #[I O (pA z),I O (pB z)]] W λr w'=>∃a1 n1 c1,r=υ (J #[U u.isNone,Z a1 n1 c1])/\bA C g cap ns l w k8 o F m w'/\dL w' (J #[U u.isNone,Z a1 n1 c1]) u:=by
 refine(oJ ge e v hv z W hg).mono ?_;rintro r w'⟨v,rfl,h1,h2⟩;rw[<-hu]at h1;obtain⟨a1,n1,c1,rfl⟩:=h1.form;exact⟨a1,n1,c1,rfl,h.call π h2,h1⟩
theorem Px(G:aw E)(π:Gd C g)(h:bA C g cap ns l w k8 o F m W)(q:Int)(bad:Bool){rec:Bool}(hr:dk rec F [.site q bad]) :
  Calls prog 62 #[ρ (Y ⟨C.b,0,M⟩),I O q,U bad,U rec] W λr w'=>r=υ (φ #[])/\bA C g cap ns l w k8 o (told G rec F [.site q bad]) m w':=
 (A7 G 3 q bad rec h.ra hr).mono λ_ _ ⟨h1,h2,h3⟩=>⟨h1,h.step π h2 h3⟩
theorem bA.Yr(π:Gd C g)(h:bA C g cap ns l w k8 o F m W)(a b:Value):bA C g cap ns l w k8 ((W.heap.size,L #[a,b] 117)::o) F m (W.alloc (L #[a,b] 117)):=
 h.YR π _ (λc e=>by injection e with _ e;exact absurd e É)
theorem bA.aaB(π:Gd C g)(h:bA C g cap ns l w k8 o F m W)(d:aK):bA C g cap ns l w k8 ((W.heap.size,L (oV d) 200)::o) F m (W.alloc (L (oV d) 200)):=
 h.YR π _ (λc e=>by injection e with _ e;exact absurd e É)
end
end
end RG
end
section
namespace RG
open Go.RowKit W
variable {E: Bool}
section
variable{w1 W W' w:Wd}
variable{n m i B lo hi base pb:Nat}
theorem eV:(prog.info? 56).map (λi=>(i.zero,i.size))=Y (Y (J #[U false,Z M 0 0]),2)/\((prog.info? 56).map (λi=>decide (i.bytes<=1000)))=Y true:=by constructor<;>kernel_rfl
theorem Sj(n:Nat)(hn:n<=1000000):∃c:Array Value,c.size=n*2/\∀w,(Instr.makeSlice 43 (I O (n:Nat)) (I O (n:Nat))).run prog w=.ok (Z (Y ⟨w.heap.size,0,M⟩) n n) (w.alloc (L c 56)):=by
 obtain⟨i,hi,hz⟩:=õ.1 eV.1;have h3:=eV.2;rw[hi]at h3;simp only[Option.map_some,Option.some.injEq,Õ]at h3;simp only[ñ]at hz;obtain⟨h1,h2⟩:=hz;have hb:(i.bytes:Int)*(n:Int)<=281474976710656:=by
  have h4:i.bytes*n<=1000*1000000:=Nat.mul_le_mul h3 hn;have h5:((i.bytes*n:Nat):Int)<=1000000000:=À;rw[Int.natCast_mul]at h5;omega
 have hm:=oF (f:=λ_:Nat=>[Value.bool false,Z M 0 0]) (k:=2) (n:=n) (a:=0) (z:=#[U false,Z M 0 0]) rfl (λ_=>rfl) À;refine⟨madeCells #[U false,Z M 0 0] (n*2),?_,λw=>?_⟩
 .rw[hm,å,ga (k:=2) (λ_=>rfl),List.length_replicate]
 .have:=run_make (P:=prog) w 43 56 i _ underlying43 hi h1 O O n n À Ò hb À
  rw[this,h2];simp only[Int.toNat_natCast];rfl
theorem Pv(pb:Nat)(d ao narrow aj:Int)(th:Bool)(a:Option Addr)(n:Nat)(c:Option Addr)(m:Nat)(w:Wd):(Instr.build 112 #[(0,ρ (Y ⟨pb,0,M⟩)),(1,J #[I O d,I O ao,I O narrow,I O aj,U th]),(3,Z a n n),(4,Z c m m)]).run prog w=.ok (J #[ρ (Y ⟨pb,0,M⟩),I O d,I O ao,I O narrow,I O aj,U th,Z M 0 0,Z a n n,Z c m m]) w:=Ã
structure jy(w1:Wd)(C:Rc E)(n m i:Nat)(W:Wd):Prop where
 KA:ω w1 W
 aV:W.heap[C.b]?=Y (L (Ė C n m) 112)
 gf:∃c,W.heap[C.gf]?=Y (L c 56)/\c.size=n*2/\∀p,p<i->c[p*2]?=Y (U true)/\c[p*2+1]?=Y (Z M 0 0)
 gs:W.heap[C.gs]?=Y (L (cL (List.replicate m 0)).toArray 3)
 bs:C.base=w1.heap.size
 lb:w1.heap.size<=C.b
 lf:w1.heap.size<=C.gf
 ls:w1.heap.size<=C.gs
theorem jy.call{C:Rc E}(h:jy w1 C n m i W)(k:ω W W'):jy w1 C n m i W':=by obtain⟨c,c1,c2,c3⟩:=h.gf;exact⟨h.KA.trans (k.mono h.KA.size),(k.block _ (ah h.aV)).trans h.aV,⟨c,(k.block _ (ah c1)).trans c1,c2,c3⟩,(k.block _ (ah h.gs)).trans h.gs,h.bs,h.lb,h.lf,h.ls⟩
theorem jy.ne{C:Rc E}(h:jy w1 C n m i W):C.b≠C.gf/\C.b≠C.gs/\C.gf≠C.gs:=by
 obtain⟨c,c1,_,_⟩:=h.gf;have h0:=h.aV;have h2:=h.gs;refine⟨λe=>?_,λe=>?_,λe=>?_⟩
 .rw[e,c1]at h0;injection h0 with h0;injection h0 with _ q;exact absurd q É
 .rw[e,h2]at h0;injection h0 with h0;injection h0 with _ q;exact absurd q É
 .rw[e,h2]at c1;injection c1 with c1;injection c1 with _ q;exact absurd q É
theorem jy.pt{C:Rc E}(h:jy w1 C n m i W)(hi:i<n):jy w1 C n m (i+1) ((W.setCell ⟨C.gf,i*2,M⟩ (U true)).setCell ⟨C.gf,i*2+1,M⟩ (Z M 0 0)):=by
 obtain⟨n1,n2,n3⟩:=h.ne;obtain⟨c,c1,c2,c3⟩:=h.gf;have iO:∀j,j≠C.gf->((W.setCell ⟨C.gf,i*2,M⟩ (U true)).setCell ⟨C.gf,i*2+1,M⟩ (Z M 0 0)).heap[j]?=W.heap[j]?:=λj hj=>by rw[Æ _ _ _ _ hj,Æ _ _ _ _ hj]
 refine⟨(h.KA.setCell (p:=⟨C.gf,i*2,M⟩) h.lf _).setCell (p:=⟨C.gf,i*2+1,M⟩) h.lf _,(iO _ n1).trans h.aV,⟨_,ai (ai c1 _ _) _ _,by simp[c2],λp hp=>?_⟩,(iO _ n3.symm).trans h.gs,h.bs,h.lb,h.lf,h.ls⟩;by_cases e:p=i
 .subst e
  exact⟨by rw[Array.getElem?_setIfInBounds,Â À,Array.getElem?_setIfInBounds_self,Á À],by rw[Array.getElem?_setIfInBounds_self,Á (by rw[Array.size_setIfInBounds];omega)]⟩
 .obtain⟨e1,e2⟩:=c3 p À
  exact⟨by rw[Array.getElem?_setIfInBounds,Â À,Array.getElem?_setIfInBounds,Â À];exact e1,by rw[Array.getElem?_setIfInBounds,Â À,Array.getElem?_setIfInBounds,Â À];exact e2⟩
theorem jy.steps{C:Rc E}(h:jy w1 C n m i W)(sv:Value):jy w1 ({C with sv:=sv}:Rc E) n m i (W.setCell ⟨C.b,6,M⟩ sv):=by
 obtain⟨n1,n2,n3⟩:=h.ne;obtain⟨c,c1,c2,c3⟩:=h.gf;have iO:∀j,j≠C.b->(W.setCell ⟨C.b,6,M⟩ sv).heap[j]?=W.heap[j]?:=λj hj=>Æ _ _ _ _ hj
 exact⟨h.KA.setCell (p:=⟨C.b,6,M⟩) h.lb _,by rw[ai h.aV 6 sv];rfl,⟨c,(iO _ n1.symm).trans c1,c2,c3⟩,(iO _ n2.symm).trans h.gs,h.bs,h.lb,h.lf,h.ls⟩
theorem jy.grown{C:Rc E}(h:jy w1 C n m i W)(hB:w1.heap.size<=B)(k:Below B W W')(hb:C.b<B)(hf:C.gf<B)(hs:C.gs<B):jy w1 C n m i W':=by obtain⟨c,c1,c2,c3⟩:=h.gf;exact⟨h.KA.trans (k.mono hB),(k.block _ hb).trans h.aV,⟨c,(k.block _ hf).trans c1,c2,c3⟩,(k.block _ hs).trans h.gs,h.bs,h.lb,h.lf,h.ls⟩
theorem jy.ra{C:Rc E}(h:jy w1 C n m n W)(hd:RD E)(hn:n<=1000)(hm:m<=1000):bE C (List.replicate n M,List.replicate m 0) W:=by
 obtain⟨c,c1,c2,c3⟩:=h.gf;have hb:=h.bs;refine⟨by simp only[List.length_replicate];exact h.aV,⟨c,c1,by simpa using c2⟩,⟨_,h.gs,by simp[cL]⟩,λp s hp=>?_,λq k hk=>?_,by rw[hb];exact h.lb,by rw[hb];exact h.lf,by rw[hb];exact h.ls,by simpa using⟨hn,hm⟩,hd⟩
 .simp only[List.getElem?_replicate]at hp
  split at hp
  .rename_i df
   cases hp
   obtain⟨e1,e2⟩:=c3 p df;exact⟨_,_,cell_of c1 _ e1,cell_of c1 _ e2,rfl,λ_ q=>by cases q⟩
  .cases hp
 .simp only[List.getElem?_replicate]at hk
  split at hk
  .rename_i df
   cases hk
   exact⟨cell_of h.gs _ (by simp[cL,df]),À⟩
  .cases hk
theorem ie:∀x:Sm,fR x=tX x
 |.num _=>rfl
 |.name _=>rfl
 |.neg x=>ie x
 |.bin _ x y=>by unfold fR tX;rw[ie x,ie y]
theorem gM:∀t:Bl,i6 t=jb t
 |.nil=>rfl
 |.assign _ x r=>by unfold i6 jb;rw[ie,gM r]
 |.read _ r=>by unfold i6 jb;rw[gM r]
 |.assert _ x y r=>by unfold i6 jb;rw[ie,ie,gM r]
 |.ite _ x y xs _ ys r=>by unfold i6 jb;rw[ie,ie,gM xs,gM ys,gM r]
 |.loop _ x y xs r=>by unfold i6 jb;rw[ie,ie,gM xs,gM r]
def xD(qs:List Int):List Int:=qs.flatMap λn=>[n,-n]
theorem Ru(qs:List Int):(xD qs).length=qs.length*2:=by unfold xD;rw[ga (k:=2) (λ_=>rfl)]
theorem P2(qs:List Int)(i:Nat)(q:Int)(h:qs[i]?=Y q):xD (qs.take (i+1))=xD (qs.take i)++[q,-q]:=by unfold xD;rw[List.take_add_one,h,List.flatMap_append];rfl
theorem VZ{ns:List aK}(h:ns.length=0):∀{t:Bl} {k:Int} {ct bj:Ct},jZ ns lo hi t k ct bj->t=.nil:=by
 have e:=List.eq_nil_of_length_eq_zero h;subst e;intro t k ct bj hb;cases t with
 |nil=>rfl
 |assign v x r=>obtain⟨_,_,_,_,_,_,_,hd,_⟩:=hb;simp at hd
 |read v r=>obtain⟨_,_,_,_,_,hd,_⟩:=hb;simp at hd
 |assert r x y z=>obtain⟨_,_,_,_,_,_,_,hd,_⟩:=hb;simp at hd
 |ite r x y xs e ys z=>obtain⟨_,_,_,_,_,_,_,_,_,hd,_⟩:=hb;simp at hd
 |loop r x y xs z=>obtain⟨_,_,_,_,_,_,_,_,hd,_⟩:=hb;simp at hd
theorem Bj.az{t:Bl}(h:Bj base pb t w)(hs:Sp.Small (0,0) (Sp.pB t) (Sp.qB t)):∃(ns:List aK) (first:Int) (qa:Option Addr) (qc:Nat) (nv:Value) (ct:Ct),w.heap[pb]?=Y (L #[nv,I O first,I O ((Sp.pB t+1:Nat):Int),I O ((Sp.qB t:Nat):Int),Z qa (i6 t).length qc] 110)/\jZ ns 0 ns.length t first (0,0) ct/\((∃g cap,dC pb g cap ns w/\g<w.heap.size)∨t=.nil)/\(i6 t).length<=2000/\(i6 t).length<=qc/\qc<=maxLen/\∀(i:Nat) (n:Int),(i6 t)[i]?=Y n->∃g,qa=Y ⟨g,0,M⟩/\g<w.heap.size/\w.cell? ⟨g,i,M⟩=Y (I O n):=by
 obtain⟨p,first,ct,hb,hn,hq,h1,h2,sL,XN,h64,Tg⟩:=h;have ec:=jZ.cB sL;rw[gp t (0,0) hs]at ec;have e1:p.ct.1=((Sp.pB t+1:Nat):Int):=by rw[XN,ec];obtain⟨_,_,q1,_⟩:=hs;show RowKit.wrap64 (0+(Sp.pB t:Int)+1)=_;unfold RowKit.wrap64;simp only at q1;omega
 have e2:p.ct.2=((Sp.qB t:Nat):Int):=by rw[XN,ec];show 0+(Sp.qB t:Int)=_;omega
 unfold cQ at hb;rw[e1,e2]at hb;rw[<-Tg];have hqv:∃qa qc,p.qv=Z qa p.qs.length qc/\p.qs.length<=qc/\qc<=maxLen/\∀(i:Nat) (n:Int),p.qs[i]?=Y n->∃g,qa=Y ⟨g,0,M⟩/\g<w.heap.size/\w.cell? ⟨g,i,M⟩=Y (I O n):=by
  rcases hq.2 with⟨a1,a2⟩|⟨g,cap,cur,a1,a2,a3,a4,a5,a6,a7⟩
  .exact⟨M,0,by rw[a1,a2],À,by unfold maxLen;omega,λi n hi=>by rw[List.eq_nil_of_length_eq_zero a2]at hi;simp at hi⟩
  .refine⟨Y ⟨g,0,M⟩,cap,a1,a4,a5,λi n hi=>⟨g,rfl,ah a3,?_⟩⟩
   rw[a1]at hq;exact(og hq (by rw[List.getElem?_map,hi];rfl)).1
 obtain⟨qa,qc,a1,a2,a3,a4⟩:=hqv;rw[a1]at hb;refine⟨p.ns,first,qa,qc,p.nv,ct,hb,sL,?_,h2,a2,a3,a4⟩
 rcases hn.2 with⟨_,h0⟩|⟨g,cap,cur,hv,hg,hh,h3,h4,h5,h6⟩
 .exact .inr (VZ h0 sL)
 .refine .inl ⟨g,cap,⟨by rw[<-hv];exact cell_of hb 0 rfl,λj d c u hd hc hu=>?_,ah hb,ah hh,h3,h4,h1⟩,ah hh⟩
  rw[hv]at hn;exact(og hn (by rw[Nat.mul_comm j 10,ju _ _ _ hc,hd];exact hu)).1
theorem OD(b:Nat)(n:Bool)(va:Option Addr)(vn vc:Nat)(rec:Bool)(w:Wd):Calls prog 29 #[ρ (Y ⟨b,0,M⟩),I O (-1),J #[U n,Z va vn vc],U rec] w λr w'=>r=υ (J #[U n,Z va vn vc])/\ω w w':=by
 go_enter func29,ntmps29;go_wp2_with fail;obtain⟨a1,a2,kb⟩:=ft (w:=w) (o1:=L #[U n,Z va vn vc] 56) (o2:=L #[U false,Z M 0 0] 56) Å;obtain⟨k6,e6⟩:∃k,k=w.heap.size:=⟨_,rfl⟩;obtain⟨k8,e8⟩:∃k,k=w.heap.size+1:=⟨_,rfl⟩;rw[<-e8,<-e6];rw[<-e6]at a1;rw[<-e8]at a2;have hk:w.heap.size<=k8:=À;clear e8 e6;generalize (w.alloc (L #[U n,Z va vn vc] 56)).alloc (L #[U false,Z M 0 0] 56)=W at*
 go_loopw [1] (λv1 wr=>v1=I O (-1)/\wr=W) (λ_ _=>0)
 case atStart=>exact⟨rfl,rfl⟩
 case round=>
  obtain⟨rfl,rfl⟩:=hrel;obtain⟨q0,q1,_⟩:=aI a1;obtain⟨z0,z1,xe,xo,mq⟩:=aI a2;have MQ:=hid (mq (U n) (Z va vn vc));have HB:Hid (ω w _):=(kb.setCell (p:=⟨k8,0,M⟩) hk (U n)).setCell (p:=⟨k8,1,M⟩) hk (Z va vn vc);clear mq a1 a2 kb;go_wp2_with fail;exact Ç (v:=J #[U n,Z va vn vc]) (by simp[results,results29,go_sem,MQ.1,MQ.2]) rfl ⟨rfl,HB.out⟩
end
end RG
end
end Go.Proofs.YtiopfihjmkfdmabGreatDoor
