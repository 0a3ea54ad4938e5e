import Derived.Test.YtiopfihjmkfdmaaGreatDoorR23
import Derived.Deep.Cut
import Derived.DeepKeys3
namespace Go.Proofs.YtiopfihjmkfdmaaGreatDoor
open Option renaming some→Y,none→M
open Go.Value renaming agg→J,int→I,bool→U,iface→σ,tuple→φ,pointer→ρ,slice→Z
open Go.Obj renaming cells→L
open Go.IntKind renaming i64→O
open Go.Ending renaming returned→υ
open Go.Proofs.Tryz Sp
open Go.RowKit
set_option maxRecDepth 100000
set_option maxHeartbeats 16000000
section
namespace W
variable {δ : Bool}{π : ar δ}
section
variable{wa:Array Value}
variable{c0 c1 c2 c3:Value}
def lj(C:Cx)(π:ar δ)(T:eQ)(F:Fd)(b:Bool)(vl vr:Value)(e:Fin 8->Sp.Iv)(es:List bV)(o:Option (Sp.Iv × Sp.Iv)):Prop :=
 ∀W,aK C π T F W->Calls prog (π.ix 226 218) #[J (π.wk C b),vl,vr,J (π.aI (Y e))] W (pz C π T F b W es o)
structure tC(π:ar δ)(wa:Array Value)(c0 c1 c2 c3:Value)(x y:Sp.Iv)(k n:Nat)(W:Wd):Prop where
 o:W.heap[k]?=Y (L wa (π.ix 217 200))
 c:W.heap[k+1]?=Y (L #[c0,c1,c2,c3] 334)
 z:W.heap[k+1+1+1]?=Y (L #[I π.kd 0,I π.kd 0] (π.ix 131 126))
 x:W.heap[n]?=Y (L #[I π.kd x.a,I π.kd x.b] (π.ix 131 126))
 y:W.heap[n+1]?=Y (L #[I π.kd y.a,I π.kd y.b] (π.ix 131 126))
theorem tC.call{x y:Sp.Iv}{k n:Nat}{W W':Wd}(h:tC π wa c0 c1 c2 c3 x y k n W)(b:ω W W'):tC π wa c0 c1 c2 c3 x y k n W' :=
 ⟨(b.block _ (ad h.o)).trans h.o,(b.block _ (ad h.c)).trans h.c,(b.block _ (ad h.z)).trans h.z,(b.block _ (ad h.x)).trans h.x,(b.block _ (ad h.y)).trans h.y⟩
theorem tC.bF{x y:Sp.Iv}{n:Nat}{C:Cx}{π:ar δ}{T:eQ}{F:Fd}{w W W':Wd}(h:tC π wa c0 c1 c2 c3 x y w.heap.size n W)(h0:aK C π T F w)(b:au C W W')(h1:w.heap.size<=w.heap.size+1)(h3:w.heap.size<=w.heap.size+1+1+1)(hn:w.heap.size<=n)(pF:w.heap.size<=n+1):tC π wa c0 c1 c2 c3 x y w.heap.size n W' :=
 ⟨b.aU h0 (Nat.le_refl _) h.o,b.aU h0 h1 h.c,b.aU h0 h3 h.z,b.aU h0 hn h.x,b.aU h0 pF h.y⟩
theorem y7(k:Nat)(q:Int)(tl:TypeId)(ul:Value)(tr:TypeId)(ur:Value)(C:Cx)(π:ar δ)(T:eQ)(F:Fd)(b:Bool)(w:Wd)(e:Fin 8->Sp.Iv)(es:List bV)(h:aK C π T F w)
  (hs:lj C π T F b (σ tl ul) (σ tr ur) e es M) :
  Calls prog (π.ix 225 217) #[J (π.wk C b),J #[I O (k:Nat),I O q,σ tl ul,σ tr ur],J (π.aI (Y e))] w (gJ C π T F b w es M):=by
 cases δ
 all_goals
  try dsimp only [ar.ix,ar.kd]at *
  obtain⟨k0,k1,k2,k3,kb⟩:=bB (w:=w) (o1:=L (π.wk C b) (π.ix 217 200)) (o2:=L #[I O (k:Nat),I O q,σ tl ul,σ tr ur] 334) (o3:=L (π.aI (Y e)) (π.ix 220 203)) (o4:=L #[I π.kd 0,I π.kd 0] (π.ix 131 126)) (Below.refl _ _);have HW:=hs _ (h.call kb);have ef:=π.cy C b;have ee:=π.aD (Y e);generalize π.wk C b=wa at *;generalize π.aI (Y e)=xa at *;have K0:=hid k0;have K2:=hid k2;have K3:=hid k3;have c2:=cell_of k1 2 (v:=σ tl ul) rfl;have c3:=cell_of k1 3 (v:=σ tr ur) rfl;have HB:=hid kb;have HA:=hid h;have iT:w.heap.size<=w.heap.size+1+1+1:=by omega
  clear h k0 k1 k2 k3 kb hs;try dsimp only [ar.ix,ar.kd]
  first | go_enter func225,ntmps225 | go_enter func217,ntmps217
  go_wp2_with (first
   | (refine cj (π:=π) rfl _ rfl rfl K0.out ef ?_)
   | (refine bu (π:=π) rfl _ rfl rfl K2.out ee ?_))
  refine HW.mono ?_;rintro r w1⟨⟨i1,i2,i3,i4,rfl⟩,a1,b1⟩;obtain⟨_,_,n2⟩:=fh (w:=w1) (o1:=L #[I π.kd i1,I π.kd i2] (π.ix 131 126)) (o2:=L #[I π.kd i3,I π.kd i4] (π.ix 131 126)) (Below.refl _ _);have dC:w.heap.size<=w1.heap.size:=Nat.le_trans HB.size b1.below.size;have jm:=(n2.block _ (ad (b1.aU HA.out iT K3.out))).trans (b1.aU HA.out iT K3.out);obtain⟨m0,m1,nL,nK,_⟩:=aR jm;have H2:Hid (_=_):=cq jm (I π.kd 0) (I π.kd 0);have kV:Hid (Below w.heap.size w1 _):=Below.two (n2.mono dC) iT (I π.kd 0) (I π.kd 0);have nZ:=hid a1;have mN:Hid (au C w w1):=(au.aB HB.out HA.le).trans b1;clear a1 b1 HW jm n2;go_wp2_with fail;have Q0:=cell_of H2.out 0 (v:=I π.kd 0) rfl;have Q1:=cell_of H2.out 1 (v:=I π.kd 0) rfl;refine bodyPost_ret (v:=φ #[J #[I π.kd 0,I π.kd 0],U false]) (by simp[results,results225,results217,go_sem,Q0,Q1]) rfl ?_;exact⟨rfl,HA.upon nZ.out kV.out,au.upon HA.out mN.out kV.out⟩
theorem A5(k:Nat)(hk:k<5)(jA:¬ 3<=k)(q:Int)(tl:TypeId)(ul:Value)(tr:TypeId)(ur:Value)(C:Cx)(π:ar δ)(T:eQ)(F:Fd)(b:Bool)(w:Wd)(e:Fin 8->Sp.Iv)(es:List bV)(x y:Sp.Iv)(hx:π.Wv x)(hy:π.Wv y)(h:aK C π T F w)
  (hs:lj C π T F b (σ tl ul) (σ tr ur) e es (Y (x,y))) :
  Calls prog (π.ix 225 217) #[J (π.wk C b),J #[I O (k:Nat),I O q,σ tl ul,σ tr ur],J (π.aI (Y e))] w (gJ C π T F b w es (π.nR k x y)):=by
 cases δ
 all_goals
  try dsimp only [ar.ix,ar.kd]at *
  obtain⟨k0,k1,k2,k3,kb⟩:=bB (w:=w) (o1:=L (π.wk C b) (π.ix 217 200)) (o2:=L #[I O (k:Nat),I O q,σ tl ul,σ tr ur] 334) (o3:=L (π.aI (Y e)) (π.ix 220 203)) (o4:=L #[I π.kd 0,I π.kd 0] (π.ix 131 126)) (Below.refl _ _);have HW:=hs _ (h.call kb);have jR:=π.jM C b;have ef:=π.cy C b;have ee:=π.aD (Y e);generalize π.wk C b=wa at *;generalize π.aI (Y e)=xa at *;have K0:=hid k0;have K1:=hid k1;have K2:=hid k2;have K3:=hid k3;have c2:=cell_of k1 2 (v:=σ tl ul) rfl;have c3:=cell_of k1 3 (v:=σ tr ur) rfl;have HB:=hid kb;have HA:=hid h;have Ki:w.heap.size<=w.heap.size+1:=by omega
  have iT:w.heap.size<=w.heap.size+1+1+1:=by omega
  clear h k0 k1 k2 k3 kb hs;try dsimp only [ar.ix,ar.kd]
  first | go_enter func225,ntmps225 | go_enter func217,ntmps217
  go_wp2_with (first
   | (refine cj (π:=π) rfl _ rfl rfl K0.out ef ?_)
   | (refine bu (π:=π) rfl _ rfl rfl K2.out ee ?_))
  refine HW.mono ?_;rintro r w1⟨rfl,a1,b1⟩;obtain⟨nx,ny,n2⟩:=fh (w:=w1) (o1:=L #[I π.kd x.a,I π.kd x.b] (π.ix 131 126)) (o2:=L #[I π.kd y.a,I π.kd y.b] (π.ix 131 126)) (Below.refl _ _);have dC:w.heap.size<=w1.heap.size:=Nat.le_trans HB.size b1.below.size;have gU:=(n2.block _ (ad (b1.aU HA.out iT K3.out))).trans (b1.aU HA.out iT K3.out);have WO:=(n2.block _ (ad (b1.aU HA.out (Nat.le_refl _) K0.out))).trans (b1.aU HA.out (Nat.le_refl _) K0.out);have BJ:=(n2.block _ (ad (b1.aU HA.out Ki K1.out))).trans (b1.aU HA.out Ki K1.out);have Kc:=hid gU;have QA:=hid WO;have kV:=hid BJ;have NX:=hid nx;have NY:=hid ny;have N2:Hid (Below w.heap.size w1 _):=n2.mono dC;have HA2:Hid (aK C π T (told π b F es) _):=HA.upon a1 N2.out;have WM:Hid (au C w _):=au.upon HA.out ((au.aB HB.out HA.le).trans b1) N2.out;have e0:=cell_of BJ 0 (v:=I O (k:Nat)) rfl;clear a1 b1 HW gU WO BJ n2 nx ny;go_wp2_with fail;refine(C2 k hk _).mono ?_;rintro r w'⟨rfl,rfl⟩;generalize (w1.alloc (L #[I π.kd x.a,I π.kd x.b] (π.ix 131 126))).alloc (L #[I π.kd y.a,I π.kd y.b] (π.ix 131 126))=w2 at *;rw[decide_eq_false jA];have ZQ:=QA;have N8:=kV;have NXn:=NX;have NYn:=NY;have Qh:=Kc;have TS:=HA2;have UK:=WM;have NK:w.heap.size<=w2.heap.size:=Nat.le_trans dC N2.size;have d0:=cell_of ZQ.out 0 jR;have g0:=cell_of N8.out 0 (v:=I O (k:Nat)) rfl;obtain⟨x0,x1,_,_,_⟩:=aR NXn.out;obtain⟨y0,y1,_,_,_⟩:=aR NYn.out;have HD:=QE TS.does hk hx hy;cases ho:π.nR k x y with
  | none =>have HE:=hid ho;rw[ho]at HD;clear ho;go_wp2_with fail;refine HD.mono ?_;rintro r w4⟨rfl,b4⟩;have h4:=(b4.block _ (ad Qh.out)).trans Qh.out;obtain⟨p0,p1,Tm,TE,_⟩:=aR h4;have H5:Hid (_=_):=cq h4 (I π.kd 0) (I π.kd 0);have BM:Hid (Below w.heap.size w2 _):=Below.two (b4.mono (Nat.le_trans (Nat.le_refl _) NK)) iT (I π.kd 0) (I π.kd 0);clear b4 h4 HD;simp only[ar.sF];go_wp2_with fail;have Q0:=cell_of H5.out 0 (v:=I π.kd 0) rfl;have Q1:=cell_of H5.out 1 (v:=I π.kd 0) rfl;refine bodyPost_ret (v:=φ #[J #[I π.kd 0,I π.kd 0],U false]) (by simp[results,results225,results217,go_sem,Q0,Q1]) rfl ?_;exact⟨by rw[HE.out];rfl,HA.upon TS.out BM.out,au.upon HA.out UK.out BM.out⟩
  | some z =>have HE:=hid ho;rw[ho]at HD;clear ho;go_wp2_with fail;refine HD.mono ?_;rintro r w4⟨rfl,b4⟩;have h4:=(b4.block _ (ad Qh.out)).trans Qh.out;obtain⟨p0,p1,Tm,TE,_⟩:=aR h4;have H5:Hid (_=_):=cq h4 (I π.kd z.a) (I π.kd z.b);have BM:Hid (Below w.heap.size w2 _):=Below.two (b4.mono (Nat.le_trans (Nat.le_refl _) NK)) iT (I π.kd z.a) (I π.kd z.b);clear b4 h4 HD;simp only[ar.sF];go_wp2_with fail;have Q0:=cell_of H5.out 0 (v:=I π.kd z.a) rfl;have Q1:=cell_of H5.out 1 (v:=I π.kd z.b) rfl;refine bodyPost_ret (v:=φ #[J #[I π.kd z.a,I π.kd z.b],U true]) (by simp[results,results225,results217,go_sem,Q0,Q1]) rfl ?_;exact⟨by rw[HE.out];rfl,HA.upon TS.out BM.out,au.upon HA.out UK.out BM.out⟩
theorem Cq(k:Nat)(hk:k<5)(jA:3<=k)(q:Int)(tl:TypeId)(ul:Value)(tr:TypeId)(ur:Value)(C:Cx)(π:ar δ)(T:eQ)(F:Fd)(b:Bool)(w:Wd)(e:Fin 8->Sp.Iv)(es:List bV)(x y:Sp.Iv)(hx:π.Wv x)(hy:π.Wv y)(h:aK C π T F w)
  (hs:lj C π T F b (σ tl ul) (σ tr ur) e es (Y (x,y))) (hr:cV b (told π b F es) [.site q (π.iX y)]) :
  Calls prog (π.ix 225 217) #[J (π.wk C b),J #[I O (k:Nat),I O q,σ tl ul,σ tr ur],J (π.aI (Y e))] w (gJ C π T F b w (es ++ [.site q (π.iX y)]) (π.nR k x y)):=by
 cases δ
 all_goals
  try dsimp only [ar.ix,ar.kd]at *
  obtain⟨k0,k1,k2,k3,kb⟩:=bB (w:=w) (o1:=L (π.wk C b) (π.ix 217 200)) (o2:=L #[I O (k:Nat),I O q,σ tl ul,σ tr ur] 334) (o3:=L (π.aI (Y e)) (π.ix 220 203)) (o4:=L #[I π.kd 0,I π.kd 0] (π.ix 131 126)) (Below.refl _ _);have HW:=hs _ (h.call kb);have jR:=π.jM C b;have ef:=π.cy C b;have ee:=π.aD (Y e);have HSi:Hid (∀W,aK C π T (told π b F es) W->Calls _ _ _ W _):=fun W hW=>fR C π T (told π b F es) b W hW q (π.iX y) hr
  generalize π.wk C b=wa at *;generalize π.aI (Y e)=xa at *;have K0:=hid k0;have K1:=hid k1;have K2:=hid k2;have K3:=hid k3;have c2:=cell_of k1 2 (v:=σ tl ul) rfl;have c3:=cell_of k1 3 (v:=σ tr ur) rfl;have HB:=hid kb;have HA:=hid h;have Ki:w.heap.size<=w.heap.size+1:=by omega
  have iT:w.heap.size<=w.heap.size+1+1+1:=by omega
  clear h k0 k1 k2 k3 kb hs;try dsimp only [ar.ix,ar.kd]
  first | go_enter func225,ntmps225 | go_enter func217,ntmps217
  go_wp2_with (first
   | (refine cj (π:=π) rfl _ rfl rfl K0.out ef ?_)
   | (refine bu (π:=π) rfl _ rfl rfl K2.out ee ?_))
  refine HW.mono ?_;rintro r w1⟨rfl,a1,b1⟩;obtain⟨nx,ny,n2⟩:=fh (w:=w1) (o1:=L #[I π.kd x.a,I π.kd x.b] (π.ix 131 126)) (o2:=L #[I π.kd y.a,I π.kd y.b] (π.ix 131 126)) (Below.refl _ _);have dC:w.heap.size<=w1.heap.size:=Nat.le_trans HB.size b1.below.size;have gU:=(n2.block _ (ad (b1.aU HA.out iT K3.out))).trans (b1.aU HA.out iT K3.out);have WO:=(n2.block _ (ad (b1.aU HA.out (Nat.le_refl _) K0.out))).trans (b1.aU HA.out (Nat.le_refl _) K0.out);have BJ:=(n2.block _ (ad (b1.aU HA.out Ki K1.out))).trans (b1.aU HA.out Ki K1.out);have Kc:=hid gU;have QA:=hid WO;have kV:=hid BJ;have NX:=hid nx;have NY:=hid ny;have N2:Hid (Below w.heap.size w1 _):=n2.mono dC;have HA2:Hid (aK C π T (told π b F es) _):=HA.upon a1 N2.out;have WM:Hid (au C w _):=au.upon HA.out ((au.aB HB.out HA.le).trans b1) N2.out;have e0:=cell_of BJ 0 (v:=I O (k:Nat)) rfl;clear a1 b1 HW gU WO BJ n2 nx ny;go_wp2_with fail;refine(C2 k hk _).mono ?_;rintro r w'⟨rfl,rfl⟩;generalize (w1.alloc (L #[I π.kd x.a,I π.kd x.b] (π.ix 131 126))).alloc (L #[I π.kd y.a,I π.kd y.b] (π.ix 131 126))=w2 at *;rw[decide_eq_true jA];have hyk:w.heap.size<=w1.heap.size+1:=by omega
  have Yz:w.heap.size<=w1.heap.size:=dC;have b0:Below w.heap.size w2 w2.drew:=(Below.refl _ _).drew;have HAd:Hid (aK C π T (told π b F es) w2.drew):=HA.upon HA2.out b0;have HKd:Hid (au C w w2.drew):=au.upon HA.out WM.out b0;have H0:Hid (tC π wa (I O (k:Nat)) (I O q) (σ tl ul) (σ tr ur) x y w.heap.size w1.heap.size w2.drew):=⟨QA.out,kV.out,Kc.out,NX.out,NY.out⟩;go_wp2_with fail;refine wp_region_held_drew (S:=fun w':Wd=>tC π wa (I O (k:Nat)) (I O q) (σ tl ul) (σ tr ur) x y w.heap.size w1.heap.size w') (by kernel_rfl) H0.out (fun aa=>?_);refine mB 0 rfl (π.qq rfl _ rfl _ _ rfl (wa) (fun w' h=>aP h.o) ef) aa ?_;refine tq 1 (ρ (Y ⟨w.heap.size+1,1,M⟩)) aa ?_;refine tk 2 (I O q) rfl (fun w' h=>by have d:=cell_of h.c 1 (v:=I O q) rfl;go_simp) aa ?_;refine tq 3 (ρ (Y ⟨w.heap.size,0,M⟩)) aa ?_;refine tk 4 (σ (π.ix 133 128) C.dv) rfl (fun w' h=>by have d:=cell_of h.o 0 jR;go_simp) aa ?_;refine tk 5 (J #[I π.kd y.a,I π.kd y.b]) rfl (fun w' h=>by(have d0:=cell_of h.y 0 (v:=I π.kd y.a) rfl);have d1:=cell_of h.y 1 (v:=I π.kd y.b) rfl;go_simp) aa ?_;refine bD 6 fun K hK=>?_
  simp only[bp,fB];go_simp;refine(OI HAd.does hy).mono ?_;rintro r w5⟨rfl,b5⟩;go_wp2_with fail;have QY:Hid (aK C π T (told π b F es) w5):=HAd.call b5;have Rw:Hid (au C w w5):=HKd.more b5 HA.le;have zY:=aa.call b5;refine hK.out _ _ zY (fun aa=>?_);clear hK K zY b5;refine bD 7 fun K hK=>?_
  simp only[bp];go_simp;refine(HSi.out _ QY.out).mono ?_;rintro r w3⟨rfl,a3,b3⟩;go_wp2_with fail;have yQ:=aa.bF HA.out b3 Ki iT Yz hyk;have TS:=hid a3;have UK:Hid (au C w w3):=Rw.trans b3;have NK:w.heap.size<=w3.heap.size:=UK.below.size;have ZQ:=hid yQ.o;have N8:=hid yQ.c;have Qh:=hid yQ.z;have NXn:=hid yQ.x;have NYn:=hid yQ.y;refine hK.out _ _ yQ (fun _=>?_);clear hK K yQ a3 b3;refine wpAnyH_done (by kernel_rfl) ?_ _;have d0:=cell_of ZQ.out 0 jR;have g0:=cell_of N8.out 0 (v:=I O (k:Nat)) rfl;obtain⟨x0,x1,_,_,_⟩:=aR NXn.out;obtain⟨y0,y1,_,_,_⟩:=aR NYn.out;have HD:=QE TS.does hk hx hy;cases ho:π.nR k x y with
  | none =>have HE:=hid ho;rw[ho]at HD;clear ho;go_wp2_with fail;refine HD.mono ?_;rintro r w4⟨rfl,b4⟩;have h4:=(b4.block _ (ad Qh.out)).trans Qh.out;obtain⟨p0,p1,Tm,TE,_⟩:=aR h4;have H5:Hid (_=_):=cq h4 (I π.kd 0) (I π.kd 0);have BM:Hid (Below w.heap.size w3 _):=Below.two (b4.mono (Nat.le_trans (Nat.le_refl _) NK)) iT (I π.kd 0) (I π.kd 0);clear b4 h4 HD;simp only[ar.sF];go_wp2_with fail;have Q0:=cell_of H5.out 0 (v:=I π.kd 0) rfl;have Q1:=cell_of H5.out 1 (v:=I π.kd 0) rfl;refine bodyPost_ret (v:=φ #[J #[I π.kd 0,I π.kd 0],U false]) (by simp[results,results225,results217,go_sem,Q0,Q1]) rfl ?_;exact⟨by rw[HE.out];rfl,by rw[aF];exact HA.upon TS.out BM.out,au.upon HA.out UK.out BM.out⟩
  | some z =>have HE:=hid ho;rw[ho]at HD;clear ho;go_wp2_with fail;refine HD.mono ?_;rintro r w4⟨rfl,b4⟩;have h4:=(b4.block _ (ad Qh.out)).trans Qh.out;obtain⟨p0,p1,Tm,TE,_⟩:=aR h4;have H5:Hid (_=_):=cq h4 (I π.kd z.a) (I π.kd z.b);have BM:Hid (Below w.heap.size w3 _):=Below.two (b4.mono (Nat.le_trans (Nat.le_refl _) NK)) iT (I π.kd z.a) (I π.kd z.b);clear b4 h4 HD;simp only[ar.sF];go_wp2_with fail;have Q0:=cell_of H5.out 0 (v:=I π.kd z.a) rfl;have Q1:=cell_of H5.out 1 (v:=I π.kd z.b) rfl;refine bodyPost_ret (v:=φ #[J #[I π.kd z.a,I π.kd z.b],U true]) (by simp[results,results225,results217,go_sem,Q0,Q1]) rfl ?_;exact⟨by rw[HE.out];rfl,by rw[aF];exact HA.upon TS.out BM.out,au.upon HA.out UK.out BM.out⟩
end
end W
end
section
namespace W
variable {δ : Bool}{π : ar δ}
theorem oD{fn:Func}{a b:Tmp}(Gj:fn.results=#[.cell a (π.ix 220 203),.cell b (π.ix 220 203)])(tmps:Array Value)(w:Wd){i j:Nat}{c d:Array Value}(ht:tmps.getD a undef=ρ (Y ⟨i,0,M⟩))(hu:tmps.getD b undef=ρ (Y ⟨j,0,M⟩))(h:Bk w i c (π.ix 220 203))(hc:c.size=17)(k:Bk w j d (π.ix 220 203))(hd:d.size=17) :
  (results fn tmps).run prog w=.ok (φ #[J c,J d]) w:=by
 have hl:=vD h hc;have BF:=vD k hd;have Tu:tmps[a]?.getD undef=ρ (Y ⟨i,0,M⟩):=by rw[<-ht];simp
 have DW:tmps[b]?.getD undef=ρ (Y ⟨j,0,M⟩):=by rw[<-hu];simp
 unfold results;rw[Gj];simp[asAddr,Tu,DW,hl,BF]
def fZ(C:Cx)(π:ar δ)(T:eQ)(F:Fd)(b:Bool)(w:Wd)(es:List bV)(s1 s2:ST)(r:Ending)(w':Wd):Prop :=
 r=υ (φ #[J (π.aI s1),J (π.aI s2)])/\aK C π T (told π b F es) w'/\au C w w'
structure um(π:ar δ)(na:Array Value)(k B:Nat)(w W:Wd):Prop where
 p:W.heap[k]?=Y (L na (π.ix 220 203))
 q:W.heap[k+1]?=Y (L na (π.ix 220 203))
 b:Below B w W
theorem GC(w:Wd)(o1 o2 o3 o4 o5:Obj) :
  (((((w.alloc o1).alloc o2).alloc o3).alloc o4).alloc o5).heap[w.heap.size]?=Y o1/\(((((w.alloc o1).alloc o2).alloc o3).alloc o4).alloc o5).heap[w.heap.size+1]?=Y o2/\(((((w.alloc o1).alloc o2).alloc o3).alloc o4).alloc o5).heap[w.heap.size+1+1]?=Y o3/\(((((w.alloc o1).alloc o2).alloc o3).alloc o4).alloc o5).heap[w.heap.size+1+1+1]?=Y o4/\(((((w.alloc o1).alloc o2).alloc o3).alloc o4).alloc o5).heap[w.heap.size+1+1+1+1]?=Y o5/\ω w (((((w.alloc o1).alloc o2).alloc o3).alloc o4).alloc o5):=by
 obtain⟨k0,k1,k2,k3,kb⟩:=bB (w:=w) (o1:=o1) (o2:=o2) (o3:=o3) (o4:=o4) (Below.refl _ _);refine⟨heap_alloc_old k0,heap_alloc_old k1,heap_alloc_old k2,heap_alloc_old k3,?_,kb.alloc kb.size _⟩;rw[show w.heap.size+1+1+1+1=((((w.alloc o1).alloc o2).alloc o3).alloc o4).heap.size by simp];exact heap_alloc_new _ _
theorem I3(k:Nat)(vl vr:Value)(C:Cx)(π:ar δ)(T:eQ)(F:Fd)(b:Bool)(w:Wd)(h:aK C π T F w) :
  Calls prog (π.ix 198 194) #[J (π.wk C b),J #[I O (k:Nat),vl,vr],J (π.aI M)] w (fZ C π T F b w [] M M):=by
 cases δ
 all_goals
  try dsimp only [ar.ix,ar.kd]at *
  have z0:∀h:0<(π.aI M).size,(π.aI M)[0]=U false:=fun h=>π.im M h
  have fu:=π.aD M;obtain⟨na,qO⟩:∃na,na=π.eS:=⟨_,rfl⟩;have se:na.size=17:=by rw[qO];rfl
  have n1:na.all (·.oneCell')=true:=by rw[qO];exact π.aV M
  have qS:=hid qO;generalize π.wk C b=wa at *;generalize π.aI M=xa at *;have H0:Hid (um π na (w.heap.size+1+1+1) w.heap.size w (((((w.alloc (L wa (π.ix 217 200))).alloc (L #[I O (k:Nat),vl,vr] 285)).alloc (L xa (π.ix 220 203))).alloc (L π.zS (π.ix 220 203))).alloc (L π.zS (π.ix 220 203))).drew):=by obtain⟨_,_,_,hp,hq,kb⟩:=GC w (L wa (π.ix 217 200)) (L #[I O (k:Nat),vl,vr] 285) (L xa (π.ix 220 203)) (L π.zS (π.ix 220 203)) (L π.zS (π.ix 220 203));rw[qO];exact⟨hp,hq,kb.drew⟩
  have HA:=hid h;clear h qO;try dsimp only [ar.ix,ar.kd]
  first | go_enter func198,ntmps198 | go_enter func194,ntmps194
  go_wp2_with fail;generalize ((((w.alloc (L wa (π.ix 217 200))).alloc (L #[I O (k:Nat),vl,vr] 285)).alloc (L xa (π.ix 220 203))).alloc (L π.zS (π.ix 220 203))).alloc (L π.zS (π.ix 220 203))=W at *;refine wp_region_held_drew (S:=fun w':Wd=>um π na (w.heap.size+1+1+1) w.heap.size w w') (by kernel_rfl) H0.out (fun aa=>?_);refine mB 0 rfl (π.mv rfl _ rfl _ _ rfl (na) (fun w' h=>aP h.p) se) aa ?_;refine mB 1 rfl (π.mv rfl _ rfl _ _ rfl (na) (fun w' h=>aP h.q) se) aa ?_;refine bD 2 fun K hK=>?_
  simp only[bp,fB];rw[if_pos (by rfl)];refine lk (π:=π) _ _ rfl rfl rfl (by rw[<-se];exact bM aa.p) se n1 ?_;have fK:um π na (w.heap.size+1+1+1) w.heap.size w _:=⟨ao aa.p (d:=na) rfl,(aj na.toList 0 _ (w.heap.size+1+1+1+1) (by omega)).trans aa.q,aq (b:=w.heap.size+1+1+1) (by omega) na.toList 0 w _ aa.b⟩;refine hK.out _ _ fK (fun aa=>?_);clear hK K fK;refine bD 3 fun K hK=>?_
  simp only[bp];rw[if_pos (by rfl)];refine lk (π:=π) _ _ rfl rfl rfl (by rw[<-se];exact bM aa.q) se n1 ?_;have yQ:um π na (w.heap.size+1+1+1) w.heap.size w _:=⟨(aj na.toList 0 _ (w.heap.size+1+1+1) (by omega)).trans aa.p,ao aa.q (d:=na) rfl,aq (b:=w.heap.size+1+1+1+1) (by omega) na.toList 0 w _ aa.b⟩;have Ku:=hid yQ;refine hK.out _ _ yQ (fun aa=>?_);clear hK K yQ aa;refine wpAnyH_done (by kernel_rfl) ?_ _;go_wp2_with fail;refine bodyPost_ret (oD rfl _ _ rfl rfl Ku.p se Ku.q se) rfl ?_;exact⟨by rw[qS.out];rfl,by rw[dV];exact HA.call Ku.b,au.aB Ku.b HA.le⟩
theorem GD(k:Nat)(tl:TypeId)(ul:Value)(tr:TypeId)(ur:Value)(C:Cx)(π:ar δ)(T:eQ)(F:Fd)(b:Bool)(w:Wd)(e:Fin 8->Sp.Iv)(es:List bV)(h:aK C π T F w)
  (hs:lj C π T F b (σ tl ul) (σ tr ur) e es M) :
  Calls prog (π.ix 198 194) #[J (π.wk C b),J #[I O (k:Nat),σ tl ul,σ tr ur],J (π.aI (Y e))] w (fZ C π T F b w es M M):=by
 cases δ
 all_goals
  try dsimp only [ar.ix,ar.kd]at *
  have z0:∀h:0<(π.aI (Y e)).size,(π.aI (Y e))[0]=U true:=fun h=>π.im (Y e) h
  have ee:=π.aD (Y e);have jR:=π.jM C b;have ef:=π.cy C b;obtain⟨na,qO⟩:∃na,na=π.eS:=⟨_,rfl⟩;have se:na.size=17:=by rw[qO];rfl
  have n1:na.all (·.oneCell')=true:=by rw[qO];exact π.aV M
  have qS:=hid qO;obtain⟨k0,k1,k2,k3,k4,kb⟩:=GC w (L (π.wk C b) (π.ix 217 200)) (L #[I O (k:Nat),σ tl ul,σ tr ur] 285) (L (π.aI (Y e)) (π.ix 220 203)) (L π.zS (π.ix 220 203)) (L π.zS (π.ix 220 203));have HW:=hs _ (h.call kb);generalize π.wk C b=wa at *;generalize π.aI (Y e)=xa at *;have K0:=hid k0;have K1:=hid k1;have K2:=hid k2;have K3:=hid k3;have K4:=hid k4;have c1:=cell_of k1 1 (v:=σ tl ul) rfl;have c2:=cell_of k1 2 (v:=σ tr ur) rfl;have HB:=hid kb;have HA:=hid h;have l1:w.heap.size<=w.heap.size+1:=by omega
  have l2:w.heap.size<=w.heap.size+1+1:=by omega
  have l3:w.heap.size<=w.heap.size+1+1+1:=by omega
  have l4:w.heap.size<=w.heap.size+1+1+1+1:=by omega
  clear h hs k0 k1 k2 k3 k4 kb qO;try dsimp only [ar.ix,ar.kd]
  first | go_enter func198,ntmps198 | go_enter func194,ntmps194
  go_wp2_with (first
   | (refine cj (π:=π) rfl _ rfl rfl K0.out ef ?_)
   | (refine bu (π:=π) rfl _ rfl rfl K2.out ee ?_))
  refine HW.mono ?_;rintro r w1⟨⟨i1,i2,i3,i4,rfl⟩,a1,b1⟩;obtain⟨_,_,n2⟩:=fh (w:=w1) (o1:=L #[I π.kd i1,I π.kd i2] (π.ix 131 126)) (o2:=L #[I π.kd i3,I π.kd i4] (π.ix 131 126)) (Below.refl _ _);have dC:w.heap.size<=w1.heap.size:=Nat.le_trans HB.size b1.below.size;have H0:Hid (um π na (w.heap.size+1+1+1) w.heap.size w1 ((w1.alloc (L #[I π.kd i1,I π.kd i2] (π.ix 131 126))).alloc (L #[I π.kd i3,I π.kd i4] (π.ix 131 126))).drew):=by rw[qS.out];exact⟨(n2.block _ (ad (b1.aU HA.out l3 K3.out))).trans (b1.aU HA.out l3 K3.out),(n2.block _ (ad (b1.aU HA.out l4 K4.out))).trans (b1.aU HA.out l4 K4.out),(n2.mono dC).drew⟩
  have nZ:=hid a1;have mN:Hid (au C w w1):=(au.aB HB.out HA.le).trans b1;clear a1 b1 n2 HW;go_wp2_with fail;generalize (w1.alloc (L #[I π.kd i1,I π.kd i2] (π.ix 131 126))).alloc (L #[I π.kd i3,I π.kd i4] (π.ix 131 126))=W at *;refine wp_region_held_drew (S:=fun w':Wd=>um π na (w.heap.size+1+1+1) w.heap.size w1 w') (by kernel_rfl) H0.out (fun aa=>?_);refine mB 0 rfl (π.mv rfl _ rfl _ _ rfl (na) (fun w' h=>aP h.p) se) aa ?_;refine mB 1 rfl (π.mv rfl _ rfl _ _ rfl (na) (fun w' h=>aP h.q) se) aa ?_;refine bD 2 fun K hK=>?_
  simp only[bp,fB];rw[if_pos (by rfl)];refine lk (π:=π) _ _ rfl rfl rfl (by rw[<-se];exact bM aa.p) se n1 ?_;have fK:um π na (w.heap.size+1+1+1) w.heap.size w1 _:=⟨ao aa.p (d:=na) rfl,(aj na.toList 0 _ (w.heap.size+1+1+1+1) (by omega)).trans aa.q,aq (b:=w.heap.size+1+1+1) (by omega) na.toList 0 w1 _ aa.b⟩;refine hK.out _ _ fK (fun aa=>?_);clear hK K fK;refine bD 3 fun K hK=>?_
  simp only[bp];rw[if_pos (by rfl)];refine lk (π:=π) _ _ rfl rfl rfl (by rw[<-se];exact bM aa.q) se n1 ?_;have yQ:um π na (w.heap.size+1+1+1) w.heap.size w1 _:=⟨(aj na.toList 0 _ (w.heap.size+1+1+1) (by omega)).trans aa.p,ao aa.q (d:=na) rfl,aq (b:=w.heap.size+1+1+1+1) (by omega) na.toList 0 w1 _ aa.b⟩;have Ku:=hid yQ;refine hK.out _ _ yQ (fun aa=>?_);clear hK K yQ aa;refine wpAnyH_done (by kernel_rfl) ?_ _;go_wp2_with fail;refine bodyPost_ret (oD rfl _ _ rfl rfl Ku.p se Ku.q se) rfl ?_;exact⟨by rw[qS.out];rfl,HA.upon nZ.out Ku.b,au.upon HA.out mN.out Ku.b⟩
theorem Mz(k:Nat)(hk:k<6)(tl:TypeId)(ul:Value)(tr:TypeId)(ur:Value)(x y:Sp.Sm)(hl:km (σ tl ul) x)(hy:km (σ tr ur) y)(a c:Sp.Iv)(ha:π.Wv a)(hc:π.Wv c)(C:Cx)(π:ar δ)(T:eQ)(F:Fd)(b:Bool)(w:Wd)(e:Fin 8->Sp.Iv)(he:∀j,π.Wv (e j))(es:List bV)(h:aK C π T F w)
  (hs:lj C π T F b (σ tl ul) (σ tr ur) e es (Y (a,c))) (s1 s2:ST) (h1:fH (Dm π) k x y a c e=s1) (h2:fH (Dm π) (xE k) x y a c e=s2) :
  Calls prog (π.ix 198 194) #[J (π.wk C b),J #[I O (k:Nat),σ tl ul,σ tr ur],J (π.aI (Y e))] w (fZ C π T F b w es s1 s2):=by
 cases δ
 all_goals
  try dsimp only [ar.ix,ar.kd]at *
  have z0:∀h:0<(π.aI (Y e)).size,(π.aI (Y e))[0]=U true:=fun h=>π.im (Y e) h
  have ee:=π.aD (Y e);have jR:=π.jM C b;have ef:=π.cy C b;obtain⟨na,qO⟩:∃na,na=π.eS:=⟨_,rfl⟩;have se:na.size=17:=by rw[qO];rfl
  have n1:na.all (·.oneCell')=true:=by rw[qO];exact π.aV M
  have qS:=hid qO;obtain⟨k0,k1,k2,k3,k4,kb⟩:=GC w (L (π.wk C b) (π.ix 217 200)) (L #[I O (k:Nat),σ tl ul,σ tr ur] 285) (L (π.aI (Y e)) (π.ix 220 203)) (L π.zS (π.ix 220 203)) (L π.zS (π.ix 220 203));have HW:=hs _ (h.call kb);have ho6:xE k<6:=by rcases(show k=0∨k=1∨k=2∨k=3∨k=4∨k=5 from by omega) with rfl | rfl | rfl | rfl | rfl | rfl<;>decide
  have Ej:Hid (∀kl kr W,aK C π T (told π b F es) W->iA π (π.wk C b) (π.aI (Y e)) (I O (k:Nat)) (σ tl ul) (σ tr ur) a c w.heap.size kl kr (w.heap.size+1) (w.heap.size+1+1) W->Calls _ _ _ W _):=fun kl kr W hW Uj=>jI (B:=C.base) (π:=π) k hk C.dv (π.wk C b) jR ef (I O (k:Nat)) tl tr ul ur x y hl hy a c ha hc e he w.heap.size kl kr (w.heap.size+1) (w.heap.size+1+1) W hW.does hW.turns hW.Hf Uj s1 h1
  have yS:Hid (∀kl kr W,aK C π T (told π b F es) W->iA π (π.wk C b) (π.aI (Y e)) (I O (k:Nat)) (σ tl ul) (σ tr ur) a c w.heap.size kl kr (w.heap.size+1) (w.heap.size+1+1) W->Calls _ _ _ W _):=fun kl kr W hW Uj=>jI (B:=C.base) (π:=π) (xE k) ho6 C.dv (π.wk C b) jR ef (I O (k:Nat)) tl tr ul ur x y hl hy a c ha hc e he w.heap.size kl kr (w.heap.size+1) (w.heap.size+1+1) W hW.does hW.turns hW.Hf Uj s2 h2
  have si:=π.aD s1;have Kd:=π.aV s1;have xQ:=π.aD s2;have KJ:=π.aV s2;generalize π.wk C b=wa at *;generalize π.aI (Y e)=xa at *;have K0:=hid k0;have K1:=hid k1;have K2:=hid k2;have K3:=hid k3;have K4:=hid k4;have c1:=cell_of k1 1 (v:=σ tl ul) rfl;have c2:=cell_of k1 2 (v:=σ tr ur) rfl;have HB:=hid kb;have HA:=hid h;have l1:w.heap.size<=w.heap.size+1:=by omega
  have l2:w.heap.size<=w.heap.size+1+1:=by omega
  have l3:w.heap.size<=w.heap.size+1+1+1:=by omega
  have l4:w.heap.size<=w.heap.size+1+1+1+1:=by omega
  clear h hs k0 k1 k2 k3 k4 kb qO;try dsimp only [ar.ix,ar.kd]
  first | go_enter func198,ntmps198 | go_enter func194,ntmps194
  go_wp2_with (first
   | (refine cj (π:=π) rfl _ rfl rfl K0.out ef ?_)
   | (refine bu (π:=π) rfl _ rfl rfl K2.out ee ?_))
  refine HW.mono ?_;rintro r w1⟨rfl,a1,b1⟩;obtain⟨nl,nr,n2⟩:=fh (w:=w1) (o1:=L #[I π.kd a.a,I π.kd a.b] (π.ix 131 126)) (o2:=L #[I π.kd c.a,I π.kd c.b] (π.ix 131 126)) (Below.refl _ _);have dC:w.heap.size<=w1.heap.size:=Nat.le_trans HB.size b1.below.size;have H0:Hid (iA π wa xa (I O (k:Nat)) (σ tl ul) (σ tr ur) a c w.heap.size w1.heap.size (w1.heap.size+1) (w.heap.size+1) (w.heap.size+1+1) ((w1.alloc (L #[I π.kd a.a,I π.kd a.b] (π.ix 131 126))).alloc (L #[I π.kd c.a,I π.kd c.b] (π.ix 131 126))).drew/\((w1.alloc (L #[I π.kd a.a,I π.kd a.b] (π.ix 131 126))).alloc (L #[I π.kd c.a,I π.kd c.b] (π.ix 131 126))).drew.heap[w.heap.size+1+1+1]?=Y (L π.zS (π.ix 220 203))/\((w1.alloc (L #[I π.kd a.a,I π.kd a.b] (π.ix 131 126))).alloc (L #[I π.kd c.a,I π.kd c.b] (π.ix 131 126))).drew.heap[w.heap.size+1+1+1+1]?=Y (L π.zS (π.ix 220 203))/\Below w.heap.size w1 ((w1.alloc (L #[I π.kd a.a,I π.kd a.b] (π.ix 131 126))).alloc (L #[I π.kd c.a,I π.kd c.b] (π.ix 131 126))).drew) :=
   ⟨⟨(n2.block _ (ad (b1.aU HA.out (Nat.le_refl _) K0.out))).trans (b1.aU HA.out (Nat.le_refl _) K0.out),nl,nr,(n2.block _ (ad (b1.aU HA.out l1 K1.out))).trans (b1.aU HA.out l1 K1.out),(n2.block _ (ad (b1.aU HA.out l2 K2.out))).trans (b1.aU HA.out l2 K2.out)⟩,
    (n2.block _ (ad (b1.aU HA.out l3 K3.out))).trans (b1.aU HA.out l3 K3.out),(n2.block _ (ad (b1.aU HA.out l4 K4.out))).trans (b1.aU HA.out l4 K4.out),(n2.mono dC).drew⟩
  have Xg:w.heap.size+1+1+1+1<w1.heap.size:=Nat.lt_of_lt_of_le (ad K4.out) b1.below.size;have nZ:=hid a1;have mN:Hid (au C w w1):=(au.aB HB.out HA.le).trans b1;clear a1 b1 n2 HW nl nr;go_wp2_with fail;generalize (w1.alloc (L #[I π.kd a.a,I π.kd a.b] (π.ix 131 126))).alloc (L #[I π.kd c.a,I π.kd c.b] (π.ix 131 126))=W at *;refine wp_region_held_drew (S:=fun w':Wd=>iA π wa xa (I O (k:Nat)) (σ tl ul) (σ tr ur) a c w.heap.size w1.heap.size (w1.heap.size+1) (w.heap.size+1) (w.heap.size+1+1) w'/\(∃d,d.size=17/\w'.heap[w.heap.size+1+1+1]?=Y (L d (π.ix 220 203)))/\(∃d,d.size=17/\w'.heap[w.heap.size+1+1+1+1]?=Y (L d (π.ix 220 203)))/\Below w.heap.size w1 w') (by kernel_rfl) ⟨H0.1,⟨_,rfl,H0.2.1⟩,⟨_,rfl,H0.2.2.1⟩,H0.2.2.2⟩ (fun aa=>?_);refine tq 0 (.func (Fn.func (π.ix 227 219)) #[] #[ρ (Y ⟨w.heap.size,0,M⟩),ρ (Y ⟨w1.heap.size,0,M⟩),ρ (Y ⟨w1.heap.size+1,0,M⟩),ρ (Y ⟨w.heap.size+1,0,M⟩),ρ (Y ⟨w.heap.size+1+1,0,M⟩)]) aa ?_;refine tq 1 (ρ (Y ⟨w.heap.size+1,0,M⟩)) aa ?_;refine tk 2 (I O (k:Nat)) rfl (fun w' h=>by have d:=cell_of h.1.c 0 (v:=I O (k:Nat)) rfl;go_simp) aa ?_;refine tq 4 (.func (Fn.func (π.ix 227 219)) #[] #[ρ (Y ⟨w.heap.size,0,M⟩),ρ (Y ⟨w1.heap.size,0,M⟩),ρ (Y ⟨w1.heap.size+1,0,M⟩),ρ (Y ⟨w.heap.size+1,0,M⟩),ρ (Y ⟨w.heap.size+1+1,0,M⟩)]) aa ?_;refine tq 5 (ρ (Y ⟨w.heap.size+1,0,M⟩)) aa ?_;refine tk 6 (I O (k:Nat)) rfl (fun w' h=>by have d:=cell_of h.1.c 0 (v:=I O (k:Nat)) rfl;go_simp) aa ?_;refine bD 3 fun K hK=>?_
  simp only[bp,fB];go_simp;refine(Ej.out _ _ _ (HA.upon nZ.out aa.2.2.2) aa.1).mono ?_;rintro q w3⟨rfl,b3⟩;go_wp2_with fail;obtain⟨c3,Bz,tz⟩:=aa.2.1;obtain⟨c4,uH,uR⟩:=aa.2.2.1;have yQ:iA π wa xa (I O (k:Nat)) (σ tl ul) (σ tr ur) a c w.heap.size w1.heap.size (w1.heap.size+1) (w.heap.size+1) (w.heap.size+1+1) w3/\(∃d,d.size=17/\w3.heap[w.heap.size+1+1+1]?=Y (L d (π.ix 220 203)))/\(∃d,d.size=17/\w3.heap[w.heap.size+1+1+1+1]?=Y (L d (π.ix 220 203)))/\Below w.heap.size w1 w3:=⟨aa.1.call b3,⟨c3,Bz,(b3.block _ (ad tz)).trans tz⟩,⟨c4,uH,(b3.block _ (ad uR)).trans uR⟩,aa.2.2.2.trans (b3.mono (Nat.le_trans dC aa.2.2.2.size))⟩;refine hK.out _ _ yQ (fun aa=>?_);clear hK K yQ b3 tz uR;refine bD 7 fun K hK=>?_
  simp only[bp];go_simp;refine(kC k hk _ (HA.upon nZ.out aa.2.2.2).turns).mono ?_;rintro q w4⟨rfl,rfl⟩;go_wp2_with fail;refine hK.out _ _ aa (fun aa=>?_);clear hK K;refine bD 8 fun K hK=>?_
  simp only[bp];go_simp;refine(yS.out _ _ _ (HA.upon nZ.out aa.2.2.2) aa.1).mono ?_;rintro q w5⟨rfl,b5⟩;go_wp2_with fail;obtain⟨c5,hc5,BR⟩:=aa.2.1;obtain⟨c6,hc6,OE⟩:=aa.2.2.1;have Ie:=(b5.block _ (ad BR)).trans BR;have XU:=(b5.block _ (ad OE)).trans OE;have zY:iA π wa xa (I O (k:Nat)) (σ tl ul) (σ tr ur) a c w.heap.size w1.heap.size (w1.heap.size+1) (w.heap.size+1) (w.heap.size+1+1) w5/\(∃d,d.size=17/\w5.heap[w.heap.size+1+1+1]?=Y (L d (π.ix 220 203)))/\(∃d,d.size=17/\w5.heap[w.heap.size+1+1+1+1]?=Y (L d (π.ix 220 203)))/\Below w.heap.size w1 w5:=⟨aa.1.call b5,⟨c5,hc5,Ie⟩,⟨c6,hc6,XU⟩,aa.2.2.2.trans (b5.mono (Nat.le_trans dC aa.2.2.2.size))⟩;refine hK.out _ _ zY (fun aa=>?_);clear hK K zY b5 BR OE;generalize Ky:π.aI s1=u1 at *;generalize Ov:π.aI s2=u2 at *;have HU1:=hid Ky;have HU2:=hid Ov;clear Ky Ov;have dF:∀i,i<w.heap.size+1+1+1∨w1.heap.size<=i->i≠w.heap.size+1+1+1:=fun i hi=>by have:=Xg;omega
  have D3:∀i,i<w.heap.size+1+1+1∨w1.heap.size<=i->i≠w.heap.size+1+1+1+1:=fun i hi=>by have:=Xg;omega
  have ZE:=ao Ie (d:=u1) (by omega);have YF:=(aj u1.toList 0 w5 (w.heap.size+1+1+1+1) (show w.heap.size+1+1+1+1≠w.heap.size+1+1+1 by omega)).trans XU;have TL:=aq (b:=w.heap.size+1+1+1) l3 u1.toList 0 w1 _ aa.2.2.2;have Uv:iA π wa xa (I O (k:Nat)) (σ tl ul) (σ tr ur) a c w.heap.size w1.heap.size (w1.heap.size+1) (w.heap.size+1) (w.heap.size+1+1) (w5.setCells (w.heap.size+1+1+1) 0 u1.toList) :=
   ⟨(aj _ _ _ _ (dF _ (.inl (by omega)))).trans aa.1.o,(aj _ _ _ _ (dF _ (.inr (by omega)))).trans aa.1.l,(aj _ _ _ _ (dF _ (.inr (by omega)))).trans aa.1.r,(aj _ _ _ _ (dF _ (.inl (by omega)))).trans aa.1.c,(aj _ _ _ _ (dF _ (.inl (by omega)))).trans aa.1.x⟩
  refine bD 9 fun K hK=>?_
  simp only[bp];rw[if_pos (by rfl)];refine lk (π:=π) _ _ rfl rfl rfl (by rw[<-hc5];exact bM Ie) si Kd ?_;refine hK.out _ _ ⟨Uv,⟨u1,si,ZE⟩,⟨c6,hc6,YF⟩,TL⟩ (fun aa=>?_);clear hK K;have Xe:=(aj u2.toList 0 (w5.setCells (w.heap.size+1+1+1) 0 u1.toList) (w.heap.size+1+1+1) (show w.heap.size+1+1+1≠w.heap.size+1+1+1+1 by omega)).trans ZE;have WV:=ao YF (d:=u2) (by omega);have Wp:=aq (b:=w.heap.size+1+1+1+1) l4 u2.toList 0 w1 _ TL;have HP:=hid Xe;have HQ:=hid WV;have fF:=hid Wp;refine bD 10 fun K hK=>?_
  simp only[bp];rw[if_pos (by rfl)];refine lk (π:=π) _ _ rfl rfl rfl (by rw[<-hc6];exact bM YF) xQ KJ ?_;refine hK.out _ _ ⟨⟨(aj _ _ _ _ (D3 _ (.inl (by omega)))).trans aa.1.o,(aj _ _ _ _ (D3 _ (.inr (by omega)))).trans aa.1.l,(aj _ _ _ _ (D3 _ (.inr (by omega)))).trans aa.1.r,(aj _ _ _ _ (D3 _ (.inl (by omega)))).trans aa.1.c,(aj _ _ _ _ (D3 _ (.inl (by omega)))).trans aa.1.x⟩,⟨u1,si,HP.out⟩,⟨u2,xQ,HQ.out⟩,fF.out⟩ (fun _=>?_);clear hK K aa Uv ZE YF TL Xe WV Wp Ie XU;refine wpAnyH_done (by kernel_rfl) ?_ _;go_wp2_with fail;refine bodyPost_ret (oD rfl _ _ rfl rfl HP.out si HQ.out xQ) rfl ?_;exact⟨by rw[<-HU1.out,<-HU2.out],HA.upon nZ.out fF.out,au.upon HA.out mN.out fF.out⟩
end W
end
section
namespace W
variable {δ : Bool}{π : ar δ}
def vh(C:Cx)(π:ar δ)(T:eQ)(F:Fd)(b:Bool)(k:Nat)(vl vr:Value)(s:ST)(es:List bV)(s1 s2:ST):Prop :=
 ∀W,aK C π T F W->Calls prog (π.ix 198 194) #[J (π.wk C b),J #[I O (k:Nat),vl,vr],J (π.aI s)] W (fZ C π T F b W es s1 s2)
theorem rI(w:Wd)(u1 u2:Array Value)(h1:u1.size=17)(h2:u2.size=17) :
  ((w.alloc (L π.zS (π.ix 220 203))).alloc (L π.zS (π.ix 220 203))).heap[w.heap.size]?=Y (L π.zS (π.ix 220 203)) /\
  (((w.alloc (L π.zS (π.ix 220 203))).alloc (L π.zS (π.ix 220 203))).setCells w.heap.size 0 u1.toList).heap[w.heap.size+1]?=Y (L π.zS (π.ix 220 203)) /\
  ((((w.alloc (L π.zS (π.ix 220 203))).alloc (L π.zS (π.ix 220 203))).setCells w.heap.size 0 u1.toList).setCells (w.heap.size+1) 0 u2.toList).heap[w.heap.size]?=Y (L u1 (π.ix 220 203)) /\
  ((((w.alloc (L π.zS (π.ix 220 203))).alloc (L π.zS (π.ix 220 203))).setCells w.heap.size 0 u1.toList).setCells (w.heap.size+1) 0 u2.toList).heap[w.heap.size+1]?=Y (L u2 (π.ix 220 203)) /\
  ω w ((((w.alloc (L π.zS (π.ix 220 203))).alloc (L π.zS (π.ix 220 203))).setCells w.heap.size 0 u1.toList).setCells (w.heap.size+1) 0 u2.toList):=by
 obtain⟨a1,a2,a3⟩:=fh (w:=w) (o1:=L π.zS (π.ix 220 203)) (o2:=L π.zS (π.ix 220 203)) (Below.refl _ _);have b1:=ao a1 (d:=u1) (by rw[h1];rfl);have b2:=(aj u1.toList 0 ((w.alloc (L π.zS (π.ix 220 203))).alloc (L π.zS (π.ix 220 203))) (w.heap.size+1) (show w.heap.size+1≠w.heap.size by omega)).trans a2;exact⟨a1,b2,(aj u2.toList 0 _ w.heap.size (by omega)).trans b1,ao b2 (d:=u2) (by rw[h2];rfl),aq (b:=w.heap.size+1) (by omega) u2.toList 0 w _ (aq (b:=w.heap.size) (Nat.le_refl _) u1.toList 0 w _ a3)⟩
theorem nh(p q:Int)(k:Nat)(tl:TypeId)(ul:Value)(tr:TypeId)(ur:Value)(C:Cx)(π:ar δ)(T:eQ)(F:Fd)(b:Bool)(w:Wd)(e:Fin 8->Sp.Iv)(es:List bV)(s1 s2:ST)(h:aK C π T F w)
  (hs:vh C π T F b k (σ tl ul) (σ tr ur) (Y e) es s1 s2) (hr:cV b (told π b F es) [.site q s2.isSome]) :
  Calls prog (π.ix 159 154) #[J (π.wk C b),J #[I O p,I O q,I O (k:Nat),σ tl ul,σ tr ur],J (π.aI (Y e))] w (fE C π T F b w (es ++ [.site q s2.isSome]) s1):=by
 cases δ
 all_goals
  try dsimp only [ar.ix,ar.kd]at *
  obtain⟨k0,k1,k2,k3,kb⟩:=bB (w:=w) (o1:=L (π.wk C b) (π.ix 217 200)) (o2:=L #[I O p,I O q,I O (k:Nat),σ tl ul,σ tr ur] 287) (o3:=L (π.aI (Y e)) (π.ix 220 203)) (o4:=L π.zS (π.ix 220 203)) (Below.refl _ _);have HW:=hs _ (h.call kb);have HSi:Hid (∀W,aK C π T (told π b F es) W->Calls _ _ _ W _):=fun W hW=>fR C π T (told π b F es) b W hW q s2.isSome hr
  have ef:=π.cy C b;have ee:=π.aD (Y e);have si:=π.aD s1;have Kd:=π.aV s1;have xQ:=π.aD s2;have KJ:=π.aV s2;have z2:(π.aI s2)[0]?=Y (U s2.isSome):=by rw[Array.getElem?_eq_getElem (by omega),π.im s2]
  unfold fZ at HW;generalize π.wk C b=wa at *;generalize π.aI (Y e)=xa at *;generalize s2.isSome=rb at *;generalize Ky:π.aI s1=u1 at *;generalize π.aI s2=u2 at *;have HU1:=hid Ky;have K0:=hid k0;have K1:=hid k1;have K2:=hid k2;have K3:=hid k3;have c2:=cell_of k1 2 (v:=I O (k:Nat)) rfl;have c3:=cell_of k1 3 (v:=σ tl ul) rfl;have c4:=cell_of k1 4 (v:=σ tr ur) rfl;have HB:=hid kb;have HA:=hid h;have l1:w.heap.size<=w.heap.size+1:=by omega
  have l3:w.heap.size<=w.heap.size+1+1+1:=by omega
  clear h hs k0 k1 k2 k3 kb Ky hr;try dsimp only [ar.ix,ar.kd]
  first | go_enter func159,ntmps159 | go_enter func154,ntmps154
  go_wp2_with (first
   | (refine cj (π:=π) rfl _ rfl rfl K0.out ef ?_)
   | (refine bu (π:=π) rfl _ rfl rfl K2.out ee ?_))
  refine HW.mono ?_;rintro r w1⟨rfl,a1,b1⟩;have dC:w.heap.size<=w1.heap.size:=Nat.le_trans HB.size b1.below.size;obtain⟨t1,t2,t3,t4,tb⟩:=rI (π:=π) w1 u1 u2 si xQ;have Gh:=hid t1;have BS:=hid t2;have HT3:=hid t3;have Wj:=(tb.block _ (ad (b1.aU HA.out (Nat.le_refl _) K0.out))).trans (b1.aU HA.out (Nat.le_refl _) K0.out);have uH:=(tb.block _ (ad (b1.aU HA.out l1 K1.out))).trans (b1.aU HA.out l1 K1.out);have uR:=(tb.block _ (ad (b1.aU HA.out l3 K3.out))).trans (b1.aU HA.out l3 K3.out);have HO4:=hid Wj;have HZ4:=hid uR;have g1:=cell_of uH 1 (v:=I O q) rfl;have g0:=cell_of t4 0 z2;have Wa:Hid (aK C π T (told π b F es) _):=HA.upon a1 (tb.mono dC);have TC:Hid (au C w _):=au.upon HA.out ((au.aB HB.out HA.le).trans b1) (tb.mono dC);clear t1 t2 t3 t4 tb a1 b1 HW Wj uH uR;go_wp2_with (first
   | (refine bT (π:=π) rfl _ _ rfl rfl (c:=π.zS) (d:=u1) rfl (by exact Gh.out) rfl si Kd ?_)
   | (refine bT (π:=π) rfl _ _ rfl rfl (c:=π.zS) (d:=u2) rfl (by exact BS.out) rfl xQ KJ ?_)
   | (refine cj (π:=π) rfl _ rfl rfl (c:=wa) (by exact HO4.out) ef ?_))
  generalize ((((w1.alloc (L π.zS (π.ix 220 203))).alloc (L π.zS (π.ix 220 203))).setCells w1.heap.size 0 u1.toList).setCells (w1.heap.size+1) 0 u2.toList)=w4 at *;refine(HSi.out _ Wa.out).mono ?_;rintro r w5⟨rfl,a5,b5⟩;have Od:=b5.aU HA.out dC HT3.out;have BR:=b5.aU HA.out l3 HZ4.out;have HX5:=hid Od;have HZ5:=hid BR;have iz:Hid (_=_):=ao BR (d:=u1) (by rw[si];rfl);have fF:Hid (Below w.heap.size w5 _):=aq (b:=w.heap.size+1+1+1) l3 u1.toList 0 w5 _ (Below.refl _ _);have QY:=hid a5;have Rw:Hid (au C w w5):=TC.trans b5;clear a5 b5 Od BR g0 g1;go_wp2_with (first
   | (refine bu (π:=π) rfl _ rfl rfl HX5.out si ?_)
   | (refine bT (π:=π) rfl _ _ rfl rfl rfl HZ5.out rfl si Kd ?_))
  refine bodyPost_ret (aM rfl _ _ rfl iz.out si) rfl ⟨by rw[HU1.out],by rw[aF];exact HA.upon QY.out fF.out,au.upon HA.out Rw.out fF.out⟩
end W
end
section
namespace W
variable {δ : Bool}{π : ar δ}
section
variable{wa u1 u2 ic:Array Value}
def Mr(C:Cx)(π:ar δ)(T:eQ)(F:Fd)(b:Bool)(w:Wd)(v:Value)(s:ST)(es:List bV)(u:ST):Prop :=
 ∀W,au C w W->aK C π T F W->Calls prog (π.ix 82 78) #[J (π.wk C b),v,J (π.aI s)] W (fE C π T F b W es u)
structure tS(π:ar δ)(wa u1 u2:Array Value)(ic:Array Value)(k n:Nat)(W:Wd):Prop where
 o:W.heap[k]?=Y (L wa (π.ix 217 200))
 c:W.heap[k+1]?=Y (L ic 290)
 x:W.heap[n]?=Y (L u1 (π.ix 220 203))
 y:W.heap[n+1]?=Y (L u2 (π.ix 220 203))
 z:∃d,d.size=17/\W.heap[k+1+1+1]?=Y (L d (π.ix 220 203))
theorem tS.bF{n:Nat}{C:Cx}{π:ar δ}{T:eQ}{F:Fd}{w W W':Wd}(h:tS π wa u1 u2 ic w.heap.size n W)(h0:aK C π T F w)(hn:w.heap.size<=n)(b:au C W W'):tS π wa u1 u2 ic w.heap.size n W':=by obtain⟨d,hd,hz⟩:=h.z;exact⟨b.aU h0 (Nat.le_refl _) h.o,b.aU h0 (by omega) h.c,b.aU h0 hn h.x,b.aU h0 (by omega) h.y,⟨d,hd,b.aU h0 (by omega) hz⟩⟩
theorem tS.call{k n:Nat}{W W':Wd}(h:tS π wa u1 u2 ic k n W)(b:ω W W'):tS π wa u1 u2 ic k n W':=by obtain⟨d,hd,hz⟩:=h.z;exact⟨(b.block _ (ad h.o)).trans h.o,(b.block _ (ad h.c)).trans h.c,(b.block _ (ad h.x)).trans h.x,(b.block _ (ad h.y)).trans h.y,⟨d,hd,(b.block _ (ad hz)).trans hz⟩⟩
theorem jK(p:Int)(k:Nat)(tl:TypeId)(ul:Value)(tr:TypeId)(ur:Value)(av:Option Addr)(nv cv:Nat)(ae:Option Addr)(ne ce:Nat)(hb:Bool)(C:Cx)(π:ar δ)(T:eQ)(F:Fd)(b:Bool)(w:Wd)(e:Fin 8->Sp.Iv)(es Tq dp:List bV)(s1 s2 v1 v2 u:ST)(h:aK C π T F w)
  (hs:vh C π T F b k (σ tl ul) (σ tr ur) (Y e) es s1 s2) (h1:Mr C π T (told π b F es) b w (Z av nv cv) s1 Tq v1) (h2:Mr C π T (told π b (told π b F es) Tq) b w (Z ae ne ce) s2 dp v2) (Yi:Sp.Wf (Kr π) v1) (w2f:Sp.Wf (Kr π) v2) (hu:Sp.jn (Dm π) v1 v2=u) :
  Calls prog (π.ix 160 155) #[J (π.wk C b),J #[I O p,I O (k:Nat),σ tl ul,σ tr ur,Z av nv cv,Z ae ne ce,U hb],J (π.aI (Y e))] w (fE C π T F b w (es ++ Tq ++ dp) u):=by
 cases δ
 all_goals
  try dsimp only [ar.ix,ar.kd]at *
  obtain⟨k0,k1,k2,k3,kb⟩:=bB (w:=w) (o1:=L (π.wk C b) (π.ix 217 200)) (o2:=L #[I O p,I O (k:Nat),σ tl ul,σ tr ur,Z av nv cv,Z ae ne ce,U hb] 290) (o3:=L (π.aI (Y e)) (π.ix 220 203)) (o4:=L π.zS (π.ix 220 203)) (Below.refl _ _);have HW:=hs _ (h.call kb);have ef:=π.cy C b;have ee:=π.aD (Y e);have si:=π.aD s1;have Kd:=π.aV s1;have xQ:=π.aD s2;have KJ:=π.aV s2;have lD:=π.aD u;have BY:=π.aV u;have H1:Hid (∀W,au C w W->aK C π T (told π b F es) W->Calls _ _ _ W _):=h1;have H2:Hid (∀W,au C w W->aK C π T (told π b (told π b F es) Tq) W->Calls _ _ _ W _):=h2;have HJ:Hid (∀W,fL C.base π C.dv W->Calls prog (π.ix 116 113) #[J (π.wk C b),J (π.aI v1),J (π.aI v2)] W fun e w'=>e=υ (J (π.aI u))/\ω W w'):=fun W hd=>o0 (B:=C.base) (π:=π) C.dv C.bY C.al C.narrow C.ai C.th C.m _ v1 v2 u W hd hu Yi w2f
  unfold fZ at HW;unfold fE at H1 H2;generalize π.wk C b=wa at *;generalize π.aI (Y e)=xa at *;generalize π.aI s1=q1 at *;generalize π.aI s2=q2 at *;generalize π.aI v1=r1 at *;generalize π.aI v2=r2 at *;generalize Ic:π.aI u=uu at *;have Kn:=hid Ic;have K0:=hid k0;have K1:=hid k1;have K2:=hid k2;have K3:=hid k3;have c2:=cell_of k1 1 (v:=I O (k:Nat)) rfl;have c3:=cell_of k1 2 (v:=σ tl ul) rfl;have c4:=cell_of k1 3 (v:=σ tr ur) rfl;have HB:=hid kb;have HA:=hid h;have l1:w.heap.size<=w.heap.size+1:=by omega
  have l3:w.heap.size<=w.heap.size+1+1+1:=by omega
  clear h hs k0 k1 k2 k3 kb Ic h1 h2 hu Yi w2f;try dsimp only [ar.ix,ar.kd]
  first | go_enter func160,ntmps160 | go_enter func155,ntmps155
  go_wp2_with (first
   | (refine cj (π:=π) rfl _ rfl rfl K0.out ef ?_)
   | (refine bu (π:=π) rfl _ rfl rfl K2.out ee ?_))
  refine HW.mono ?_;rintro r w1⟨rfl,a1,b1⟩;have dC:w.heap.size<=w1.heap.size:=Nat.le_trans HB.size b1.below.size;have jA:w.heap.size+1+1+1<w1.heap.size:=Nat.lt_of_lt_of_le (ad K3.out) b1.below.size;obtain⟨t1,t2,t3,t4,tb⟩:=rI (π:=π) w1 q1 q2 si xQ;have Gh:=hid t1;have BS:=hid t2;have Wj:=(tb.block _ (ad (b1.aU HA.out (Nat.le_refl _) K0.out))).trans (b1.aU HA.out (Nat.le_refl _) K0.out);have uH:=(tb.block _ (ad (b1.aU HA.out l1 K1.out))).trans (b1.aU HA.out l1 K1.out);have uR:=(tb.block _ (ad (b1.aU HA.out l3 K3.out))).trans (b1.aU HA.out l3 K3.out);have H0:Hid (tS π wa q1 q2 #[I O p,I O (k:Nat),σ tl ul,σ tr ur,Z av nv cv,Z ae ne ce,U hb] w.heap.size w1.heap.size ((((w1.alloc (L π.zS (π.ix 220 203))).alloc (L π.zS (π.ix 220 203))).setCells w1.heap.size 0 q1.toList).setCells (w1.heap.size+1) 0 q2.toList).drew):=⟨Wj,uH,t3,t4,⟨_,rfl,uR⟩⟩;have Wa:Hid (aK C π T (told π b F es) ((((w1.alloc (L π.zS (π.ix 220 203))).alloc (L π.zS (π.ix 220 203))).setCells w1.heap.size 0 q1.toList).setCells (w1.heap.size+1) 0 q2.toList).drew):=HA.upon a1 (tb.mono dC).drew;have TC:Hid (au C w ((((w1.alloc (L π.zS (π.ix 220 203))).alloc (L π.zS (π.ix 220 203))).setCells w1.heap.size 0 q1.toList).setCells (w1.heap.size+1) 0 q2.toList).drew):=au.upon HA.out ((au.aB HB.out HA.le).trans b1) (tb.mono dC).drew;clear t1 t2 t3 t4 tb a1 b1 HW Wj uH uR;go_wp2_with (first
   | (refine bT (π:=π) rfl _ _ rfl rfl (c:=π.zS) (d:=q1) rfl (by exact Gh.out) rfl si Kd ?_)
   | (refine bT (π:=π) rfl _ _ rfl rfl (c:=π.zS) (d:=q2) rfl (by exact BS.out) rfl xQ KJ ?_))
  generalize ((((w1.alloc (L π.zS (π.ix 220 203))).alloc (L π.zS (π.ix 220 203))).setCells w1.heap.size 0 q1.toList).setCells (w1.heap.size+1) 0 q2.toList)=w4 at *;refine wp_region_held_drew (S:=fun w':Wd=>tS π wa q1 q2 #[I O p,I O (k:Nat),σ tl ul,σ tr ur,Z av nv cv,Z ae ne ce,U hb] w.heap.size w1.heap.size w') (by kernel_rfl) H0.out (fun aa=>?_);refine mB 0 rfl (π.qq rfl _ rfl _ _ rfl (wa) (fun w' h=>aP h.o) ef) aa ?_;refine mB 1 rfl (π.qq rfl _ rfl _ _ rfl (wa) (fun w' h=>aP h.o) ef) aa ?_;refine mB 6 rfl (π.qq rfl _ rfl _ _ rfl (wa) (fun w' h=>aP h.o) ef) aa ?_;refine mB 4 rfl (π.mv rfl _ rfl _ _ rfl (q1) (fun w' h=>aP h.x) si) aa ?_;refine mB 9 rfl (π.mv rfl _ rfl _ _ rfl (q2) (fun w' h=>aP h.y) xQ) aa ?_;refine tq 2 (ρ (Y ⟨w.heap.size+1,4,M⟩)) aa ?_;refine tk 3 (Z av nv cv) rfl (fun w' h=>by have d:=cell_of h.c 4 (v:=Z av nv cv) rfl;go_simp) aa ?_;refine tq 7 (ρ (Y ⟨w.heap.size+1,5,M⟩)) aa ?_;refine tk 8 (Z ae ne ce) rfl (fun w' h=>by have d:=cell_of h.c 5 (v:=Z ae ne ce) rfl;go_simp) aa ?_;refine bD 5 fun K hK=>?_
  simp only[bp,fB];go_simp;refine(H1.out _ TC.out Wa.out).mono ?_;rintro r w5⟨rfl,a5,b5⟩;go_wp2_with fail;have QY:=hid a5;have Rw:Hid (au C w w5):=TC.trans b5;have zY:=aa.bF HA.out dC b5;refine hK.out _ _ zY (fun aa=>?_);clear hK K zY a5 b5;refine bD 10 fun K hK=>?_
  simp only[bp];go_simp;refine(H2.out _ Rw.out QY.out).mono ?_;rintro r w6⟨rfl,a6,b6⟩;go_wp2_with fail;have HA6:=hid a6;have HK6:Hid (au C w w6):=Rw.trans b6;have jE:=aa.bF HA.out dC b6;refine hK.out _ _ jE (fun aa=>?_);clear hK K jE a6 b6;refine bD 11 fun K hK=>?_
  simp only[bp];go_simp;refine(HJ.out _ HA6.does).mono ?_;rintro r w7⟨rfl,b7⟩;go_wp2_with fail;have ZF:Hid (aK C π T (told π b (told π b (told π b F es) Tq) dp) w7):=HA6.call b7;have HK7:Hid (au C w w7):=HK6.more b7 HA.le;have Iu:=aa.call b7;refine hK.out _ _ Iu (fun aa=>?_);clear hK K Iu b7;obtain⟨d,hd,hz⟩:=aa.z;have iz:Hid (_=_):=ao hz (d:=uu) (by omega);have fF:Hid (Below w.heap.size w7 _):=aq (b:=w.heap.size+1+1+1) l3 uu.toList 0 w7 _ (Below.refl _ _);refine bD 12 fun K hK=>?_
  simp only[bp];rw[if_pos (by rfl)];refine lk (π:=π) _ _ rfl rfl rfl (by rw[<-hd];exact bM hz) lD BY ?_;refine hK.out _ _ ⟨(aj _ _ _ _ (by omega)).trans aa.o,(aj _ _ _ _ (by omega)).trans aa.c,(aj _ _ _ _ (by omega)).trans aa.x,(aj _ _ _ _ (by omega)).trans aa.y,⟨uu,lD,iz.out⟩⟩ (fun _=>?_);clear hK K aa hz;refine wpAnyH_done (by kernel_rfl) ?_ _;go_wp2_with fail;refine bodyPost_ret (aM rfl _ _ rfl iz.out lD) rfl ⟨by rw[Kn.out],by rw[aF,aF];exact HA.upon ZF.out fF.out,au.upon HA.out HK7.out fF.out⟩
end
end W
end
section
namespace W
variable {δ : Bool}{π : ar δ}
section
variable{wq ic wa sa:Array Value}
variable{kq ko kw ks p:Nat}
variable{W W' w0:Wd}
structure kJ(π:ar δ)(wq ic wa sa:Array Value)(kq ko kw ks:Nat)(W:Wd):Prop where
 q:W.heap[kq]?=Y (L wq (π.ix 217 200))
 c:W.heap[ko]?=Y (L ic 293)
 o:W.heap[kw]?=Y (L wa (π.ix 217 200))
 s:W.heap[ks]?=Y (L sa (π.ix 220 203))
theorem kJ.call(h:kJ π wq ic wa sa kq ko kw ks W)(b:ω W W'):kJ π wq ic wa sa kq ko kw ks W' :=
 ⟨(b.block _ (ad h.q)).trans h.q,(b.block _ (ad h.c)).trans h.c,(b.block _ (ad h.o)).trans h.o,(b.block _ (ad h.s)).trans h.s⟩
structure QO(n kq ko kw ks:Nat):Prop where
 q:n<=kq
 c:n<=ko
 o:n<=kw
 s:n<=ks
theorem kJ.bF{C:Cx}{π:ar δ}{T:eQ}{F:Fd}(h:kJ π wq ic wa sa kq ko kw ks W)(h0:aK C π T F w0)(hn:QO w0.heap.size kq ko kw ks)(b:au C W W'):kJ π wq ic wa sa kq ko kw ks W' :=
 ⟨b.aU h0 hn.q h.q,b.aU h0 hn.c h.c,b.aU h0 hn.o h.o,b.aU h0 hn.s h.s⟩
theorem kJ.put(h:kJ π wq ic wa sa kq ko kw ks W)(hp:kq<p/\ko<p/\kw<p/\ks<p)(l:List Value):kJ π wq ic wa sa kq ko kw ks (W.setCells p 0 l) :=
 ⟨(aj _ _ _ _ (by omega)).trans h.q,(aj _ _ _ _ (by omega)).trans h.c,(aj _ _ _ _ (by omega)).trans h.o,(aj _ _ _ _ (by omega)).trans h.s⟩
abbrev Br(p:Int)(k:Nat)(tl:TypeId)(ul:Value)(tr:TypeId)(ur:Value)(av:Option Addr)(nv cv:Nat):Array Value:=#[I O p,I O (k:Nat),σ tl ul,σ tr ur,Z av nv cv]
theorem EG(p:Int)(k:Nat)(tl:TypeId)(ul:Value)(tr:TypeId)(ur:Value)(av:Option Addr)(nv cv:Nat)(C:Cx)(π:ar δ)(T:eQ)(F F0:Fd)(b:Bool)(w0 w:Wd)(kq ko kw ks:Nat)(s i:ST)(h0:aK C π T F0 w0)(hn:QO w0.heap.size kq ko kw ks)(h:aK C π T F w)(hc:kJ π (π.wk C false) (Br p k tl ul tr ur av nv cv) (π.wk C b) (π.aI s) kq ko kw ks w)(Tq dp:List bV)(s1 s2 v u:ST)
  (hs:vh C π T F false k (σ tl ul) (σ tr ur) i Tq s1 s2) (h1:Mr C π T F false w (Z av nv cv) s1 dp v) (wsf:Sp.Wf (Kr π) s) (wvf:Sp.Wf (Kr π) v) (hu:Sp.jn (Dm π) s v=u) :
  Calls prog (π.ix 245 242) #[J (π.aI i),ρ (Y ⟨kq,0,M⟩),ρ (Y ⟨ko,0,M⟩),ρ (Y ⟨kw,0,M⟩),ρ (Y ⟨ks,0,M⟩)] w fun e w'=>e=υ (J (π.aI u))/\aK C π T F w'/\au C w w':=by
 cases δ
 all_goals
  try dsimp only [ar.ix,ar.kd]at *
  obtain⟨k0,k1,kb⟩:=fh (w:=w) (o1:=L (π.aI i) (π.ix 220 203)) (o2:=L π.zS (π.ix 220 203)) (Below.refl _ _);have HW:=hs _ (h.call kb);have ef:=π.cy C b;have WD:=π.cy C false;have ee:=π.aD i;have si:=π.aD s1;have Kd:=π.aV s1;have xQ:=π.aD s2;have KJ:=π.aV s2;have UC:=π.aD s;have lD:=π.aD u;have BY:=π.aV u;have H1:Hid (∀W,au C w W->aK C π T F W->Calls _ _ _ W _):=h1;have HJ:Hid (∀W,fL C.base π C.dv W->Calls prog (π.ix 116 113) #[J (π.wk C b),J (π.aI s),J (π.aI v)] W fun e w'=>e=υ (J (π.aI u))/\ω W w'):=fun W hd=>o0 (B:=C.base) (π:=π) C.dv C.bY C.al C.narrow C.ai C.th C.m _ s v u W hd hu wsf wvf
  have uH:=hc.call kb;unfold fZ at HW;unfold fE at H1;generalize π.wk C false=wq at *;generalize π.wk C b=wa at *;generalize π.aI i=xa at *;generalize π.aI s=sa at *;generalize π.aI s1=q1 at *;generalize π.aI s2=q2 at *;generalize π.aI v=r1 at *;generalize π.aI u=uu at *;have K0:=hid k0;have K1:=hid k1;have HQ:=hid uH.q;have c1:=cell_of uH.c 1 (v:=I O (k:Nat)) rfl;have c2:=cell_of uH.c 2 (v:=σ tl ul) rfl;have c3:=cell_of uH.c 3 (v:=σ tr ur) rfl;have HC4:=hid uH;have HB:=hid kb;have HA:=hid h;have H00:=hid h0;have HN:=hid hn;have cR:kq<w.heap.size/\ko<w.heap.size/\kw<w.heap.size/\ks<w.heap.size:=⟨ad hc.q,ad hc.c,ad hc.o,ad hc.s⟩;have NH:=hid cR;clear h hs k0 k1 kb h1 hu wsf wvf hc uH h0 hn cR;try dsimp only [ar.ix,ar.kd]
  first | go_enter func245,ntmps245 | go_enter func242,ntmps242
  go_wp2_with (first
   | (refine cj (π:=π) rfl _ rfl rfl HQ.out WD ?_)
   | (refine bu (π:=π) rfl _ rfl rfl K0.out ee ?_))
  refine HW.mono ?_;rintro r w1⟨rfl,a1,b1⟩;have dC:w.heap.size<=w1.heap.size:=Nat.le_trans HB.size b1.below.size;have kM:w.heap.size+1<w1.heap.size:=Nat.lt_of_lt_of_le (ad K1.out) b1.below.size;obtain⟨t1,t2,t3,t4,tb⟩:=rI (π:=π) w1 q1 q2 si xQ;have Gh:=hid t1;have BS:=hid t2;have uR:=(tb.block _ (ad (b1.aU HA.out (by omega) K1.out))).trans (b1.aU HA.out (by omega) K1.out);have H0:Hid ((kJ π wq (Br p k tl ul tr ur av nv cv) wa sa kq ko kw ks ((((w1.alloc (L π.zS (π.ix 220 203))).alloc (L π.zS (π.ix 220 203))).setCells w1.heap.size 0 q1.toList).setCells (w1.heap.size+1) 0 q2.toList).drew/\((((w1.alloc (L π.zS (π.ix 220 203))).alloc (L π.zS (π.ix 220 203))).setCells w1.heap.size 0 q1.toList).setCells (w1.heap.size+1) 0 q2.toList).drew.heap[w1.heap.size]?=Y (L q1 (π.ix 220 203)))/\∃d:Array Value,d.size=17/\((((w1.alloc (L π.zS (π.ix 220 203))).alloc (L π.zS (π.ix 220 203))).setCells w1.heap.size 0 q1.toList).setCells (w1.heap.size+1) 0 q2.toList).drew.heap[w.heap.size+1]?=Y (L d (π.ix 220 203))) :=
   ⟨⟨(HC4.bF H00.out HN.out b1).call tb.drew,t3⟩,⟨_,rfl,uR⟩⟩
  have Wa:Hid (aK C π T F ((((w1.alloc (L π.zS (π.ix 220 203))).alloc (L π.zS (π.ix 220 203))).setCells w1.heap.size 0 q1.toList).setCells (w1.heap.size+1) 0 q2.toList).drew):=HA.upon a1 (tb.mono dC).drew;have TC:Hid (au C w ((((w1.alloc (L π.zS (π.ix 220 203))).alloc (L π.zS (π.ix 220 203))).setCells w1.heap.size 0 q1.toList).setCells (w1.heap.size+1) 0 q2.toList).drew):=au.upon HA.out ((au.aB HB.out HA.le).trans b1) (tb.mono dC).drew;clear t1 t2 t3 t4 tb a1 b1 HW uR HC4 c1 c2 c3;go_wp2_with (first
   | (refine bT (π:=π) rfl _ _ rfl rfl (c:=π.zS) (d:=q1) rfl (by exact Gh.out) rfl si Kd ?_)
   | (refine bT (π:=π) rfl _ _ rfl rfl (c:=π.zS) (d:=q2) rfl (by exact BS.out) rfl xQ KJ ?_))
  generalize ((((w1.alloc (L π.zS (π.ix 220 203))).alloc (L π.zS (π.ix 220 203))).setCells w1.heap.size 0 q1.toList).setCells (w1.heap.size+1) 0 q2.toList)=w4 at *;refine wp_region_held_drew (S:=fun w':Wd=>(kJ π wq (Br p k tl ul tr ur av nv cv) wa sa kq ko kw ks w'/\w'.heap[w1.heap.size]?=Y (L q1 (π.ix 220 203)))/\∃d:Array Value,d.size=17/\w'.heap[w.heap.size+1]?=Y (L d (π.ix 220 203))) (by kernel_rfl) H0.out (fun aa=>?_);refine mB 0 rfl (π.qq rfl _ rfl _ _ rfl (wa) (fun w' h=>aP h.1.1.o) ef) aa ?_;refine mB 2 rfl (π.qq rfl _ rfl _ _ rfl (wq) (fun w' h=>aP h.1.1.q) WD) aa ?_;refine mB 1 rfl (π.mv rfl _ rfl _ _ rfl (sa) (fun w' h=>aP h.1.1.s) UC) aa ?_;refine mB 5 rfl (π.mv rfl _ rfl _ _ rfl (q1) (fun w' h=>aP h.1.2) si) aa ?_;refine tq 3 (ρ (Y ⟨ko,4,M⟩)) aa ?_;refine tk 4 (Z av nv cv) rfl (fun w' h=>by have d:=cell_of h.1.1.c 4 (v:=Z av nv cv) rfl;go_simp) aa ?_;refine bD 6 fun K hK=>?_
  simp only[bp,fB];go_simp;refine(H1.out _ TC.out Wa.out).mono ?_;rintro r w5⟨rfl,a5,b5⟩;go_wp2_with fail;have QY:=hid a5;have Rw:Hid (au C w w5):=TC.trans b5;obtain⟨d5,hd5,BR⟩:=aa.2;have zY:=aa.1.1.bF H00.out HN.out b5;have hq5:=b5.aU HA.out dC aa.1.2;have BR:=b5.aU HA.out (by omega) BR;refine hK.out _ _ ⟨⟨zY,hq5⟩,d5,hd5,BR⟩ (fun aa=>?_);clear hK K zY a5 b5 hq5 BR;refine bD 7 fun K hK=>?_
  simp only[bp];go_simp;refine(HJ.out _ QY.does).mono ?_;rintro r w7⟨rfl,b7⟩;go_wp2_with fail;have ZF:Hid (aK C π T F w7):=QY.call b7;have HK7:Hid (au C w w7):=Rw.more b7 HA.le;obtain⟨d7,Yw,Ie⟩:=aa.2;have Iu:=aa.1.1.call b7;have hq7:=(b7.block _ (ad aa.1.2)).trans aa.1.2;have Ie:=(b7.block _ (ad Ie)).trans Ie;refine hK.out _ _ ⟨⟨Iu,hq7⟩,d7,Yw,Ie⟩ (fun _=>?_);clear hK K b7;have iz:Hid (_=_):=ao Ie (d:=uu) (by omega);have fF:Hid (Below w.heap.size w7 _):=aq (b:=w.heap.size+1) (by omega) uu.toList 0 w7 _ (Below.refl _ _);have cR:=NH.out;refine bD 8 fun K hK=>?_
  simp only[bp];rw[if_pos (by rfl)];refine lk (π:=π) _ _ rfl rfl rfl (by rw[<-Yw];exact bM Ie) lD BY ?_;refine hK.out _ _ ⟨⟨Iu.put (by omega) _,(aj _ _ _ _ (by omega)).trans hq7⟩,⟨uu,lD,iz.out⟩⟩ (fun _=>?_);clear hK K aa;refine wpAnyH_done (by kernel_rfl) ?_ _;go_wp2_with fail;refine bodyPost_ret (aM rfl _ _ rfl iz.out lD) rfl ⟨rfl,HA.upon ZF.out fF.out,au.upon HA.out HK7.out fF.out⟩
end
end W
end
end Go.Proofs.YtiopfihjmkfdmaaGreatDoor
