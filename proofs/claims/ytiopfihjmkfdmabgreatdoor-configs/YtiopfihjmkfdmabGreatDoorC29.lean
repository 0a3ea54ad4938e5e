import Derived.Test.YtiopfihjmkfdmabGreatDoorC28
namespace Go.Proofs.YtiopfihjmkfdmabGreatDoor
open Option renaming some->Y,none->M
open Go.Value renaming agg->J,int->I,bool->U,iface->σ,tuple->φ,pointer->ρ
open Go.Obj renaming cells->L
open Go.IntKind renaming i64->O
open Go.Ending renaming returned->υ
open Go.Proofs.Tryz Sp
open Go.RowKit
set_option maxRecDepth 100000
set_option maxHeartbeats 16000000
section
namespace W
variable {E: Bool}{G: aw E}
section
variable{wa:Array Value}
variable{c0 c1 c2 c3:Value}
def oh(C:Cx)(G:aw E)(T:fS)(F:Fd)(b:Bool)(vl vr:Value)(e:Fin 8->Sp.Iv)(es:List cE)(o:Option (Sp.Iv×Sp.Iv)):Prop:=
 ∀W,aP C G T F W->Calls prog (G.ix 200 192) #[J (G.wk C b),vl,vr,J (G.aQ (Y e))] W (u9 C G T F b W es o)
structure rp(G:aw E)(wa:Array Value)(c0 c1 c2 c3:Value)(x y:Sp.Iv)(k n:Nat)(W:Wd):Prop where
 o:W.heap[k]?=Y (L wa (G.ix 171 154))
 c:W.heap[k+1]?=Y (L #[c0,c1,c2,c3] 355)
 z:W.heap[k+1+1+1]?=Y (L #[I G.kd 0,I G.kd 0] (G.ix 90 85))
 x:W.heap[n]?=Y (L #[I G.kd x.a,I G.kd x.b] (G.ix 90 85))
 y:W.heap[n+1]?=Y (L #[I G.kd y.a,I G.kd y.b] (G.ix 90 85))
theorem rp.call{x y:Sp.Iv}{k n:Nat}{W W':Wd}(h:rp G wa c0 c1 c2 c3 x y k n W)(b:ω W W'):rp G wa c0 c1 c2 c3 x y k n W':=
 ⟨(b.block _ (ah h.o)).trans h.o,(b.block _ (ah h.c)).trans h.c,(b.block _ (ah h.z)).trans h.z,(b.block _ (ah h.x)).trans h.x,(b.block _ (ah h.y)).trans h.y⟩
theorem rp.bH{x y:Sp.Iv}{n:Nat}{C:Cx}{G:aw E}{T:fS}{F:Fd}{w W W':Wd}(h:rp G wa c0 c1 c2 c3 x y w.heap.size n W)(h0:aP C G T F w)(b:aB C W W')(h1:w.heap.size<=w.heap.size+1)(h3:w.heap.size<=w.heap.size+1+1+1)(hn:w.heap.size<=n)(nO:w.heap.size<=n+1):rp G wa c0 c1 c2 c3 x y w.heap.size n W':=
 ⟨b.bf h0 È h.o,b.bf h0 h1 h.c,b.bf h0 h3 h.z,b.bf h0 hn h.x,b.bf h0 nO h.y⟩
theorem AS(k:Nat)(q:Int)(tl:TypeId)(ul:Value)(tr:TypeId)(ur:Value)(C:Cx)(G:aw E)(T:fS)(F:Fd)(b:Bool)(w:Wd)(e:Fin 8->Sp.Iv)(es:List cE)(h:aP C G T F w)
  (hs:oh C G T F b (σ tl ul) (σ tr ur) e es M):
  Calls prog (G.ix 199 191) #[J (G.wk C b),J #[I O (k:Nat),I O q,σ tl ul,σ tr ur],J (G.aQ (Y e))] w (iU C G T F b w es M):=by
 cases E
 all_goals
  try dsimp only[aw.ix,aw.kd]at*
  obtain⟨k0,k1,k2,k3,kb⟩:=cN (w:=w) (o1:=L (G.wk C b) (G.ix 171 154)) (o2:=L #[I O (k:Nat),I O q,σ tl ul,σ tr ur] 355) (o3:=L (G.aQ (Y e)) (G.ix 174 157)) (o4:=L #[I G.kd 0,I G.kd 0] (G.ix 90 85)) Å;have HW:=hs _ (h.call kb);have fH:=G.du C b;have hY:=G.aG (Y e);generalize G.wk C b=wa at*;generalize G.aQ (Y e)=xa at*;have K0:=hid k0;have K2:=hid k2;have K3:=hid k3;have c2:=cell_of k1 2 (v:=σ tl ul) rfl;have c3:=cell_of k1 3 (v:=σ tr ur) rfl;have HB:=hid kb;have HA:=hid h;have rh:w.heap.size<=w.heap.size+1+1+1:=À;clear h k0 k1 k2 k3 kb hs;try dsimp only[aw.ix,aw.kd]
  first|go_enter func199,ntmps199|go_enter func191,ntmps191
  go_wp2_with (first
   |(refine cR (G:=G) rfl _ rfl rfl K0.out fH ?_)
   |(refine bR (G:=G) rfl _ rfl rfl K2.out hY ?_))
  refine HW.mono ?_;rintro r w1⟨⟨i1,i2,i3,i4,rfl⟩,a1,b1⟩;obtain⟨_,_,n2⟩:=ft (w:=w1) (o1:=L #[I G.kd i1,I G.kd i2] (G.ix 90 85)) (o2:=L #[I G.kd i3,I G.kd i4] (G.ix 90 85)) Å;have ea:w.heap.size<=w1.heap.size:=Nat.le_trans HB.size b1.below.size;have kh:=(n2.block _ (ah (b1.bf HA.out rh K3.out))).trans (b1.bf HA.out rh K3.out);obtain⟨m0,m1,jo,jH,_⟩:=aI kh;have H2:Hid (_=_):=dG kh (I G.kd 0) (I G.kd 0);have nI:Hid (Below w.heap.size w1 _):=Below.two (n2.mono ea) rh (I G.kd 0) (I G.kd 0);have sD:=hid a1;have rG:Hid (aB C w w1):=(aB.aF HB.out HA.le).trans b1;clear a1 b1 HW kh n2;go_wp2_with fail;have Q0:=cell_of H2.out 0 (v:=I G.kd 0) rfl;have Q1:=cell_of H2.out 1 (v:=I G.kd 0) rfl;refine Ç (v:=φ #[J #[I G.kd 0,I G.kd 0],U false]) (by simp[results,results199,results191,go_sem,Q0,Q1]) rfl ?_;exact⟨rfl,HA.upon sD.out nI.out,aB.upon HA.out rG.out nI.out⟩
theorem yQ(k:Nat)(hk:k<5)(q:Int)(tl:TypeId)(ul:Value)(tr:TypeId)(ur:Value)(C:Cx)(G:aw E)(T:fS)(F:Fd)(b:Bool)(w:Wd)(e:Fin 8->Sp.Iv)(es:List cE)(x y:Sp.Iv)(hx:G.Wv x)(hy:G.Wv y)(h:aP C G T F w)
  (hs:oh C G T F b (σ tl ul) (σ tr ur) e es (Y (x,y))) (ev:List cE) (hev:(¬3<=k/\ev=es)∨(3<=k/\ev=es++[.site q (G.iR y)]/\dk b (told G b F es) [.site q (G.iR y)])):
  Calls prog (G.ix 199 191) #[J (G.wk C b),J #[I O (k:Nat),I O q,σ tl ul,σ tr ur],J (G.aQ (Y e))] w (iU C G T F b w ev (G.qj k x y)):=by
 cases E
 all_goals
  try dsimp only[aw.ix,aw.kd]at*
  obtain⟨k0,k1,k2,k3,kb⟩:=cN (w:=w) (o1:=L (G.wk C b) (G.ix 171 154)) (o2:=L #[I O (k:Nat),I O q,σ tl ul,σ tr ur] 355) (o3:=L (G.aQ (Y e)) (G.ix 174 157)) (o4:=L #[I G.kd 0,I G.kd 0] (G.ix 90 85)) Å;have HW:=hs _ (h.call kb);have kL:=G.mj C b;have fH:=G.du C b;have hY:=G.aG (Y e);have HSi:Hid (dk b (told G b F es) [.site q (G.iR y)]->∀W,aP C G T (told G b F es) W->Calls _ _ _ W _):=λhr W hW=>gG C G T (told G b F es) b W hW q (G.iR y) hr
  have HEV:=hid hev;clear hev;generalize G.wk C b=wa at*;generalize G.aQ (Y e)=xa at*;have K0:=hid k0;have K1:=hid k1;have K2:=hid k2;have K3:=hid k3;have c2:=cell_of k1 2 (v:=σ tl ul) rfl;have c3:=cell_of k1 3 (v:=σ tr ur) rfl;have HB:=hid kb;have HA:=hid h;have Xo:w.heap.size<=w.heap.size+1:=À;have rh:w.heap.size<=w.heap.size+1+1+1:=À;clear h k0 k1 k2 k3 kb hs;try dsimp only[aw.ix,aw.kd]
  first|go_enter func199,ntmps199|go_enter func191,ntmps191
  go_wp2_with (first
   |(refine cR (G:=G) rfl _ rfl rfl K0.out fH ?_)
   |(refine bR (G:=G) rfl _ rfl rfl K2.out hY ?_))
  refine HW.mono ?_;rintro r w1⟨rfl,a1,b1⟩;obtain⟨nx,ny,n2⟩:=ft (w:=w1) (o1:=L #[I G.kd x.a,I G.kd x.b] (G.ix 90 85)) (o2:=L #[I G.kd y.a,I G.kd y.b] (G.ix 90 85)) Å;have ea:w.heap.size<=w1.heap.size:=Nat.le_trans HB.size b1.below.size;have ff:=(n2.block _ (ah (b1.bf HA.out rh K3.out))).trans (b1.bf HA.out rh K3.out);have ho2:=(n2.block _ (ah (b1.bf HA.out È K0.out))).trans (b1.bf HA.out È K0.out);have DK:=(n2.block _ (ah (b1.bf HA.out Xo K1.out))).trans (b1.bf HA.out Xo K1.out);have mM:=hid ff;have Um:=hid ho2;have nI:=hid DK;have NX:=hid nx;have NY:=hid ny;have N2:Hid (Below w.heap.size w1 _):=n2.mono ea;have HA2:Hid (aP C G T (told G b F es) _):=HA.upon a1 N2.out;have HK2:Hid (aB C w _):=aB.upon HA.out ((aB.aF HB.out HA.le).trans b1) N2.out;have e0:=cell_of DK 0 (v:=I O (k:Nat)) rfl;clear a1 b1 HW ff ho2 DK n2 nx ny;go_wp2_with fail;refine(Pb k hk _).mono ?_;rintro r w'⟨rfl,rfl⟩;generalize (w1.alloc (L #[I G.kd x.a,I G.kd x.b] (G.ix 90 85))).alloc (L #[I G.kd y.a,I G.kd y.b] (G.ix 90 85))=w2 at*;obtain⟨bs,Ky⟩:∃bs,Hid (bs=decide (3<=k)):=⟨_,rfl⟩;rw[<-Ky.out];have sG:w.heap.size+1+1+1<w2.heap.size:=ah mM.out;go_upto_if 26 with fail
  go_cut [] from 26 to 34 (λwc=>Hid (rp G wa (I O (k:Nat)) (I O q) (σ tl ul) (σ tr ur) x y w.heap.size w1.heap.size wc/\aP C G T (told G b F ev) wc/\aB C w wc))
  case first=>
   rcases HEV.out with⟨qZ,he⟩|⟨qZ,he,W9⟩
   .obtain rfl:bs=false:=Ky.trans (decide_eq_false qZ)
    have HR:Hid (_/\_/\_):=And.intro (⟨Um.out,nI.out,mM.out,NX.out,NY.out⟩:rp G wa (I O (k:Nat)) (I O q) (σ tl ul) (σ tr ur) x y w.heap.size w1.heap.size w2) (And.intro (show aP C G T (told G b F ev) w2 by rw[he];exact HA2.out) HK2.out);clear he;go_wp2_with fail;go_meet;exact HR
   .obtain rfl:bs=true:=Ky.trans (decide_eq_true qZ)
    subst he;have hyk:w.heap.size<=w1.heap.size+1:=À;have hxk:w.heap.size<=w1.heap.size:=ea;have b0:Below w.heap.size w2 w2.drew:=(Å).drew;have HAd:Hid (aP C G T (told G b F es) w2.drew):=HA.upon HA2.out b0;have HKd:Hid (aB C w w2.drew):=aB.upon HA.out HK2.out b0;have H0:Hid (rp G wa (I O (k:Nat)) (I O q) (σ tl ul) (σ tr ur) x y w.heap.size w1.heap.size w2.drew):=⟨Um.out,nI.out,mM.out,NX.out,NY.out⟩;go_wp2_with fail;refine wp_region_held_drew (S:=λw':Wd=>rp G wa (I O (k:Nat)) (I O q) (σ tl ul) (σ tr ur) x y w.heap.size w1.heap.size w') Ã H0.out (λaa=>?_);refine nu 0 rfl (G.se rfl _ rfl _ _ rfl (wa) (λw' h=>aT h.o) fH) aa ?_;refine tq 1 (ρ (Y ⟨w.heap.size+1,1,M⟩)) aa ?_;refine tk 2 (I O q) rfl (λw' h=>by have d:=cell_of h.c 1 (v:=I O q) rfl;go_simp) aa ?_;refine tq 3 (ρ (Y ⟨w.heap.size,0,M⟩)) aa ?_;refine tk 4 (σ (G.ix 92 87) C.dv) rfl (λw' h=>by have d:=cell_of h.o 0 kL;go_simp) aa ?_;refine tk 5 (J #[I G.kd y.a,I G.kd y.b]) rfl (λw' h=>by(have d0:=cell_of h.y 0 (v:=I G.kd y.a) rfl);have d1:=cell_of h.y 1 (v:=I G.kd y.b) rfl;go_simp) aa ?_;refine bP 6 λK hK=>?_
    simp only[bG,gd];go_simp;refine(Rm HAd.does hy).mono ?_;rintro r w5⟨rfl,b5⟩;go_wp2_with fail;have Ub:Hid (aP C G T (told G b F es) w5):=HAd.call b5;have UH:Hid (aB C w w5):=HKd.more b5 HA.le;have BK:=aa.call b5;refine hK.out _ _ BK (λaa=>?_);clear hK K BK b5;refine bP 7 λK hK=>?_
    simp only[bG];go_simp;refine(HSi.out W9 _ Ub.out).mono ?_;rintro r w3⟨rfl,a3,b3⟩;go_wp2_with fail;have BM:=aa.bH HA.out b3 Xo rh hxk hyk;have HAn:=hid a3;have HKn:Hid (aB C w w3):=UH.trans b3;refine hK.out _ _ BM (λ_=>?_);clear hK K b3 a3;refine wpAnyH_done Ã ?_ _;have HR:Hid (_/\_/\_):=And.intro BM (And.intro (show aP C G T (told G b F (es++[.site q (G.iR y)])) w3 by rw[aH];exact HAn.out) HKn.out);clear BM HAn HKn;go_wp2_with fail;go_meet;exact HR
  case rest=>
   obtain⟨zU,vh,hq3⟩:=hcut.out;have d0:=cell_of zU.o 0 kL;have g0:=cell_of zU.c 0 (v:=I O (k:Nat)) rfl;obtain⟨x0,x1,_,_,_⟩:=aI zU.x;obtain⟨y0,y1,_,_,_⟩:=aI zU.y;have HD:=Ys vh.does hk hx hy;obtain⟨z1,z2,ok,ho⟩:=PE G (G.qj k x y);have HO:=hid ho;clear ho zU vh hq3;go_wp2_with fail;refine HD.mono ?_;rintro r w4⟨rfl,b4⟩;rw[HO.out];have h4:=(b4.block _ (ah hcut.1.z)).trans hcut.1.z;obtain⟨p0,p1,pf0,pf1,_⟩:=aI h4;have H5:Hid (_=_):=dG h4 (I G.kd z1) (I G.kd z2);have QW:Hid (Below w.heap.size wc _):=Below.two (b4.mono hcut.2.2.below.size) rh (I G.kd z1) (I G.kd z2);clear b4 h4 HD;go_wp2_with fail;have Q0:=cell_of H5.out 0 (v:=I G.kd z1) rfl;have Q1:=cell_of H5.out 1 (v:=I G.kd z2) rfl;refine Ç (v:=φ #[J #[I G.kd z1,I G.kd z2],U ok]) (by simp[results,results199,results191,go_sem,Q0,Q1]) rfl ?_;exact⟨by rw[HO.out],HA.upon hcut.2.1 QW.out,aB.upon HA.out hcut.2.2 QW.out⟩
end
end W
end
section
namespace W
variable {E: Bool}{G: aw E}
theorem p9{fn:Func}{a b:Tmp}(Ja:fn.results=#[.cell a (G.ix 174 157),.cell b (G.ix 174 157)])(tmps:Array Value)(w:Wd){i j:Nat}{c d:Array Value}(ht:tmps.getD a undef=ρ (Y ⟨i,0,M⟩))(hu:tmps.getD b undef=ρ (Y ⟨j,0,M⟩))(h:Bk w i c (G.ix 174 157))(hc:c.size=17)(k:Bk w j d (G.ix 174 157))(hd:d.size=17) :
  (results fn tmps).run prog w=.ok (φ #[J c,J d]) w:=by
 have hl:=yy h hc;have Dz:=yy k hd;have TF:tmps[a]?.getD undef=ρ (Y ⟨i,0,M⟩):=by rw[<-ht];simp
 have Dl:tmps[b]?.getD undef=ρ (Y ⟨j,0,M⟩):=by rw[<-hu];simp
 unfold results;rw[Ja];simp[asAddr,TF,Dl,hl,Dz]
def gE(C:Cx)(G:aw E)(T:fS)(F:Fd)(b:Bool)(w:Wd)(es:List cE)(s1 s2:ST)(r:Ending)(w':Wd):Prop:=
 r=υ (φ #[J (G.aQ s1),J (G.aQ s2)])/\aP C G T (told G b F es) w'/\aB C w w'
structure vG(G:aw E)(na:Array Value)(k B:Nat)(w W:Wd):Prop where
 p:W.heap[k]?=Y (L na (G.ix 174 157))
 q:W.heap[k+1]?=Y (L na (G.ix 174 157))
 b:Below B w W
theorem Jq(w:Wd)(o1 o2 o3 o4 o5:Obj) :
  (((((w.alloc o1).alloc o2).alloc o3).alloc o4).alloc o5).heap[w.heap.size]?=Y o1/\(((((w.alloc o1).alloc o2).alloc o3).alloc o4).alloc o5).heap[w.heap.size+1]?=Y o2/\(((((w.alloc o1).alloc o2).alloc o3).alloc o4).alloc o5).heap[w.heap.size+1+1]?=Y o3/\(((((w.alloc o1).alloc o2).alloc o3).alloc o4).alloc o5).heap[w.heap.size+1+1+1]?=Y o4/\(((((w.alloc o1).alloc o2).alloc o3).alloc o4).alloc o5).heap[w.heap.size+1+1+1+1]?=Y o5/\ω w (((((w.alloc o1).alloc o2).alloc o3).alloc o4).alloc o5):=by
 obtain⟨k0,k1,k2,k3,kb⟩:=cN (w:=w) (o1:=o1) (o2:=o2) (o3:=o3) (o4:=o4) Å;refine⟨heap_alloc_old k0,heap_alloc_old k1,heap_alloc_old k2,heap_alloc_old k3,?_,kb.alloc kb.size _⟩;rw[show w.heap.size+1+1+1+1=((((w.alloc o1).alloc o2).alloc o3).alloc o4).heap.size by simp];exact heap_alloc_new _ _
theorem KK(k:Nat)(vl vr:Value)(C:Cx)(G:aw E)(T:fS)(F:Fd)(b:Bool)(w:Wd)(h:aP C G T F w) :
  Calls prog (G.ix 167 163) #[J (G.wk C b),J #[I O (k:Nat),vl,vr],J (G.aQ M)] w (gE C G T F b w [] M M):=by
 cases E
 all_goals
  try dsimp only[aw.ix,aw.kd]at*
  have z0:∀h:0<(G.aQ M).size,(G.aQ M)[0]=U false:=λh=>G.iY M h
  have fV:=G.aG M;obtain⟨na,sF⟩:∃na,na=G.fF:=⟨_,rfl⟩;have tT:na.size=17:=by rw[sF];rfl
  have n1:na.all (·.oneCell')=true:=by rw[sF];exact G.aZ M
  have rJ:=hid sF;generalize G.wk C b=wa at*;generalize G.aQ M=xa at*;have H0:Hid (vG G na (w.heap.size+1+1+1) w.heap.size w (((((w.alloc (L wa (G.ix 171 154))).alloc (L #[I O (k:Nat),vl,vr] 282)).alloc (L xa (G.ix 174 157))).alloc (L G.zS (G.ix 174 157))).alloc (L G.zS (G.ix 174 157))).drew):=by obtain⟨_,_,_,hp,hq,kb⟩:=Jq w (L wa (G.ix 171 154)) (L #[I O (k:Nat),vl,vr] 282) (L xa (G.ix 174 157)) (L G.zS (G.ix 174 157)) (L G.zS (G.ix 174 157));rw[sF];exact⟨hp,hq,kb.drew⟩
  have HA:=hid h;clear h sF;try dsimp only[aw.ix,aw.kd]
  first|go_enter func167,ntmps167|go_enter func163,ntmps163
  go_wp2_with fail;generalize ((((w.alloc (L wa (G.ix 171 154))).alloc (L #[I O (k:Nat),vl,vr] 282)).alloc (L xa (G.ix 174 157))).alloc (L G.zS (G.ix 174 157))).alloc (L G.zS (G.ix 174 157))=W at*;refine wp_region_held_drew (S:=λw':Wd=>vG G na (w.heap.size+1+1+1) w.heap.size w w') Ã H0.out (λaa=>?_);refine nu 0 rfl (G.nw rfl _ rfl _ _ rfl (na) (λw' h=>aT h.p) tT) aa ?_;refine nu 1 rfl (G.nw rfl _ rfl _ _ rfl (na) (λw' h=>aT h.q) tT) aa ?_;refine bP 2 λK hK=>?_
  simp only[bG,gd];rw[Á Ê];refine lY (G:=G) _ _ rfl rfl rfl (by rw[<-tT];exact bO aa.p) tT n1 ?_;have gN:vG G na (w.heap.size+1+1+1) w.heap.size w _:=⟨ar aa.p (d:=na) rfl,(al na.toList 0 _ (w.heap.size+1+1+1+1) À).trans aa.q,au (b:=w.heap.size+1+1+1) À na.toList 0 w _ aa.b⟩;refine hK.out _ _ gN (λaa=>?_);clear hK K gN;refine bP 3 λK hK=>?_
  simp only[bG];rw[Á Ê];refine lY (G:=G) _ _ rfl rfl rfl (by rw[<-tT];exact bO aa.q) tT n1 ?_;have BM:vG G na (w.heap.size+1+1+1) w.heap.size w _:=⟨(al na.toList 0 _ (w.heap.size+1+1+1) À).trans aa.p,ar aa.q (d:=na) rfl,au (b:=w.heap.size+1+1+1+1) À na.toList 0 w _ aa.b⟩;have Nl:=hid BM;refine hK.out _ _ BM (λaa=>?_);clear hK K BM aa;refine wpAnyH_done Ã ?_ _;go_wp2_with fail;refine Ç (p9 rfl _ _ rfl rfl Nl.p tT Nl.q tT) rfl ?_;exact⟨by rw[rJ.out];rfl,by rw[eI];exact HA.call Nl.b,aB.aF Nl.b HA.le⟩
theorem Jo(k:Nat)(tl:TypeId)(ul:Value)(tr:TypeId)(ur:Value)(C:Cx)(G:aw E)(T:fS)(F:Fd)(b:Bool)(w:Wd)(e:Fin 8->Sp.Iv)(es:List cE)(h:aP C G T F w)
  (hs:oh C G T F b (σ tl ul) (σ tr ur) e es M):
  Calls prog (G.ix 167 163) #[J (G.wk C b),J #[I O (k:Nat),σ tl ul,σ tr ur],J (G.aQ (Y e))] w (gE C G T F b w es M M):=by
 cases E
 all_goals
  try dsimp only[aw.ix,aw.kd]at*
  have z0:∀h:0<(G.aQ (Y e)).size,(G.aQ (Y e))[0]=U true:=λh=>G.iY (Y e) h
  have hY:=G.aG (Y e);have kL:=G.mj C b;have fH:=G.du C b;obtain⟨na,sF⟩:∃na,na=G.fF:=⟨_,rfl⟩;have tT:na.size=17:=by rw[sF];rfl
  have n1:na.all (·.oneCell')=true:=by rw[sF];exact G.aZ M
  have rJ:=hid sF;obtain⟨k0,k1,k2,k3,k4,kb⟩:=Jq w (L (G.wk C b) (G.ix 171 154)) (L #[I O (k:Nat),σ tl ul,σ tr ur] 282) (L (G.aQ (Y e)) (G.ix 174 157)) (L G.zS (G.ix 174 157)) (L G.zS (G.ix 174 157));have HW:=hs _ (h.call kb);generalize G.wk C b=wa at*;generalize G.aQ (Y e)=xa at*;have K0:=hid k0;have K1:=hid k1;have K2:=hid k2;have K3:=hid k3;have K4:=hid k4;have c1:=cell_of k1 1 (v:=σ tl ul) rfl;have c2:=cell_of k1 2 (v:=σ tr ur) rfl;have HB:=hid kb;have HA:=hid h;have l1:w.heap.size<=w.heap.size+1:=À;have l2:w.heap.size<=w.heap.size+1+1:=À;have l3:w.heap.size<=w.heap.size+1+1+1:=À;have l4:w.heap.size<=w.heap.size+1+1+1+1:=À;clear h hs k0 k1 k2 k3 k4 kb sF;try dsimp only[aw.ix,aw.kd]
  first|go_enter func167,ntmps167|go_enter func163,ntmps163
  go_wp2_with (first
   |(refine cR (G:=G) rfl _ rfl rfl K0.out fH ?_)
   |(refine bR (G:=G) rfl _ rfl rfl K2.out hY ?_))
  refine HW.mono ?_;rintro r w1⟨⟨i1,i2,i3,i4,rfl⟩,a1,b1⟩;obtain⟨_,_,n2⟩:=ft (w:=w1) (o1:=L #[I G.kd i1,I G.kd i2] (G.ix 90 85)) (o2:=L #[I G.kd i3,I G.kd i4] (G.ix 90 85)) Å;have ea:w.heap.size<=w1.heap.size:=Nat.le_trans HB.size b1.below.size;have H0:Hid (vG G na (w.heap.size+1+1+1) w.heap.size w1 ((w1.alloc (L #[I G.kd i1,I G.kd i2] (G.ix 90 85))).alloc (L #[I G.kd i3,I G.kd i4] (G.ix 90 85))).drew):=by rw[rJ.out];exact⟨(n2.block _ (ah (b1.bf HA.out l3 K3.out))).trans (b1.bf HA.out l3 K3.out),(n2.block _ (ah (b1.bf HA.out l4 K4.out))).trans (b1.bf HA.out l4 K4.out),(n2.mono ea).drew⟩
  have sD:=hid a1;have rG:Hid (aB C w w1):=(aB.aF HB.out HA.le).trans b1;clear a1 b1 n2 HW;go_wp2_with fail;generalize (w1.alloc (L #[I G.kd i1,I G.kd i2] (G.ix 90 85))).alloc (L #[I G.kd i3,I G.kd i4] (G.ix 90 85))=W at*;refine wp_region_held_drew (S:=λw':Wd=>vG G na (w.heap.size+1+1+1) w.heap.size w1 w') Ã H0.out (λaa=>?_);refine nu 0 rfl (G.nw rfl _ rfl _ _ rfl (na) (λw' h=>aT h.p) tT) aa ?_;refine nu 1 rfl (G.nw rfl _ rfl _ _ rfl (na) (λw' h=>aT h.q) tT) aa ?_;refine bP 2 λK hK=>?_
  simp only[bG,gd];rw[Á Ê];refine lY (G:=G) _ _ rfl rfl rfl (by rw[<-tT];exact bO aa.p) tT n1 ?_;have gN:vG G na (w.heap.size+1+1+1) w.heap.size w1 _:=⟨ar aa.p (d:=na) rfl,(al na.toList 0 _ (w.heap.size+1+1+1+1) À).trans aa.q,au (b:=w.heap.size+1+1+1) À na.toList 0 w1 _ aa.b⟩;refine hK.out _ _ gN (λaa=>?_);clear hK K gN;refine bP 3 λK hK=>?_
  simp only[bG];rw[Á Ê];refine lY (G:=G) _ _ rfl rfl rfl (by rw[<-tT];exact bO aa.q) tT n1 ?_;have BM:vG G na (w.heap.size+1+1+1) w.heap.size w1 _:=⟨(al na.toList 0 _ (w.heap.size+1+1+1) À).trans aa.p,ar aa.q (d:=na) rfl,au (b:=w.heap.size+1+1+1+1) À na.toList 0 w1 _ aa.b⟩;have Nl:=hid BM;refine hK.out _ _ BM (λaa=>?_);clear hK K BM aa;refine wpAnyH_done Ã ?_ _;go_wp2_with fail;refine Ç (p9 rfl _ _ rfl rfl Nl.p tT Nl.q tT) rfl ?_;exact⟨by rw[rJ.out];rfl,HA.upon sD.out Nl.b,aB.upon HA.out rG.out Nl.b⟩
theorem O4(k:Nat)(hk:k<6)(tl:TypeId)(ul:Value)(tr:TypeId)(ur:Value)(x y:Sp.Sm)(hl:lN (σ tl ul) x)(hy:lN (σ tr ur) y)(a c:Sp.Iv)(ha:G.Wv a)(hc:G.Wv c)(C:Cx)(G:aw E)(T:fS)(F:Fd)(b:Bool)(w:Wd)(e:Fin 8->Sp.Iv)(he:∀j,G.Wv (e j))(es:List cE)(h:aP C G T F w)
  (hs:oh C G T F b (σ tl ul) (σ tr ur) e es (Y (a,c))) (s1 s2:ST) (h1:gk (Dm G) k x y a c e=s1) (h2:gk (Dm G) (yZ k) x y a c e=s2):
  Calls prog (G.ix 167 163) #[J (G.wk C b),J #[I O (k:Nat),σ tl ul,σ tr ur],J (G.aQ (Y e))] w (gE C G T F b w es s1 s2):=by
 cases E
 all_goals
  try dsimp only[aw.ix,aw.kd]at*
  have z0:∀h:0<(G.aQ (Y e)).size,(G.aQ (Y e))[0]=U true:=λh=>G.iY (Y e) h
  have hY:=G.aG (Y e);have kL:=G.mj C b;have fH:=G.du C b;obtain⟨na,sF⟩:∃na,na=G.fF:=⟨_,rfl⟩;have tT:na.size=17:=by rw[sF];rfl
  have n1:na.all (·.oneCell')=true:=by rw[sF];exact G.aZ M
  have rJ:=hid sF;obtain⟨k0,k1,k2,k3,k4,kb⟩:=Jq w (L (G.wk C b) (G.ix 171 154)) (L #[I O (k:Nat),σ tl ul,σ tr ur] 282) (L (G.aQ (Y e)) (G.ix 174 157)) (L G.zS (G.ix 174 157)) (L G.zS (G.ix 174 157));have HW:=hs _ (h.call kb);have ho6:yZ k<6:=by rcases(show k=0∨k=1∨k=2∨k=3∨k=4∨k=5 from À) with rfl|rfl|rfl|rfl|rfl|rfl<;>decide
  have Gk:Hid (∀kl kr W,aP C G T (told G b F es) W->jk G (G.wk C b) (G.aQ (Y e)) (I O (k:Nat)) (σ tl ul) (σ tr ur) a c w.heap.size kl kr (w.heap.size+1) (w.heap.size+1+1) W->Calls _ _ _ W _):=λkl kr W hW WE=>km (B:=C.base) (G:=G) k hk C.dv (G.wk C b) kL fH (I O (k:Nat)) tl tr ul ur x y hl hy a c ha hc e he w.heap.size kl kr (w.heap.size+1) (w.heap.size+1+1) W hW.does hW.turns hW.Ke WE s1 h1
  have xx:Hid (∀kl kr W,aP C G T (told G b F es) W->jk G (G.wk C b) (G.aQ (Y e)) (I O (k:Nat)) (σ tl ul) (σ tr ur) a c w.heap.size kl kr (w.heap.size+1) (w.heap.size+1+1) W->Calls _ _ _ W _):=λkl kr W hW WE=>km (B:=C.base) (G:=G) (yZ k) ho6 C.dv (G.wk C b) kL fH (I O (k:Nat)) tl tr ul ur x y hl hy a c ha hc e he w.heap.size kl kr (w.heap.size+1) (w.heap.size+1+1) W hW.does hW.turns hW.Ke WE s2 h2
  have ug:=G.aG s1;have MN:=G.aZ s1;have zL:=G.aG s2;have Nn:=G.aZ s2;generalize G.wk C b=wa at*;generalize G.aQ (Y e)=xa at*;have K0:=hid k0;have K1:=hid k1;have K2:=hid k2;have K3:=hid k3;have K4:=hid k4;have c1:=cell_of k1 1 (v:=σ tl ul) rfl;have c2:=cell_of k1 2 (v:=σ tr ur) rfl;have HB:=hid kb;have HA:=hid h;have l1:w.heap.size<=w.heap.size+1:=À;have l2:w.heap.size<=w.heap.size+1+1:=À;have l3:w.heap.size<=w.heap.size+1+1+1:=À;have l4:w.heap.size<=w.heap.size+1+1+1+1:=À;clear h hs k0 k1 k2 k3 k4 kb sF;try dsimp only[aw.ix,aw.kd]
  first|go_enter func167,ntmps167|go_enter func163,ntmps163
  go_wp2_with (first
   |(refine cR (G:=G) rfl _ rfl rfl K0.out fH ?_)
   |(refine bR (G:=G) rfl _ rfl rfl K2.out hY ?_))
  refine HW.mono ?_;rintro r w1⟨rfl,a1,b1⟩;obtain⟨nl,nr,n2⟩:=ft (w:=w1) (o1:=L #[I G.kd a.a,I G.kd a.b] (G.ix 90 85)) (o2:=L #[I G.kd c.a,I G.kd c.b] (G.ix 90 85)) Å;have ea:w.heap.size<=w1.heap.size:=Nat.le_trans HB.size b1.below.size;have H0:Hid (jk G wa xa (I O (k:Nat)) (σ tl ul) (σ tr ur) a c w.heap.size w1.heap.size (w1.heap.size+1) (w.heap.size+1) (w.heap.size+1+1) ((w1.alloc (L #[I G.kd a.a,I G.kd a.b] (G.ix 90 85))).alloc (L #[I G.kd c.a,I G.kd c.b] (G.ix 90 85))).drew/\((w1.alloc (L #[I G.kd a.a,I G.kd a.b] (G.ix 90 85))).alloc (L #[I G.kd c.a,I G.kd c.b] (G.ix 90 85))).drew.heap[w.heap.size+1+1+1]?=Y (L G.zS (G.ix 174 157))/\((w1.alloc (L #[I G.kd a.a,I G.kd a.b] (G.ix 90 85))).alloc (L #[I G.kd c.a,I G.kd c.b] (G.ix 90 85))).drew.heap[w.heap.size+1+1+1+1]?=Y (L G.zS (G.ix 174 157))/\Below w.heap.size w1 ((w1.alloc (L #[I G.kd a.a,I G.kd a.b] (G.ix 90 85))).alloc (L #[I G.kd c.a,I G.kd c.b] (G.ix 90 85))).drew):=
   ⟨⟨(n2.block _ (ah (b1.bf HA.out È K0.out))).trans (b1.bf HA.out È K0.out),nl,nr,(n2.block _ (ah (b1.bf HA.out l1 K1.out))).trans (b1.bf HA.out l1 K1.out),(n2.block _ (ah (b1.bf HA.out l2 K2.out))).trans (b1.bf HA.out l2 K2.out)⟩,
    (n2.block _ (ah (b1.bf HA.out l3 K3.out))).trans (b1.bf HA.out l3 K3.out),(n2.block _ (ah (b1.bf HA.out l4 K4.out))).trans (b1.bf HA.out l4 K4.out),(n2.mono ea).drew⟩
  have aar:w.heap.size+1+1+1+1<w1.heap.size:=Nat.lt_of_lt_of_le (ah K4.out) b1.below.size;have sD:=hid a1;have rG:Hid (aB C w w1):=(aB.aF HB.out HA.le).trans b1;clear a1 b1 n2 HW nl nr;go_wp2_with fail;generalize (w1.alloc (L #[I G.kd a.a,I G.kd a.b] (G.ix 90 85))).alloc (L #[I G.kd c.a,I G.kd c.b] (G.ix 90 85))=W at*;refine wp_region_held_drew (S:=λw':Wd=>jk G wa xa (I O (k:Nat)) (σ tl ul) (σ tr ur) a c w.heap.size w1.heap.size (w1.heap.size+1) (w.heap.size+1) (w.heap.size+1+1) w'/\(∃d,d.size=17/\w'.heap[w.heap.size+1+1+1]?=Y (L d (G.ix 174 157)))/\(∃d,d.size=17/\w'.heap[w.heap.size+1+1+1+1]?=Y (L d (G.ix 174 157)))/\Below w.heap.size w1 w') Ã ⟨H0.1,⟨_,rfl,H0.2.1⟩,⟨_,rfl,H0.2.2.1⟩,H0.2.2.2⟩ (λaa=>?_);refine tq 0 (.func (Fn.func (G.ix 201 193)) #[] #[ρ (Y ⟨w.heap.size,0,M⟩),ρ (Y ⟨w1.heap.size,0,M⟩),ρ (Y ⟨w1.heap.size+1,0,M⟩),ρ (Y ⟨w.heap.size+1,0,M⟩),ρ (Y ⟨w.heap.size+1+1,0,M⟩)]) aa ?_;refine tq 1 (ρ (Y ⟨w.heap.size+1,0,M⟩)) aa ?_;refine tk 2 (I O (k:Nat)) rfl (λw' h=>by have d:=cell_of h.1.c 0 (v:=I O (k:Nat)) rfl;go_simp) aa ?_;refine tq 4 (.func (Fn.func (G.ix 201 193)) #[] #[ρ (Y ⟨w.heap.size,0,M⟩),ρ (Y ⟨w1.heap.size,0,M⟩),ρ (Y ⟨w1.heap.size+1,0,M⟩),ρ (Y ⟨w.heap.size+1,0,M⟩),ρ (Y ⟨w.heap.size+1+1,0,M⟩)]) aa ?_;refine tq 5 (ρ (Y ⟨w.heap.size+1,0,M⟩)) aa ?_;refine tk 6 (I O (k:Nat)) rfl (λw' h=>by have d:=cell_of h.1.c 0 (v:=I O (k:Nat)) rfl;go_simp) aa ?_;refine bP 3 λK hK=>?_
  simp only[bG,gd];go_simp;refine(Gk.out _ _ _ (HA.upon sD.out aa.2.2.2) aa.1).mono ?_;rintro q w3⟨rfl,b3⟩;go_wp2_with fail;obtain⟨c3,zH,nJ⟩:=aa.2.1;obtain⟨c4,wO,pC⟩:=aa.2.2.1;have BM:jk G wa xa (I O (k:Nat)) (σ tl ul) (σ tr ur) a c w.heap.size w1.heap.size (w1.heap.size+1) (w.heap.size+1) (w.heap.size+1+1) w3/\(∃d,d.size=17/\w3.heap[w.heap.size+1+1+1]?=Y (L d (G.ix 174 157)))/\(∃d,d.size=17/\w3.heap[w.heap.size+1+1+1+1]?=Y (L d (G.ix 174 157)))/\Below w.heap.size w1 w3:=⟨aa.1.call b3,⟨c3,zH,(b3.block _ (ah nJ)).trans nJ⟩,⟨c4,wO,(b3.block _ (ah pC)).trans pC⟩,aa.2.2.2.trans (b3.mono (Nat.le_trans ea aa.2.2.2.size))⟩;refine hK.out _ _ BM (λaa=>?_);clear hK K BM b3 nJ pC;refine bP 7 λK hK=>?_
  simp only[bG];go_simp;refine(kX k hk _ (HA.upon sD.out aa.2.2.2).turns).mono ?_;rintro q w4⟨rfl,rfl⟩;go_wp2_with fail;refine hK.out _ _ aa (λaa=>?_);clear hK K;refine bP 8 λK hK=>?_
  simp only[bG];go_simp;refine(xx.out _ _ _ (HA.upon sD.out aa.2.2.2) aa.1).mono ?_;rintro q w5⟨rfl,b5⟩;go_wp2_with fail;obtain⟨c5,hc5,tQ⟩:=aa.2.1;obtain⟨c6,hc6,I0⟩:=aa.2.2.1;have Kt:=(b5.block _ (ah tQ)).trans tQ;have ZG:=(b5.block _ (ah I0)).trans I0;have BK:jk G wa xa (I O (k:Nat)) (σ tl ul) (σ tr ur) a c w.heap.size w1.heap.size (w1.heap.size+1) (w.heap.size+1) (w.heap.size+1+1) w5/\(∃d,d.size=17/\w5.heap[w.heap.size+1+1+1]?=Y (L d (G.ix 174 157)))/\(∃d,d.size=17/\w5.heap[w.heap.size+1+1+1+1]?=Y (L d (G.ix 174 157)))/\Below w.heap.size w1 w5:=⟨aa.1.call b5,⟨c5,hc5,Kt⟩,⟨c6,hc6,ZG⟩,aa.2.2.2.trans (b5.mono (Nat.le_trans ea aa.2.2.2.size))⟩;refine hK.out _ _ BK (λaa=>?_);clear hK K BK b5 tQ I0;generalize Np:G.aQ s1=u1 at*;generalize Q6:G.aQ s2=u2 at*;have HU1:=hid Np;have HU2:=hid Q6;clear Np Q6;have db:∀i,i<w.heap.size+1+1+1∨w1.heap.size<=i->i≠w.heap.size+1+1+1:=λi hi=>by have:=aar;omega
  have F6:∀i,i<w.heap.size+1+1+1∨w1.heap.size<=i->i≠w.heap.size+1+1+1+1:=λi hi=>by have:=aar;omega
  have hp9:=ar Kt (d:=u1) À;have hq9:=(al u1.toList 0 w5 (w.heap.size+1+1+1+1) (show w.heap.size+1+1+1+1≠w.heap.size+1+1+1 by omega)).trans ZG;have Ww:=au (b:=w.heap.size+1+1+1) l3 u1.toList 0 w1 _ aa.2.2.2;have XU:jk G wa xa (I O (k:Nat)) (σ tl ul) (σ tr ur) a c w.heap.size w1.heap.size (w1.heap.size+1) (w.heap.size+1) (w.heap.size+1+1) (w5.setCells (w.heap.size+1+1+1) 0 u1.toList):=
   ⟨(al _ _ _ _ (db _ (.inl À))).trans aa.1.o,(al _ _ _ _ (db _ (.inr À))).trans aa.1.l,(al _ _ _ _ (db _ (.inr À))).trans aa.1.r,(al _ _ _ _ (db _ (.inl À))).trans aa.1.c,(al _ _ _ _ (db _ (.inl À))).trans aa.1.x⟩
  refine bP 9 λK hK=>?_
  simp only[bG];rw[Á Ê];refine lY (G:=G) _ _ rfl rfl rfl (by rw[<-hc5];exact bO Kt) ug MN ?_;refine hK.out _ _ ⟨XU,⟨u1,ug,hp9⟩,⟨c6,hc6,hq9⟩,Ww⟩ (λaa=>?_);clear hK K;have ZN:=(al u2.toList 0 (w5.setCells (w.heap.size+1+1+1) 0 u1.toList) (w.heap.size+1+1+1) (show w.heap.size+1+1+1≠w.heap.size+1+1+1+1 by omega)).trans hp9;have Zz:=ar hq9 (d:=u2) À;have aao:=au (b:=w.heap.size+1+1+1+1) l4 u2.toList 0 w1 _ Ww;have HP:=hid ZN;have HQ:=hid Zz;have ia:=hid aao;refine bP 10 λK hK=>?_
  simp only[bG];rw[Á Ê];refine lY (G:=G) _ _ rfl rfl rfl (by rw[<-hc6];exact bO hq9) zL Nn ?_;refine hK.out _ _ ⟨⟨(al _ _ _ _ (F6 _ (.inl À))).trans aa.1.o,(al _ _ _ _ (F6 _ (.inr À))).trans aa.1.l,(al _ _ _ _ (F6 _ (.inr À))).trans aa.1.r,(al _ _ _ _ (F6 _ (.inl À))).trans aa.1.c,(al _ _ _ _ (F6 _ (.inl À))).trans aa.1.x⟩,⟨u1,ug,HP.out⟩,⟨u2,zL,HQ.out⟩,ia.out⟩ (λ_=>?_);clear hK K aa XU hp9 hq9 Ww ZN Zz aao Kt ZG;refine wpAnyH_done Ã ?_ _;go_wp2_with fail;refine Ç (p9 rfl _ _ rfl rfl HP.out ug HQ.out zL) rfl ?_;exact⟨by rw[<-HU1.out,<-HU2.out],HA.upon sD.out ia.out,aB.upon HA.out rG.out ia.out⟩
end W
end
section
namespace W
variable {E: Bool}{G: aw E}
def xL(C:Cx)(G:aw E)(T:fS)(F:Fd)(b:Bool)(k:Nat)(vl vr:Value)(s:ST)(es:List cE)(s1 s2:ST):Prop:=
 ∀W,aP C G T F W->Calls prog (G.ix 167 163) #[J (G.wk C b),J #[I O (k:Nat),vl,vr],J (G.aQ s)] W (gE C G T F b W es s1 s2)
theorem s9(w:Wd)(u1 u2:Array Value)(h1:u1.size=17)(h2:u2.size=17) :
  ((w.alloc (L G.zS (G.ix 174 157))).alloc (L G.zS (G.ix 174 157))).heap[w.heap.size]?=Y (L G.zS (G.ix 174 157)) /\
  (((w.alloc (L G.zS (G.ix 174 157))).alloc (L G.zS (G.ix 174 157))).setCells w.heap.size 0 u1.toList).heap[w.heap.size+1]?=Y (L G.zS (G.ix 174 157)) /\
  ((((w.alloc (L G.zS (G.ix 174 157))).alloc (L G.zS (G.ix 174 157))).setCells w.heap.size 0 u1.toList).setCells (w.heap.size+1) 0 u2.toList).heap[w.heap.size]?=Y (L u1 (G.ix 174 157)) /\
  ((((w.alloc (L G.zS (G.ix 174 157))).alloc (L G.zS (G.ix 174 157))).setCells w.heap.size 0 u1.toList).setCells (w.heap.size+1) 0 u2.toList).heap[w.heap.size+1]?=Y (L u2 (G.ix 174 157)) /\
  ω w ((((w.alloc (L G.zS (G.ix 174 157))).alloc (L G.zS (G.ix 174 157))).setCells w.heap.size 0 u1.toList).setCells (w.heap.size+1) 0 u2.toList):=by
 obtain⟨a1,a2,a3⟩:=ft (w:=w) (o1:=L G.zS (G.ix 174 157)) (o2:=L G.zS (G.ix 174 157)) Å;have b1:=ar a1 (d:=u1) (by rw[h1];rfl);have b2:=(al u1.toList 0 ((w.alloc (L G.zS (G.ix 174 157))).alloc (L G.zS (G.ix 174 157))) (w.heap.size+1) (show w.heap.size+1≠w.heap.size by omega)).trans a2;exact⟨a1,b2,(al u2.toList 0 _ w.heap.size À).trans b1,ar b2 (d:=u2) (by rw[h2];rfl),au (b:=w.heap.size+1) À u2.toList 0 w _ (au (b:=w.heap.size) È u1.toList 0 w _ a3)⟩
theorem ow(p q:Int)(k:Nat)(tl:TypeId)(ul:Value)(tr:TypeId)(ur:Value)(C:Cx)(G:aw E)(T:fS)(F:Fd)(b:Bool)(w:Wd)(e:Fin 8->Sp.Iv)(es:List cE)(s1 s2:ST)(h:aP C G T F w)
  (hs:xL C G T F b k (σ tl ul) (σ tr ur) (Y e) es s1 s2) (hr:dk b (told G b F es) [.site q s2.isSome]):
  Calls prog (G.ix 120 115) #[J (G.wk C b),J #[I O p,I O q,I O (k:Nat),σ tl ul,σ tr ur],J (G.aQ (Y e))] w (jh C G T F b w (es++[.site q s2.isSome]) s1):=by
 cases E
 all_goals
  try dsimp only[aw.ix,aw.kd]at*
  obtain⟨k0,k1,k2,k3,kb⟩:=cN (w:=w) (o1:=L (G.wk C b) (G.ix 171 154)) (o2:=L #[I O p,I O q,I O (k:Nat),σ tl ul,σ tr ur] 284) (o3:=L (G.aQ (Y e)) (G.ix 174 157)) (o4:=L G.zS (G.ix 174 157)) Å;have HW:=hs _ (h.call kb);have HSi:Hid (∀W,aP C G T (told G b F es) W->Calls _ _ _ W _):=λW hW=>gG C G T (told G b F es) b W hW q s2.isSome hr
  have fH:=G.du C b;have hY:=G.aG (Y e);have ug:=G.aG s1;have MN:=G.aZ s1;have zL:=G.aG s2;have Nn:=G.aZ s2;have z2:(G.aQ s2)[0]?=Y (U s2.isSome):=by rw[Ü À,G.iY s2]
  unfold gE at HW;generalize G.wk C b=wa at*;generalize G.aQ (Y e)=xa at*;generalize s2.isSome=rb at*;generalize Np:G.aQ s1=u1 at*;generalize G.aQ s2=u2 at*;have HU1:=hid Np;have K0:=hid k0;have K1:=hid k1;have K2:=hid k2;have K3:=hid k3;have c2:=cell_of k1 2 (v:=I O (k:Nat)) rfl;have c3:=cell_of k1 3 (v:=σ tl ul) rfl;have c4:=cell_of k1 4 (v:=σ tr ur) rfl;have HB:=hid kb;have HA:=hid h;have l1:w.heap.size<=w.heap.size+1:=À;have l3:w.heap.size<=w.heap.size+1+1+1:=À;clear h hs k0 k1 k2 k3 kb Np hr;try dsimp only[aw.ix,aw.kd]
  first|go_enter func120,ntmps120|go_enter func115,ntmps115
  go_wp2_with (first
   |(refine cR (G:=G) rfl _ rfl rfl K0.out fH ?_)
   |(refine bR (G:=G) rfl _ rfl rfl K2.out hY ?_))
  refine HW.mono ?_;rintro r w1⟨rfl,a1,b1⟩;have ea:w.heap.size<=w1.heap.size:=Nat.le_trans HB.size b1.below.size;obtain⟨t1,t2,t3,t4,tb⟩:=s9 (G:=G) w1 u1 u2 ug zL;have I4:=hid t1;have DF:=hid t2;have HT3:=hid t3;have Zx:=(tb.block _ (ah (b1.bf HA.out È K0.out))).trans (b1.bf HA.out È K0.out);have wO:=(tb.block _ (ah (b1.bf HA.out l1 K1.out))).trans (b1.bf HA.out l1 K1.out);have pC:=(tb.block _ (ah (b1.bf HA.out l3 K3.out))).trans (b1.bf HA.out l3 K3.out);have HO4:=hid Zx;have HZ4:=hid pC;have g1:=cell_of wO 1 (v:=I O q) rfl;have g0:=cell_of t4 0 z2;have HA4:Hid (aP C G T (told G b F es) _):=HA.upon a1 (tb.mono ea);have Xs:Hid (aB C w _):=aB.upon HA.out ((aB.aF HB.out HA.le).trans b1) (tb.mono ea);clear t1 t2 t3 t4 tb a1 b1 HW Zx wO pC;go_wp2_with (first
   |(refine cy (G:=G) rfl _ _ rfl rfl (c:=G.zS) (d:=u1) rfl (by exact I4.out) rfl ug MN ?_)
   |(refine cy (G:=G) rfl _ _ rfl rfl (c:=G.zS) (d:=u2) rfl (by exact DF.out) rfl zL Nn ?_)
   |(refine cR (G:=G) rfl _ rfl rfl (c:=wa) (by exact HO4.out) fH ?_))
  generalize ((((w1.alloc (L G.zS (G.ix 174 157))).alloc (L G.zS (G.ix 174 157))).setCells w1.heap.size 0 u1.toList).setCells (w1.heap.size+1) 0 u2.toList)=w4 at*;refine(HSi.out _ HA4.out).mono ?_;rintro r w5⟨rfl,a5,b5⟩;have QE:=b5.bf HA.out ea HT3.out;have tQ:=b5.bf HA.out l3 HZ4.out;have HX5:=hid QE;have HZ5:=hid tQ;have je:Hid (_=_):=ar tQ (d:=u1) (by rw[ug];rfl);have ia:Hid (Below w.heap.size w5 _):=au (b:=w.heap.size+1+1+1) l3 u1.toList 0 w5 _ Å;have Ub:=hid a5;have UH:Hid (aB C w w5):=Xs.trans b5;clear a5 b5 QE tQ g0 g1;go_wp2_with (first
   |(refine bR (G:=G) rfl _ rfl rfl HX5.out ug ?_)
   |(refine cy (G:=G) rfl _ _ rfl rfl rfl HZ5.out rfl ug MN ?_))
  refine Ç (aU rfl _ _ rfl je.out ug) rfl ⟨by rw[HU1.out],by rw[aH];exact HA.upon Ub.out ia.out,aB.upon HA.out UH.out ia.out⟩
end W
end
end Go.Proofs.YtiopfihjmkfdmabGreatDoor
