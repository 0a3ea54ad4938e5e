import Derived.Test.YtiopfihjmkfdmabGreatDoorC21
import Derived.Test.YtiopfihjmkfdmabGreatDoorC22
namespace Go.Proofs.YtiopfihjmkfdmabGreatDoor
open Option renaming none->M,some->Y
open Go.Value renaming agg->J,int->I,slice->Z,bool->U,pointer->ρ,tuple->φ,string->χ
open Go.IntKind renaming i64->O
open Go.Ending renaming returned->υ
open Go.Obj renaming cells->L
open Go.Proofs.Tryz Sp
set_option maxRecDepth 100000
set_option maxHeartbeats 16000000
section
namespace RG
open Go.RowKit W
variable {E: Bool}
theorem bE.aA{C:Rc E}{F:jg}{w:Wd}(h:bE C F w){p:Nat}(hp:p<F.1.length){s:dT}{u v:Value}(hs:dL w (J #[u,v]) s)(hw:eR E s):bE C (F.1.set p s,F.2) ((w.setCell ⟨C.gf,p*2,M⟩ u).setCell ⟨C.gf,p*2+1,M⟩ v)/\RK C w ((w.setCell ⟨C.gf,p*2,M⟩ u).setCell ⟨C.gf,p*2+1,M⟩ v):=by
 obtain⟨c1,h1,l1⟩:=h.gf;obtain⟨c2,h2,l2⟩:=h.gs;obtain⟨n1,n2,n3⟩:=h.distinct;have iO:∀j,j≠C.gf->((w.setCell ⟨C.gf,p*2,M⟩ u).setCell ⟨C.gf,p*2+1,M⟩ v).heap[j]?=w.heap[j]?:=λj hj=>by rw[Æ _ _ _ _ hj,Æ _ _ _ _ hj]
 have hK:RK C w ((w.setCell ⟨C.gf,p*2,M⟩ u).setCell ⟨C.gf,p*2+1,M⟩ v):=⟨((Å).setCell (p:=⟨C.gf,p*2,M⟩) h.lf _).setCell (p:=⟨C.gf,p*2+1,M⟩) h.lf _,λj _ hj _=>iO j hj⟩;have hN:=ai (ai h1 (p*2) u) (p*2+1) v;refine⟨⟨?_,⟨_,hN,by simp[l1]⟩,⟨c2,(iO _ n3.symm).trans h2,l2⟩,λi s' dq=>?_,λj m hm=>?_,h.lb,h.lf,h.ls,⟨by simpa using h.Dw.1,h.Dw.2⟩,h.ch⟩,hK⟩
 .rw[iO _ n1,List.length_set];exact h.aV
 .rw[List.getElem?_set]at dq
  by_cases e:p=i
  .subst e
   rw[Á rfl,Á hp]at dq;cases dq
   refine⟨u,v,cell_of hN _ ?_,cell_of hN _ ?_,hs.bH h hK,hw⟩
   .rw[Array.getElem?_setIfInBounds,Â À,Array.getElem?_setIfInBounds_self,Á (by rw[l1];omega)]
   .rw[Array.getElem?_setIfInBounds_self,Á (by rw[Array.size_setIfInBounds,l1];omega)]
  .rw[Â e]at dq
   obtain⟨u',v',e1,e2,e3,e4⟩:=h.f i s' dq;exact⟨u',v',by rw[cK (.inr À),cK (.inr À)];exact e1,by rw[cK (.inr À),cK (.inr À)];exact e2,e3.bH h hK,e4⟩
 .obtain⟨e1,e2⟩:=h.s j m hm
  exact⟨by rw[cK (.inl n3.symm),cK (.inl n3.symm)];exact e1,e2⟩
theorem EP(b:Nat)(p:Int)(n:Bool)(va:Option Addr)(vn vc:Nat)(rec:Bool)(w:Wd)(h:rec=false∨n=true) :
  Calls prog 30 #[ρ (Y ⟨b,0,M⟩),I O p,J #[U n,Z va vn vc],U rec] w λr w'=>r=υ (φ #[])/\ω w w':=by
 cases rec with
 |false=>
  go_enter func30,ntmps30;go_wp2_with fail
  go_end0
  exact⟨rfl,by go_grown⟩
 |true=>
  obtain rfl:n=true:=by simpa using h
  go_enter func30,ntmps30;go_wp2_with fail
  go_end0
  exact⟨rfl,by go_grown⟩
theorem pQ{s t:dT}(hs:eR E s)(ht:eR E t):eR E (xC E s t):=by have:=mr (K:=Kr ⟨[]⟩) (s:=s) (t:=t) hs ht;rw[oH ⟨[]⟩];exact this
theorem rU{α:Type}(l:List α)(p:Nat)(f:α->α)(x:α)(h:l[p]?=Y x):l.modify p f=l.set p (f x):=by
 refine List.ext_getElem? λi=>?_
 rw[List.getElem?_modify,List.getElem?_set];by_cases hi:p=i
 .subst hi
  rw[Á rfl,Á (Í.1 h).1,h];simp
 .rw[Â hi]
  simp[hi]
theorem S5(C:Rc E)(G:aw E)(F:jg)(p:Nat)(e:di)(g:Nat)(w:Wd)(h:bE C F w)(hp:p<F.1.length)(he:∀k,Wv E (e k))(hg:Bk w g (gi e) 117) :
  Calls prog 30 #[ρ (Y ⟨C.b,0,M⟩),I O (p:Nat),J #[U false,Z (Y ⟨g,0,M⟩) 8 8],U true] w λr w'=>r=υ (φ #[])/\bE C (cY (Dm G) F (.aA (p:Int) e)) w'/\RK C w w':=by
 obtain⟨s0,Uw⟩:∃s0,F.1[p]?=Y s0:=⟨_,Î hp⟩;have δ:Hid (cY (Dm G) F (.aA (p:Int) e)=(F.1.set p (xC E s0 (Y e)),F.2)):=by unfold Hid;show(F.1.modify (p:Int).toNat _,F.2)=_;rw[Int.toNat_natCast];exact Prod.ext ((rU (α:=dT) F.1 p (λf=>Sp.jn (Dm G) f (Y e)) s0 Uw).trans (Ë (λx:dT=>F.1.set p x) (oH G s0 (Y e)).symm)) rfl
 have hpi:((p:Nat):Int)<((F.1.length:Nat):Int):=À;have aa1:((F.1.length:Nat):Int)<=1000:=by have:=h.Dw.1;omega
 have kb:=below_alloc1 w (L #[U false,Z (Y ⟨g,0,M⟩) 8 8] 56);have hA:=h.call kb;have Xp:=heap_alloc_new w (L #[U false,Z (Y ⟨g,0,M⟩) 8 8] 56);have Ug:=(kb.block _ (ah hg)).trans hg;have rG:Hid (RK C w _):=RK.aF kb h.le;have Dt:C.gf<w.heap.size:=by obtain⟨c,hc,_⟩:=h.gf;exact ah hc
 clear h kb hg;rw[δ.out];go_enter func30,ntmps30;go_wp2_with fail;generalize w.alloc (L #[U false,Z (Y ⟨g,0,M⟩) 8 8] 56)=W at*;obtain⟨k6,Kq⟩:∃k6,k6=w.heap.size:=⟨_,rfl⟩;rw[<-Kq];rw[<-Kq]at Xp;have nk6:k6≠C.gf:=À;clear Kq Dt;have hq:bE C F W.drew:=hA.call (Å).drew;have hb6:W.drew.heap[k6]?=Y (L #[U false,Z (Y ⟨g,0,M⟩) 8 8] 56):=Xp;have hg6:W.drew.heap[g]?=Y (L (gi e) 117):=Ug;have HK2:Hid (RK C w W.drew):=rG.trans ⟨(Å).drew,λ_ _ _ _=>rfl⟩;obtain⟨J2,HJ⟩:∃J2,Hid (J2=p*2):=⟨_,rfl⟩;obtain⟨u0,v0,e1,e2,e3,e4⟩:=hq.f p s0 Uw;rw[<-HJ.out]at e1 e2;obtain⟨za,zn,zc,ez⟩:=e3.form;obtain⟨rfl,rfl⟩:u0=U s0.isNone/\v0=Z za zn zc:=by
  injection ez with ez
  have:=Ë Array.toList ez;simp at this;exact this
 have HJN:Hid (Calls _ _ _ _ _):=yG C.b W.drew hq.ch hq.cells.1 e3 (show dL W.drew (J #[U false,Z (Y ⟨g,0,M⟩) 8 8]) (Y e) from⟨g,rfl,hg6⟩) e4 (λe' h k=>by cases h;exact he k);have HWJ:Hid (eR E (xC E s0 (Y e))):=pQ e4 (λe' h k=>by cases h;exact he k);have HQ:=hid hq;have HC7:=hid hq.cells.2.1;clear e3 e4 ez hq hg6;refine wp_region_held_drew (S:=λw':Wd=>w'.cell? ⟨C.b,7,M⟩=Y (Z (Y ⟨C.gf,0,M⟩) F.1.length F.1.length)/\w'.heap[k6]?=Y (L #[U false,Z (Y ⟨g,0,M⟩) 8 8] 56)) Ã ⟨HC7.out,hb6⟩ (λaa=>?_);generalize W.drew=V at*;clear hA Xp Ug rG;refine tq 0 (ρ (Y ⟨C.b,0,M⟩)) aa ?_;refine tq 1 (ρ (Y ⟨C.b,0,M⟩)) aa ?_;refine tq 2 (ρ (Y ⟨C.b,7,M⟩)) aa ?_;refine tk 3 (Z (Y ⟨C.gf,0,M⟩) F.1.length F.1.length) rfl (λw' h=>by have q:=h.1;go_simp) aa ?_;refine tq 4 (I O (p:Nat)) aa ?_;refine tq 5 (ρ (Y ⟨C.b,0,M⟩)) aa ?_;refine tq 6 (ρ (Y ⟨C.b,0,M⟩)) aa ?_;refine tq 7 (ρ (Y ⟨C.b,0,M⟩)) aa ?_;refine tq 8 (ρ (Y ⟨C.b,7,M⟩)) aa ?_;refine tk 9 (Z (Y ⟨C.gf,0,M⟩) F.1.length F.1.length) rfl (λw' h=>by have q:=h.1;go_simp) aa ?_;refine tq 10 (I O (p:Nat)) aa ?_;refine tk 11 (ρ (Y ⟨C.gf,J2,M⟩)) rfl (λw' h=>by rw[HJ.out];go_simp) aa ?_;refine tk 13 (J #[U false,Z (Y ⟨g,0,M⟩) 8 8]) rfl (λw' h=>by have q:=cell_of h.2 0 (v:=U false) rfl;have q2:=cell_of h.2 1 (v:=Z (Y ⟨g,0,M⟩) 8 8) rfl;go_simp) aa ?_;refine bP 12 λK hK=>?_
 simp only[bG,gd];go_simp;refine hK.out _ _ aa (λ_=>?_);clear hK K;refine bP 14 λK hK=>?_
 simp only[bG];go_simp;refine HJN.mono ?_;rintro r w8⟨v8,rfl,ML,b8⟩;obtain⟨ya,yn,yc,rfl⟩:=ML.form;have Yi:bE C F w8:=HQ.call b8;have hS8:w8.cell? ⟨C.b,7,M⟩=Y (Z (Y ⟨C.gf,0,M⟩) F.1.length F.1.length)/\w8.heap[k6]?=Y (L #[U false,Z (Y ⟨g,0,M⟩) 8 8] 56):=⟨Yi.cells.2.1,(b8.block _ (ah hb6)).trans hb6⟩;have HP:Hid (bE C (F.1.set p (xC E s0 (Y e)),F.2) _/\RK C w8 _):=Yi.aA hp ML HWJ.out;have HK8:Hid (RK C w w8):=HK2.trans (RK.aF b8 HQ.le);obtain⟨y0,y1,y2,y3,_,_⟩:=Yi.f p s0 Uw;obtain⟨cg,Yg,_⟩:=Yi.gf;have f0:=ay Yg (p*2);have f1:=ay Yg (p*2+1);obtain⟨n1,n2,n3⟩:=Yi.distinct;have hS9:∀u v:Value,((w8.setCell ⟨C.gf,p*2,M⟩ u).setCell ⟨C.gf,p*2+1,M⟩ v).cell? ⟨C.b,7,M⟩=Y (Z (Y ⟨C.gf,0,M⟩) F.1.length F.1.length):=λu v=>by rw[cK (.inl n1),cK (.inl n1)];exact hS8.1
 have Wx:∀u v:Value,((w8.setCell ⟨C.gf,p*2,M⟩ u).setCell ⟨C.gf,p*2+1,M⟩ v).heap[k6]?=Y (L #[U false,Z (Y ⟨g,0,M⟩) 8 8] 56):=λu v=>by rw[Æ _ _ _ _ nk6,Æ _ _ _ _ nk6];exact hS8.2
 rw[<-HJ.out]at y2 y3 f0 f1 HP hS9 Wx;have HY:=hid (And.intro y2 (And.intro y3 (And.intro f0 f1)));have HS9:=hid hS9;have aa0:=hid Wx;clear y2 y3 f0 f1 hS9 Wx Yg Yi e1 e2 b8 ML;go_wp2_with fail;refine hK.out _ _ hS8 (λ_=>?_);clear hK K;refine tk 15 (ρ (Y ⟨C.gf,J2,M⟩)) rfl (λw' h=>by rw[HJ.out];go_simp) hS8 ?_;have y2:=HY.1;have y3:=HY.2.1;have f0:=HY.2.2.1;have f1:=HY.2.2.2;refine bP 16 λK hK=>?_
 simp only[bG];go_simp;refine hK.out _ _ ⟨HS9.out _ _,aa0.out _ _⟩ (λ_=>?_);clear hK K;refine wpAnyH_done Ã ?_ _;go_wp2_with fail
 go_end0
 exact⟨rfl,HP.1,HK8.trans HP.2⟩
end RG
end
section
namespace RG
open Go.RowKit W
variable {E: Bool}
section
variable{g cap ge k6 k8 kn k n:Nat}
variable{ns:List aK}
variable{w w' W W' V:Wd}
variable{e:di}
variable{d:aK}
variable{F F':jg}
structure Gd(C:Rc E)(g:Nat):Prop where
 p:C.pb<C.base
 g:g<C.base
 wd:RW C
theorem FI{C:Rc E}(π:Gd C g)(h:dC C.pb g cap ns w)(k:Below C.base w w'):dC C.pb g cap ns w':=
 ⟨by rw[k.cell (p:=⟨C.pb,0,M⟩) π.p];exact h.slice,λj d c u h1 h2 h3=>by rw[k.cell (p:=⟨g,j*10+c,M⟩) π.g];exact h.cells j d c u h1 h2 h3,Nat.lt_of_lt_of_le h.ltp k.size,Nat.lt_of_lt_of_le h.ltg k.size,h.nH,h.hmax,h.hn⟩
theorem look{C:Rc E}(π:Gd C g)(h:dC C.pb g cap ns w)(k:RK C w w'):dC C.pb g cap ns w':=FI π h k.below
def dJ(G:aw E)(x:Sm)(ct:Ct)(e:di):List (fG T)×Option T:=Sp.dJ (Dm G) x ct e
def kf(C:Rc E)(G:aw E)(g cap:Nat)(ns:List aK)(x:Sm)(k:Nat)(ct:Ct):Prop:=∀(F:jg) (e:di) (ge:Nat) (rec:Bool) (w:Wd),bE C F w->dC C.pb g cap ns w->(∀k,Wv E (e k))->w.heap[ge]?=Y (L (gi e) 117)->dk rec F (dJ G x ct e).1 ->
 Calls prog 58 #[ρ (Y ⟨C.b,0,M⟩),I O (k:Nat),J #[U false,Z (Y ⟨ge,0,M⟩) 8 8],U rec] w λr w'=>∃a b ok,r=υ (φ #[J #[I O a,I O b],U ok])/\bE C (told G rec F (dJ G x ct e).1) w'/\RK C w w'/\SS E a b ok (dJ G x ct e).2
def oV(d:aK):Array Value:=#[I O d.kind,I O d.a,I O d.b,I O d.c,I O d.n,I O d.next,χ ⟨d.sign.toArray⟩,I O d.site,I O d.aA,U d.els]
structure jM(C:Rc E)(g cap:Nat)(ns:List aK)(e:di)(ge:Nat)(d:aK)(w:Wd)(k6 k8 kn:Nat)(F:jg)(W:Wd):Prop where
 ra:bE C F W
 look:dC C.pb g cap ns W
 env:W.heap[ge]?=Y (L (gi e) 117)
 box:W.heap[k6]?=Y (L #[U false,Z (Y ⟨ge,0,M⟩) 8 8] 56)
 res:W.heap[k8]?=Y (L #[I O 0,I O 0] 117)
 nd:W.heap[kn]?=Y (L (oV d) 200)
 bH:RK C w W
 old:bE C F w∨C.gf<w.heap.size/\C.gs<w.heap.size
 l6:w.heap.size<=k6
 l8:w.heap.size<=k8
 ln:w.heap.size<=kn
theorem jM.step{C:Rc E}(π:Gd C g)(h:jM C g cap ns e ge d w k6 k8 kn F W)(hR:bE C F' W')(k:RK C W W'):jM C g cap ns e ge d w k6 k8 kn F' W':=by
 have hl:C.gf<w.heap.size/\C.gs<w.heap.size:=by
  rcases h.old with h|h
  .obtain⟨c1,h1,_⟩:=h.gf
   obtain⟨c2,h2,_⟩:=h.gs;exact⟨ah h1,ah h2⟩
  .exact h
 have l6:=h.l6;have l8:=h.l8;have ln:=h.ln;obtain⟨n1,n2⟩:=h.ra.apart h.env;exact⟨hR,RG.look π h.look k,(k.others _ (ah h.env) n1 n2).trans h.env,(k.others _ (ah h.box) À À).trans h.box,(k.others _ (ah h.res) À À).trans h.res,(k.others _ (ah h.nd) À À).trans h.nd,h.bH.trans k,.inr hl,l6,l8,ln⟩
theorem jM.call{C:Rc E}(π:Gd C g)(h:jM C g cap ns e ge d w k6 k8 kn F W)(k:ω W W'):jM C g cap ns e ge d w k6 k8 kn F W':=h.step π (h.ra.call k) (RK.aF k h.ra.le)
def wW(w:Wd)(ge:Nat)(d:aK):Wd:=((w.alloc (L #[U false,Z (Y ⟨ge,0,M⟩) 8 8] 56)).alloc (L #[I O 0,I O 0] 117)).alloc (L #[I O d.kind,I O d.a,I O d.b,I O d.c,I O d.n,I O d.next,χ ⟨d.sign.toArray⟩,I O d.site,I O d.aA,U d.els] 200)
theorem tj{C:Rc E}{w:Wd}(π:Gd C g)(hR:bE C F w)(hL:dC C.pb g cap ns w)(nN:Bk w ge (gi e) 117)(d:aK):jM C g cap ns e ge d w w.heap.size (w.heap.size+1) (w.heap.size+1+1) F (wW w ge d):=by obtain⟨h1,h2,h3,kb⟩:=bQ (w:=w) (o1:=L #[U false,Z (Y ⟨ge,0,M⟩) 8 8] 56) (o2:=L #[I O 0,I O 0] 117) (o3:=L (oV d) 200) Å;have hk:=RK.aF kb hR.le;exact⟨hR.call kb,RG.look π hL hk,(kb.block _ (ah nN)).trans nN,h1,h2,h3,hk,.inl hR,È,À,À⟩
theorem JD{u v:Value}{ty:TypeId}(h:Bk w' k #[u,v] ty)(hb:ω w w')(hk:w.heap.size<=k)(a b:Value):ω w ((w'.setCell ⟨k,0,M⟩ a).setCell ⟨k,1,M⟩ b)/\((w'.setCell ⟨k,0,M⟩ a).setCell ⟨k,1,M⟩ b).heap[k]?=Y (L #[a,b] ty):=
 ⟨(hb.setCell (p:=⟨k,0,M⟩) hk _).setCell (p:=⟨k,1,M⟩) hk _,by rw[ai (ai h 0 a) 1 b];rfl⟩
theorem bE.own{C:Rc E}(h:bE C F w)(hb:k≠C.b)(hf:k≠C.gf)(hs:k≠C.gs)(he:∀e,w.heap[k]?≠Y (L (gi e) 117))(iO:∀j,j≠k->w'.heap[j]?=w.heap[j]?):bE C F w':=by
 have oc:∀j o,j≠k->w'.cell? ⟨j,o,M⟩=w.cell? ⟨j,o,M⟩:=λj o hj=>by unfold World.cell?;simp only;rw[iO j hj]
 refine⟨(iO _ hb.symm).trans h.aV,?_,?_,λp s hp=>?_,λi m hm=>?_,h.lb,h.lf,h.ls,h.Dw,h.ch⟩
 .rw[iO _ hf.symm];exact h.gf
 .rw[iO _ hs.symm];exact h.gs
 .obtain⟨u,v,e1,e2,e3,e4⟩:=h.f p s hp
  refine⟨u,v,(oc _ _ hf.symm).trans e1,(oc _ _ hf.symm).trans e2,?_,e4⟩;cases s with
  |none=>exact e3
  |some e=>obtain⟨g,q1,q2⟩:=e3;exact⟨g,q1,(iO g (λhg=>he e (by rw[<-hg];exact q2))).trans q2⟩
 .obtain⟨e1,e2⟩:=h.s i m hm
  exact⟨(oc _ _ hs.symm).trans e1,e2⟩
theorem RK.own{C:Rc E}(h:RK C w w')(hk:w.heap.size<=k)(hb:C.base<=w.heap.size)(i:Nat)(u:Value):RK C w (w'.setCell ⟨k,i,M⟩ u):=
 ⟨h.below.setCell (p:=⟨k,i,M⟩) (Nat.le_trans hb hk) _,λj hj h1 h2=>by rw[Æ _ _ _ _ (by show j≠k;omega)];exact h.others j hj h1 h2⟩
theorem Fz(c:Array Value)(h:c.size=2)(ty:TypeId)(e:di):Y (Obj.cells c ty)≠Y (L (gi e) 117):=λq=>by
 injection q with q
 injection q with q1 q2
 rw[q1,Fq]at h;omega
theorem jM.lt{C:Rc E}(h:jM C g cap ns e ge d w k6 k8 kn F W):C.gf<w.heap.size/\C.gs<w.heap.size:=by
 rcases h.old with h|h
 .obtain⟨c1,h1,_⟩:=h.gf
  obtain⟨c2,h2,_⟩:=h.gs;exact⟨ah h1,ah h2⟩
 .exact h
theorem jM.ret{C:Rc E}(h:jM C g cap ns e ge d w k6 k8 kn F W)(u v:Value):bE C F ((W.setCell ⟨k8,0,M⟩ u).setCell ⟨k8,1,M⟩ v)/\RK C w ((W.setCell ⟨k8,0,M⟩ u).setCell ⟨k8,1,M⟩ v):=by
 obtain⟨l1,l2⟩:=h.lt;have l8:=h.l8;have hb:k8≠C.b:=λq=>by have:=h.ra.aV;rw[<-q,h.res]at this;cases this
 have hle:C.base<=w.heap.size:=Nat.le_trans h.ra.lf À;exact⟨h.ra.own (k:=k8) hb À À (λe=>by rw[h.res];exact Fz _ rfl _ _) (λj hj=>by rw[Æ _ _ _ _ hj,Æ _ _ _ _ hj]),(h.bH.own l8 hle _ _).own l8 hle _ _⟩
theorem jM.late{C:Rc E}(π:Gd C g)(h:jM C g cap ns e ge d w k6 k8 kn F V)(u v:Value)(ty:TypeId) :
  jM C g cap ns e ge d w k6 k8 kn F (V.alloc (L #[u,v] ty))/\∀w8,Below (V.alloc (L #[u,v] ty)).heap.size (V.alloc (L #[u,v] ty)) w8->jM C g cap ns e ge d w k6 k8 kn F w8/\w8.heap[V.heap.size]?=Y (L #[u,v] ty)/\∀a b,jM C g cap ns e ge d w k6 k8 kn F ((w8.setCell ⟨V.heap.size,0,M⟩ a).setCell ⟨V.heap.size,1,M⟩ b)/\((w8.setCell ⟨V.heap.size,0,M⟩ a).setCell ⟨V.heap.size,1,M⟩ b).heap[V.heap.size]?=Y (L #[a,b] ty):=by
 have ba:=below_alloc1 V (L #[u,v] ty);have hn:=heap_alloc_new V (L #[u,v] ty);refine⟨h.call π ba,λw8 b8=>?_⟩;have AG:=(b8.block _ (ah hn)).trans hn;have bb:=ba.trans (b8.mono ba.size);exact⟨h.call π bb,AG,λa b=>⟨h.call π (JD AG bb È a b).1,(JD AG bb È a b).2⟩⟩
theorem LN{C:Rc E}(G:aw E){n:Nat}(π:Gd C g)(ct:Ct)(hd:ns[k]?=Y d)(hk:d.kind=1)(hn:d.n=(n:Int))(hm:n<=32767):kf C G g cap ns (.num n) k ct:=by
 intro F e ge rec w hR hL he nN hr;have HW:=tj π hR hL nN d;obtain⟨W,hW⟩:∃W,wW w ge d=W:=⟨_,rfl⟩;rw[hW]at HW;unfold wW at hW;rw[hk]at hW;have m0:=cell_of hR.aV 0 (v:=ρ (Y ⟨C.pb,0,M⟩)) rfl;have c0:=hL.slice;obtain⟨df,r0,r1,r2,r3,r4,r5,r6,r7,r8,r9⟩:=hL.facts hd;have h1:=hL.nH;have h2:=hL.hmax;have h3:=hL.hn;have lp:=hL.ltp;have lg:=hL.ltg;have lb:C.b<w.heap.size:=ah hR.aV;rw[hk]at r0;have H:=hid HW;have HE:Hid (told G rec F (dJ G (.num n) ct e).1=F/\SS E (pA (iC E (n:Int))) (pB (iC E (n:Int))) true (dJ G (.num n) ct e).2):=⟨eI G rec F,rfl,rfl,rfl,(Kr G).wnum _ ⟨À,À⟩⟩;have HK:Hid (d.kind=1/\d.n=(n:Int)):=⟨hk,hn⟩;clear hR hL nN he hr hd HW hk hn;go_enter func58,ntmps58;go_upto_region 2 with fail;try rw[hW]
 obtain⟨k6,e6⟩:∃k6,k6=w.heap.size:=⟨_,rfl⟩;obtain⟨k8,e8⟩:∃k8,k8=w.heap.size+1:=⟨_,rfl⟩;obtain⟨kn,en⟩:∃kn,kn=w.heap.size+1+1:=⟨_,rfl⟩;rw[<-en,<-e8,<-e6];rw[<-en,<-e8,<-e6]at H;clear hW m0 c0 r0 r1 r2 r3 r4 r5 r6 r7 r8 r9 h1 h2 h3 lp lg lb df e6 e8 en;have m1:=H.ra.cells.1;have n0:=cell_of H.nd 0 (v:=I O 1) (by rw[<-HK.1];rfl);have n4:=cell_of H.nd 4 (v:=I O (n:Int)) (by rw[<-HK.2];rfl);go_wp2_with fail;refine wp_region_held_drew (S:=λw':Wd=>jM C g cap ns e ge d w k6 k8 kn F w') Ã (H.call π (Å).drew) (λaa=>?_);have HG:=hid π;clear m1 n0 n4 H π;generalize W.drew=V at*;refine tq 0 (ρ (Y ⟨C.b,0,M⟩)) aa ?_;refine tq 1 (ρ (Y ⟨C.b,0,M⟩)) aa ?_;refine tq 2 (ρ (Y ⟨C.b,1,M⟩)) aa ?_;refine tq 3 (ρ (Y ⟨C.b,1,M⟩)) aa ?_;refine tk 4 (I O (dn E)) rfl (λw' h=>by have q:=h.ra.cells.1;go_simp) aa ?_;refine tq 5 (ρ (Y ⟨kn,4,M⟩)) aa ?_;refine tk 6 (I O (n:Int)) rfl (λw' h=>by have q:=cell_of h.nd 4 (v:=I O (n:Int)) (by rw[<-HK.2];rfl);go_simp) aa ?_;refine zZ 7 8 (λK hK=>?c1) (λK hK=>?c2)
 case' c1=>
  simp only[bG,gd];go_simp;refine(aa.ra.ch.only _ _).mono ?_;rintro r w8⟨rfl,b8⟩;generalize pB (iC E (n:Int))=xb at*;generalize pA (iC E (n:Int))=xa at*;have h8:=aa.call HG.out b8;have h9:∀o,jM C g cap ns e ge d w k6 k8 kn F (w8.alloc o):=λo=>aa.call HG.out (b8.alloc b8.size o)
  have hv:=heap_alloc_new w8 (L #[I O xa,I O xb] 117);clear b8;go_wp2_with fail;refine hK.out _ _ h8 (λ_=>?_);clear hK K;refine bP 8 λK hK=>?_
  simp only[bG];go_simp;refine hK.out _ _ (h9 _) (λ_=>?_);clear hK K;refine bP 9 λK hK=>?_
  simp only[bG];go_simp;refine hK.out _ _ (h9 _) (λ_=>?_);clear hK K;refine wpAnyH_done Ã ?_ _;replace h9:=h9 (L #[I O xa,I O xb] 117);generalize w8.alloc (L #[I O xa,I O xb] 117)=X at*;generalize w8.heap.size=kv at*
 case' c2=>
  simp only[bG,gd];go_simp;obtain⟨h8,hL⟩:=aa.late HG.out (I O 0) (I O 0) 117;have HL:=hid hL;clear hL;generalize V.alloc (L #[I O 0,I O 0] 117)=V1 at*;generalize V.heap.size=kv at*;refine hK.out _ _ h8 (λ_=>?_);clear hK K;refine bP 7 λK hK=>?_
  simp only[bG];go_simp;refine(aa.ra.ch.only _ _).mono ?_;rintro r w8⟨rfl,b8⟩;generalize pB (iC E (n:Int))=xb at*;generalize pA (iC E (n:Int))=xa at*;obtain⟨QU,AG,hf⟩:=HL.out w8 b8;obtain⟨h9,hv⟩:=hf (I O xa) (I O xb);obtain⟨q0,q1,oR,oP,_⟩:=aI AG;clear b8 hf AG;go_wp2_with fail;refine hK.out _ _ QU (λ_=>?_);clear hK K;refine bP 9 λK hK=>?_
  simp only[bG];go_simp;refine hK.out _ _ h9 (λ_=>?_);clear hK K;refine wpAnyH_done Ã ?_ _;generalize (w8.setCell ⟨kv,0,M⟩ (I O xa)).setCell ⟨kv,1,M⟩ (I O xb)=X at*
 all_goals
  have v0:=cell_of hv 0 (v:=I O xa) rfl;have v1:=cell_of hv 1 (v:=I O xb) rfl;obtain⟨m0,m1,jo,jH,mq⟩:=aI h9.res;have MQ:=hid (mq (I O xa) (I O xb));have HT:=hid (h9.ret (I O xa) (I O xb));clear h9 hv mq h8 aa;go_wp2_with fail;exact Ç (v:=φ #[J #[I O xa,I O xb],U true]) (by simp[results,results58,go_sem,MQ.1,MQ.2]) rfl ⟨xa,xb,true,rfl,by rw[HE.1];exact HT.1,HT.2,HE.2⟩
end
end RG
end
section
namespace RG
open Go.RowKit W
variable {E: Bool}
section
variable{F:jg}
variable{g cap vn vc k:Nat}
variable{ns:List aK}
variable{w W W':Wd}
theorem fO(w:Wd):Calls prog 28 #[] w λr w'=>r=υ (J #[U true,Z M 0 0])/\ω w w':=by go_enter func28,ntmps28;go_wp2_with fail;go_returns;exact⟨rfl,by go_grown⟩
theorem kX(k:Nat)(hk:k<6)(w:Wd):Calls prog 98 #[χ ⟨(aM k).toArray⟩] w λr w'=>r=υ (χ ⟨(aM (yZ k)).toArray⟩)/\w'=w:=by
 rcases(show k=0∨k=1∨k=2∨k=3∨k=4∨k=5 from À) with rfl|rfl|rfl|rfl|rfl|rfl
 all_goals
  simp only[aM,yZ];go_enter func98,ntmps98;go_wp2_with fail;go_ret;exact⟨rfl,rfl⟩
theorem Cq(k:Nat)(hk:k<6)(w:Wd):Calls prog 143 #[χ ⟨(aM k).toArray⟩] w λr w'=>r=υ (χ ⟨(aM (eh k)).toArray⟩)/\w'=w:=by
 rcases(show k=0∨k=1∨k=2∨k=3∨k=4∨k=5 from À) with rfl|rfl|rfl|rfl|rfl|rfl
 all_goals
  simp only[aM,eh];go_enter func143,ntmps143;go_wp2_with fail;go_ret;exact⟨rfl,rfl⟩
structure O0(C:Rc E)(F:jg)(g cap:Nat)(ns:List aK)(w:Wd)(k7 k9 xV kV:Nat)(n:Bool)(va:Option Addr)(vn vc:Nat)(x y:T)(W:Wd):Prop where
 ra:bE C F W
 look:dC C.pb g cap ns W
 s:W.heap[k7]?=Y (L #[U n,Z va vn vc] 56)
 x:W.heap[k9]?=Y (L #[I O (pA x),I O (pB x)] 117)
 y:W.heap[xV]?=Y (L #[I O (pA y),I O (pB y)] 117)
 r:W.heap[kV]?=Y (L #[U false,Z M 0 0] 56)
 b:ω w W
 l:w.heap.size<=kV
theorem O0.call{C:Rc E}{k7 k9 xV kV:Nat}{n:Bool}{va:Option Addr}{x y:T}(h:O0 C F g cap ns w k7 k9 xV kV n va vn vc x y W)(k:ω W W'):O0 C F g cap ns w k7 k9 xV kV n va vn vc x y W':=
 ⟨h.ra.call k,h.look.after k,(k.block _ (ah h.s)).trans h.s,(k.block _ (ah h.x)).trans h.x,(k.block _ (ah h.y)).trans h.y,(k.block _ (ah h.r)).trans h.r,h.b.trans (k.mono h.b.size),h.l⟩
def lW(w:Wd)(n:Bool)(va:Option Addr)(vn vc:Nat)(x y:T):Wd:=(((w.alloc (L #[U n,Z va vn vc] 56)).alloc (L #[I O (pA x),I O (pB x)] 117)).alloc (L #[I O (pA y),I O (pB y)] 117)).alloc (L #[U false,Z M 0 0] 56)
theorem Ex{C:Rc E}{w:Wd}(n:Bool)(va:Option Addr)(vn vc:Nat)(x y:T)(hR:bE C F w)(hL:dC C.pb g cap ns w):O0 C F g cap ns w w.heap.size (w.heap.size+1) (w.heap.size+1+1) (w.heap.size+1+1+1) n va vn vc x y (lW w n va vn vc x y):=by obtain⟨h1,h2,h3,h4,kb⟩:=cN (w:=w) (o1:=L #[U n,Z va vn vc] 56) (o2:=L #[I O (pA x),I O (pB x)] 117) (o3:=L #[I O (pA y),I O (pB y)] 117) (o4:=L #[U false,Z M 0 0] 56) Å;exact⟨hR.call kb,hL.after kb,h1,h2,h3,h4,kb,À⟩
theorem yR{C:Rc E}{d:aK}(hd:ns[k]?=Y d)(n:Bool)(va:Option Addr)(vn vc:Nat)(x y:T)(r:Nat)(hR:bE C F w)(hL:dC C.pb g cap ns w)(hr:r<6)(h:n=true∨d.kind≠2∨E=false/\r≠2) :
  Calls prog 142 #[ρ (Y ⟨C.b,0,M⟩),J #[U n,Z va vn vc],I O (k:Nat),J #[I O (pA x),I O (pB x)],χ ⟨(aM r).toArray⟩,J #[I O (pA y),I O (pB y)]] w λr w'=>r=υ (J #[U n,Z va vn vc])/\ω w w':=by
 have HH:=hid h;clear h;have HW:=Ex n va vn vc x y hR hL;obtain⟨W,hW⟩:∃W,lW w n va vn vc x y=W:=⟨_,rfl⟩;rw[hW]at HW;unfold lW at hW;have H:=hid HW;have HD:Hid (ns[k]?=Y d):=hd;obtain⟨sg,pz⟩:∃sg,Hid (sg=aM r):=⟨_,rfl⟩;rw[<-pz.out];have HR:=hid hr;clear hR hL hd HW hr;go_enter func142,ntmps142;go_upto_region 1 with fail;try rw[hW]
 obtain⟨k7,e7⟩:∃k,k=w.heap.size:=⟨_,rfl⟩;obtain⟨k9,e9⟩:∃k,k=w.heap.size+1:=⟨_,rfl⟩;obtain⟨xV,e11⟩:∃k,k=w.heap.size+1+1:=⟨_,rfl⟩;obtain⟨kV,e12⟩:∃k,k=w.heap.size+1+1+1:=⟨_,rfl⟩;rw[<-e12,<-e11,<-e9,<-e7];rw[<-e12,<-e11,<-e9,<-e7]at H;clear hW e7 e9 e11 e12;have m0:=cell_of H.ra.aV 0 (v:=ρ (Y ⟨C.pb,0,M⟩)) rfl;have c0:=H.look.slice;obtain⟨df,r0,r1,r2,r3,r4,r5,r6,r7,r8,r9⟩:=H.look.facts HD.out;have h1:=H.look.nH;have h2:=H.look.hmax;have h3:=H.look.hn;go_upto_region 2 with fail;have h9:=H.call (below_alloc1 W (L (oV d) 200));have hn:=heap_alloc_new W (L (oV d) 200);unfold oV at h9 hn;generalize W.alloc (L #[I O d.kind,I O d.a,I O d.b,I O d.c,I O d.n,I O d.next,χ ⟨d.sign.toArray⟩,I O d.site,I O d.aA,U d.els] 200)=X at*;generalize W.heap.size=kn at*;have n0:=cell_of hn 0 (v:=I O d.kind) rfl;have s0:=cell_of h9.s 0 (v:=U n) rfl;have s1:=cell_of h9.s 1 (v:=Z va vn vc) rfl;have H9:=hid h9;obtain⟨y0,y1,wE,wH,mq⟩:=aI h9.r;have MQ:=hid (mq (U n) (Z va vn vc));have HB:Hid (ω w _):=(h9.b.setCell (p:=⟨kV,0,M⟩) h9.l (U n)).setCell (p:=⟨kV,1,M⟩) h9.l (Z va vn vc);clear H m0 c0 r0 r1 r2 r3 r4 r5 r6 r7 r8 r9 h1 h2 h3 df h9 mq hn HD;cases n with
 |true=>go_wp2_with fail;exact Ç (v:=J #[U true,Z va vn vc]) (by simp[results,results142,go_sem,MQ.1,MQ.2]) rfl ⟨rfl,HB.out⟩
 |false=>
  by_cases kM:d.kind=2
  .obtain⟨hδ,pD⟩:E=false/\r≠2:=by simpa[kM] using HH.out
   rw[kM]at n0;have db:(sg==[61,61])=false:=by
    rw[pz.out]
    rcases(show r=0∨r=1∨r=3∨r=4∨r=5 from by have:=HR.out;omega) with rfl|rfl|rfl|rfl|rfl<;>rfl
   have u0:=cell_of H9.y 0 (v:=I O (pA y)) rfl;have u1:=cell_of H9.y 1 (v:=I O (pB y)) rfl;have gW:=H9.call (below_alloc1 X (L #[I O (pA y),I O (pB y)] 117));clear HH kM y0 y1 wE wH s1 HB MQ;go_upto_region 5 with fail;generalize X.alloc (L #[I O (pA y),I O (pB y)] 117)=κ at*;have m1:=gW.ra.cells.1;rw[show dn E=1 by rw[hδ];rfl]at m1;have s0:=cell_of gW.s 0 (v:=U false) rfl;have s1:=cell_of gW.s 1 (v:=Z va vn vc) rfl;obtain⟨y0,y1,wE,wH,mq⟩:=aI gW.r;have MQ:=hid (mq (U false) (Z va vn vc));have HB:Hid (ω w _):=(gW.b.setCell (p:=⟨kV,0,M⟩) gW.l (U false)).setCell (p:=⟨kV,1,M⟩) gW.l (Z va vn vc);clear gW hδ pD u0 u1 mq n0;generalize X.heap.size=kb at*;go_wp2_with fail;exact Ç (v:=J #[U false,Z va vn vc]) (by simp[results,results142,go_sem,MQ.1,MQ.2]) rfl ⟨rfl,HB.out⟩
  .generalize d.kind=q at*
   clear HH;go_wp2_with fail;exact Ç (v:=J #[U false,Z va vn vc]) (by simp[results,results142,go_sem,MQ.1,MQ.2]) rfl ⟨rfl,HB.out⟩
end
end RG
end
section
namespace RG
open Go.RowKit W
variable {E: Bool}
section
variable{V w W W':Wd}
variable{v a b sv:Value}
variable{s:dT}
variable{k g cap n lo:Nat}
variable{F:jg}
variable{ns:List aK}
theorem Nw{S:Wd->Prop}(hS:S V)(call:∀W W',S W->ω W W'->S W')(u v:Value)(ty:TypeId):S (V.alloc (L #[u,v] ty))/\∀w8,Below (V.alloc (L #[u,v] ty)).heap.size (V.alloc (L #[u,v] ty)) w8->S w8/\w8.heap[V.heap.size]?=Y (L #[u,v] ty)/\∀a b,S ((w8.setCell ⟨V.heap.size,0,M⟩ a).setCell ⟨V.heap.size,1,M⟩ b)/\((w8.setCell ⟨V.heap.size,0,M⟩ a).setCell ⟨V.heap.size,1,M⟩ b).heap[V.heap.size]?=Y (L #[a,b] ty):=by have ba:=below_alloc1 V (L #[u,v] ty);have hn:=heap_alloc_new V (L #[u,v] ty);refine⟨call _ _ hS ba,λw8 b8=>?_⟩;have AG:=(b8.block _ (ah hn)).trans hn;have bb:=ba.trans (b8.mono ba.size);exact⟨call _ _ hS bb,AG,λa b=>⟨call _ _ hS (JD AG bb È a b).1,(JD AG bb È a b).2⟩⟩
def uQ(G:aw E)(side:Sm)(r:Nat)(y:T)(s:dT):dT:=sd (Dm G) side r y s
theorem VY(G:aw E)(n:Nat)(hm:n<8)(r:Nat)(hr:r<6)(e:di)(he:∀k,Wv E (e k)){x y:T}(wy:Wv E y)(hc:E=true->e ⟨n,hm⟩=x∨r≠3∨y.a≠y.b)(h2:E=true∨r=2):uQ G (.name n) r y (Y e)=(ly E (e ⟨n,hm⟩) (ÿ E r x y)).map (qM e n):=by
 have q:iP E r (e ⟨n,hm⟩) y=ly E (e ⟨n,hm⟩) (ÿ E r x y):=by
  cases E
  .rcases h2 with h|rfl
   .cases h
   .rfl
  .exact VV r hr (he _) wy (hc rfl)
 have q2:(Dm G).bound r (pV (Dm G) e n) y=iP E r (e ⟨n,hm⟩) y:=Ë (λv=>iP E r v y) (dif_pos hm);rw[<-q];cases hv:iP E r (e ⟨n,hm⟩) y with
 |some v=>exact sT (Dm G) n r y e v (q2.trans hv)
 |none=>exact y5 (Dm G) n r y e (q2.trans hv)
theorem RQ(G:aw E)(n:Nat)(hm:n<8)(r:Nat)(e:di)(he:∀k,Wv E (e k))(y:T)(h:E=false/\r≠2):uQ G (.name n) r y (Y e)=Y e:=by
 have q2:(Dm G).bound r (pV (Dm G) e n) y=Y (e ⟨n,hm⟩):=by refine(Ë (λv=>iP E r v y) (dif_pos hm)).trans ?_;obtain⟨rfl,h⟩:=h;show(mg r (mz (e ⟨n,hm⟩)) (mz y)).map vR=Y (e ⟨n,hm⟩);unfold mg;rw[Â h];exact Ë Y (qE (he _).1)
 refine(sT (Dm G) n r y e _ q2).trans (Ë Y (funext λj=>?_));show(if j.val=n then e ⟨n,hm⟩ else e j)=e j;split
 .rename_i h;subst h;rfl
 .rfl
theorem dL.other(h:dL w v s){c:Array Value}(hk:Bk w k c 56)(i:Nat)(u:Value):dL (w.setCell ⟨k,i,M⟩ u) v s:=by
 cases s with
 |none=>exact h
 |some e=>obtain⟨g,h1,h2⟩:=h;refine⟨g,h1,?_⟩;rw[Æ _ _ _ _ (λq:g=k=>by rw[q,hk]at h2;cases h2)];exact h2
theorem dL.put(h:dL w v s)(hk:Bk w k #[a,b] 56)(u1 u2:Value):dL ((w.setCell ⟨k,0,M⟩ u1).setCell ⟨k,1,M⟩ u2) v s:=
 (h.other hk 0 u1).other (ai hk 0 u1) 1 u2
structure uW(C:Rc E)(F:jg)(g cap:Nat)(ns:List aK)(w:Wd)(k7 k9 xV kV kn ge:Nat)(e:di)(n:Nat)(x y:T)(W:Wd):Prop where
 ls:O0 C F g cap ns w k7 k9 xV kV false (Y ⟨ge,0,M⟩) 8 8 x y W
 nd:∃c,W.heap[kn]?=Y (L c 200)/\c[4]?=Y (I O (n:Int))
 env:W.heap[ge]?=Y (L (gi e) 117)
theorem uW.call{C:Rc E}{k7 k9 xV kV kn ge:Nat}{e:di}{x y:T}(h:uW C F g cap ns w k7 k9 xV kV kn ge e n x y W)(k:ω W W'):uW C F g cap ns w k7 k9 xV kV kn ge e n x y W':=by obtain⟨c,h1,h2⟩:=h.nd;exact⟨h.ls.call k,⟨c,(k.block _ (ah h1)).trans h1,h2⟩,(k.block _ (ah h.env)).trans h.env⟩
theorem Fu(G:aw E){C:Rc E}{n:Nat}{d:aK}(hd:ns[k]?=Y d)(hk:d.kind=2)(hn:d.n=(n:Int))(hm:n<8)(e:di)(he:∀k,Wv E (e k))(ge:Nat){x y:T}(wx:Wv E x)(wy:Wv E y)(r:Nat)(hr:r<6)(hR:bE C F w)(hL:dC C.pb g cap ns w)(nN:Bk w ge (gi e) 117)(hc:E=true->e ⟨n,hm⟩=x∨r≠3∨y.a≠y.b)(h2:E=true∨r=2) :
  Calls prog 142 #[ρ (Y ⟨C.b,0,M⟩),J #[U false,Z (Y ⟨ge,0,M⟩) 8 8],I O (k:Nat),J #[I O (pA x),I O (pB x)],χ ⟨(aM r).toArray⟩,J #[I O (pA y),I O (pB y)]] w λq w'=>∃v,q=υ v/\dL w' v (uQ G (.name n) r y (Y e))/\ω w w':=by
 obtain⟨z,hz⟩:∃z,z=e ⟨n,hm⟩:=⟨_,rfl⟩;obtain⟨t,ht⟩:∃t,t=ÿ E r x y:=⟨_,rfl⟩;obtain⟨u,hu⟩:∃u,u=TH E z t:=⟨_,rfl⟩;have EB:Hid (uQ G (.name n) r y (Y e)=(ly E z t).map (qM e n)):=by unfold Hid;rw[hz,ht];exact VY G n hm r hr e he wy hc h2
 have UI:Hid (E=true->∀w:Wd,Calls prog 175 #[J #[I O (pA x),I O (pB x)],χ ⟨(aM r).toArray⟩,J #[I O (pA y),I O (pB y)]] w λe w'=>e=υ (J #[I O (pA t),I O (pB t)])/\ω w w'):=λh w=>by rw[show t=kH r x y by rw[ht,h];rfl];exact hR.ch.bound h r hr wx wy w
 have hmt:=λw:Wd=>hR.ch.meet (x:=z) (y:=t) (by rw[hz];exact he _) (by rw[ht];cases E;exact .inr wy;exact .inl rfl) w
 rw[<-hu]at hmt;obtain⟨ok,rH⟩:∃ok,(ly E z t).isSome=ok:=⟨_,rfl⟩;rw[rH]at hmt;have HMT:=hid hmt;have ub:Hid ((ly E z t).isSome=ok/\u=TH E z t):=⟨rH,hu⟩;have HTY:Hid (E=false->t=y/\aM r=[61,61]):=λh=>by
  rw[ht,h];refine⟨rfl,?_⟩
  rcases h2 with h2|rfl
  .rw[h]at h2;cases h2
  .rfl
 clear hu hmt rH h2;have HZ:=hid hz;have MU:=hid nN;clear hz ht hc wx wy he nN hr;have HK:Hid (d.kind=2/\d.n=(n:Int)):=⟨hk,hn⟩;obtain⟨J2,HJ⟩:∃J2,Hid (J2=n*2):=⟨_,rfl⟩;have hmi:((n:Nat):Int)<8:=À;clear hk hn;have HW:=Ex false (Y ⟨ge,0,M⟩) 8 8 x y hR hL;obtain⟨W,hW⟩:∃W,lW w false (Y ⟨ge,0,M⟩) 8 8 x y=W:=⟨_,rfl⟩;rw[hW]at HW;unfold lW at hW;have H:=hid HW;have HD:Hid (ns[k]?=Y d):=hd;generalize aM r=sg at*;clear hR hL hd HW;go_enter func142,ntmps142;go_upto_region 1 with fail;try rw[hW]
 obtain⟨k7,e7⟩:∃k,k=w.heap.size:=⟨_,rfl⟩;obtain⟨k9,e9⟩:∃k,k=w.heap.size+1:=⟨_,rfl⟩;obtain⟨xV,e11⟩:∃k,k=w.heap.size+1+1:=⟨_,rfl⟩;obtain⟨kV,e12⟩:∃k,k=w.heap.size+1+1+1:=⟨_,rfl⟩;rw[<-e12,<-e11,<-e9,<-e7];rw[<-e12,<-e11,<-e9,<-e7]at H;clear hW e7 e9 e11 e12;have m0:=cell_of H.ra.aV 0 (v:=ρ (Y ⟨C.pb,0,M⟩)) rfl;have c0:=H.look.slice;obtain⟨df,r0,r1,r2,r3,r4,r5,r6,r7,r8,r9⟩:=H.look.facts HD.out;have h1:=H.look.nH;have h2:=H.look.hmax;have h3:=H.look.hn;rw[HK.1]at r0;rw[HK.2]at r4;go_upto_region 2 with fail;have h9:=H.call (below_alloc1 W (L (oV d) 200));have hn:=heap_alloc_new W (L (oV d) 200);have HGX:Hid (_=_):=((H.b.trans ((below_alloc1 W (L (oV d) 200)).mono H.b.size)).block _ (ah MU.out)).trans MU.out;unfold oV at h9 hn HGX;rw[HK.1,HK.2]at h9 hn HGX;generalize W.alloc (L #[I O 2,I O d.a,I O d.b,I O d.c,I O (n:Int),I O d.next,χ ⟨d.sign.toArray⟩,I O d.site,I O d.aA,U d.els] 200)=X at*;generalize W.heap.size=kn at*;have n0:=cell_of hn 0 (v:=I O 2) rfl;have s0:=cell_of h9.s 0 (v:=U false) rfl;have x0:=cell_of h9.x 0 (v:=I O (pA x)) rfl;have x1:=cell_of h9.x 1 (v:=I O (pB x)) rfl;have y0:=cell_of h9.y 0 (v:=I O (pA y)) rfl;have y1:=cell_of h9.y 1 (v:=I O (pB y)) rfl;have hX:uW C F g cap ns w k7 k9 xV kV kn ge e n x y X:=⟨h9,⟨_,hn,rfl⟩,HGX.out⟩;have hL:=Nw hX (λ_ _ h k=>h.call k) (I O (pA y)) (I O (pB y)) 117;have QH:=hid hL;have HKB:Hid (_=_):=heap_alloc_new X (L #[I O (pA y),I O (pB y)] 117);clear H m0 c0 r0 r1 r2 r3 r4 r5 r6 r7 r8 r9 h1 h2 h3 df hn HD h9 HGX hL;go_upto_region 5 with fail;generalize X.alloc (L #[I O (pA y),I O (pB y)] 117)=κ at*;generalize X.heap.size=kb at*;clear x0 x1 y0 y1 n0 s0 hX;have hA:=QH.1.ls;have x0:=cell_of hA.x 0 (v:=I O (pA x)) rfl;have x1:=cell_of hA.x 1 (v:=I O (pB x)) rfl;have y0:=cell_of hA.y 0 (v:=I O (pA y)) rfl;have y1:=cell_of hA.y 1 (v:=I O (pB y)) rfl;have m1:=hA.ra.cells.1;clear hA;go_upto_if 41 with fail
 go_cut [] from 40 to 49 (λwc=>Hid (uW C F g cap ns w k7 k9 xV kV kn ge e n x y wc/\wc.heap[kb]?=Y (L #[I O (pA t),I O (pB t)] 117)))
 case first=>
  clear HMT EB ub
  rcases JV E with⟨hδ,q1,_⟩|⟨hδ,q1,_⟩
  .rw[q1]
   clear q1;go_wp2_with fail;refine(UI.out hδ _).mono ?_;rintro q w6⟨rfl,b6⟩;obtain⟨_,aax,hf6⟩:=QH.2 w6 b6;obtain⟨h7,hkb⟩:=hf6 (I O (pA t)) (I O (pB t));obtain⟨q0,q1,oR,oP,_⟩:=aI aax;have H7:=hid (And.intro h7 hkb);clear QH b6 hf6 aax h7 hkb x0 x1 y0 y1 m1;go_wp2_with fail;go_meet;exact H7
  .rw[q1]
   obtain⟨et,es⟩:=HTY.out hδ;have H7:Hid (uW C F g cap ns w k7 k9 xV kV kn ge e n x y κ/\κ.heap[kb]?=Y (L #[I O (pA t),I O (pB t)] 117)):=And.intro QH.1 (by rw[et];exact HKB.out);subst es;clear QH q1 et;go_wp2_with fail;go_meet;exact H7
 case rest=>
  have H7:=hcut;clear QH x0 x1 y0 y1 m1 UI HTY HKB hcut;generalize wc=W7 at*;go_upto_region 9 with fail;have hS:uW C F g cap ns w k7 k9 xV kV kn ge e n x y W7.drew/\W7.drew.heap[kb]?=Y (L #[I O (pA t),I O (pB t)] 117):=⟨H7.1.call (Å).drew,H7.2⟩;have xR:Hid (∀W:Wd,uW C F g cap ns w k7 k9 xV kV kn ge e n x y W->W.cell? ⟨ge,J2,M⟩=Y (I O (pA z))/\W.cell? ⟨ge,J2+1,M⟩=Y (I O (pB z))):=λW h=>by obtain⟨a1,a2⟩:=mi e n hm;rw[HJ.out,HZ.out];exact⟨cell_of h.env _ a1,cell_of h.env _ a2⟩
  refine wp_region_held_drew (S:=λw':Wd=>uW C F g cap ns w k7 k9 xV kV kn ge e n x y w'/\w'.heap[kb]?=Y (L #[I O (pA t),I O (pB t)] 117)) Ã hS (λaa=>?_);clear hS H7;generalize W7.drew=V at*;refine tq 0 (ρ (Y ⟨C.b,0,M⟩)) aa ?_;refine tq 1 (ρ (Y ⟨C.b,0,M⟩)) aa ?_;refine tq 2 (ρ (Y ⟨C.b,1,M⟩)) aa ?_;refine tq 3 (ρ (Y ⟨C.b,1,M⟩)) aa ?_;refine tk 4 (I O (dn E)) rfl (λw' h=>by have q:=h.1.ls.ra.cells.1;go_simp) aa ?_;refine tq 5 (ρ (Y ⟨k7,1,M⟩)) aa ?_;refine tk 6 (Z (Y ⟨ge,0,M⟩) 8 8) rfl (λw' h=>by have q:=cell_of h.1.ls.s 1 (v:=Z (Y ⟨ge,0,M⟩) 8 8) rfl;go_simp) aa ?_;refine tq 7 (ρ (Y ⟨kn,4,M⟩)) aa ?_;refine tk 8 (I O (n:Int)) rfl (λw' h=>by obtain⟨c,q1,q2⟩:=h.1.nd;have q:=cell_of q1 4 q2;go_simp) aa ?_;refine tk 9 (ρ (Y ⟨ge,J2,M⟩)) rfl (λw' h=>by rw[HJ.out];go_simp) aa ?_;refine tk 10 (J #[I O (pA z),I O (pB z)]) rfl (λw' h=>by have q:=(xR.out _ h.1).1;have q2:=(xR.out _ h.1).2;go_simp) aa ?_;refine tk 11 (J #[I O (pA t),I O (pB t)]) rfl (λw' h=>by have q:=cell_of h.2 0 (v:=I O (pA t)) rfl;have q2:=cell_of h.2 1 (v:=I O (pB t)) rfl;go_simp) aa ?_;refine zZ 12 16 (λK hK=>?c1) (λK hK=>?c2)
  case' c1 =>
    simp only[bG,gd];go_simp;refine(HMT.out _).mono ?_;rintro q w8⟨rfl,b8⟩;have hC:∀W W':Wd,(uW C F g cap ns w k7 k9 xV kV kn ge e n x y W/\W.heap[kb]?=Y (L #[I O (pA t),I O (pB t)] 117))->ω W W'->uW C F g cap ns w k7 k9 xV kV kn ge e n x y W'/\W'.heap[kb]?=Y (L #[I O (pA t),I O (pB t)] 117):=λW W' h k=>⟨h.1.call k,(k.block _ (ah h.2)).trans h.2⟩
    have h8:=hC _ _ aa b8;have h9:∀o,uW C F g cap ns w k7 k9 xV kV kn ge e n x y (w8.alloc o)/\(w8.alloc o).heap[kb]?=Y (L #[I O (pA t),I O (pB t)] 117):=λo=>hC _ _ aa (b8.alloc b8.size o)
    have hv:=heap_alloc_new w8 (L #[I O (pA u),I O (pB u)] 117);clear b8 hC;go_wp2_with fail;refine hK.out _ _ h8 (λ_=>?_);clear hK K;refine tk 13 (φ #[J #[I O (pA u),I O (pB u)],U ok]) rfl (λw' h=>by go_simp) h8 ?_;refine tk 14 (J #[I O (pA u),I O (pB u)]) rfl (λw' h=>by go_simp) h8 ?_;refine tk 15 (U ok) rfl (λw' h=>by go_simp) h8 ?_;refine bP 16 λK hK=>?_
    simp only[bG,gd];go_simp;refine hK.out _ _ (h9 _) (λ_=>?_);clear hK K;refine bP 17 λK hK=>?_
    simp only[bG];go_simp;refine hK.out _ _ (h9 _) (λ_=>?_);clear hK K;refine bP 18 λK hK=>?_
    simp only[bG];go_simp;refine hK.out _ _ (h9 _) (λ_=>?_);clear hK K;refine wpAnyH_done Ã ?_ _;replace h9:=(h9 (L #[I O (pA u),I O (pB u)] 117)).1;generalize w8.alloc (L #[I O (pA u),I O (pB u)] 117)=X8 at*;generalize w8.heap.size=kv at*
  case' c2 =>
    simp only[bG,gd];go_simp;obtain⟨h8,hL⟩:=Nw (S:=λW:Wd=>uW C F g cap ns w k7 k9 xV kV kn ge e n x y W/\W.heap[kb]?=Y (L #[I O (pA t),I O (pB t)] 117)) aa (λW W' h k=>⟨h.1.call k,(k.block _ (ah h.2)).trans h.2⟩) (I O 0) (I O 0) 117;have HL:=hid hL;clear hL;generalize V.alloc (L #[I O 0,I O 0] 117)=V1 at*;generalize V.heap.size=kv at*;refine hK.out _ _ h8 (λ_=>?_);clear hK K;refine bP 12 λK hK=>?_
    simp only[bG];go_simp;refine(HMT.out _).mono ?_;rintro q w8⟨rfl,b8⟩;obtain⟨QU,AG,hf⟩:=HL.out w8 b8;obtain⟨h9,hv⟩:=hf (I O (pA u)) (I O (pB u));obtain⟨q0,q1,oR,oP,_⟩:=aI AG;clear b8 hf AG;go_wp2_with fail;refine hK.out _ _ QU (λ_=>?_);clear hK K;refine tk 13 (φ #[J #[I O (pA u),I O (pB u)],U ok]) rfl (λw' h=>by go_simp) QU ?_;refine tk 14 (J #[I O (pA u),I O (pB u)]) rfl (λw' h=>by go_simp) QU ?_;refine tk 15 (U ok) rfl (λw' h=>by go_simp) QU ?_;refine bP 17 λK hK=>?_
    simp only[bG,gd];go_simp;refine hK.out _ _ h9 (λ_=>?_);clear hK K;refine bP 18 λK hK=>?_
    simp only[bG];go_simp;refine hK.out _ _ h9 (λ_=>?_);clear hK K;refine wpAnyH_done Ã ?_ _;generalize (w8.setCell ⟨kv,0,M⟩ (I O (pA u))).setCell ⟨kv,1,M⟩ (I O (pB u))=X8 at*;replace h9:=h9.1
  all_goals
   clear aa h8 HMT xR;cases ok with
   |true=>
    have Ws:Hid (uQ G (.name n) r y (Y e)=Y (qM e n u)):=by unfold Hid;rw[EB.out,O6 ub.1,<-ub.2];rfl
    have TX:=hid (oJ ge e n hm u X8 h9.env);have s0:=cell_of h9.ls.s 0 (v:=U false) rfl;have s1:=cell_of h9.ls.s 1 (v:=Z (Y ⟨ge,0,M⟩) 8 8) rfl;obtain⟨c,qn1,qn2⟩:=h9.nd;have n4:=cell_of qn1 4 qn2;have v0:=cell_of hv 0 (v:=I O (pA u)) rfl;have v1:=cell_of hv 1 (v:=I O (pB u)) rfl;have H9:=hid h9;clear h9 hv qn1 qn2 EB ub;go_wp2_with fail;refine TX.mono ?_;rintro q wf⟨v,rfl,hv,bv⟩;obtain⟨a',n',c',rfl⟩:=hv.form;have gW:=H9.call bv;obtain⟨y0,y1,wE,wH,mq⟩:=aI gW.ls.r;have MQ:=hid (mq (U false) (Z a' n' c'));have HT:=hid (And.intro (hv.put gW.ls.r (U false) (Z a' n' c')) ((gW.ls.b.setCell (p:=⟨kV,0,M⟩) gW.ls.l (U false)).setCell (p:=⟨kV,1,M⟩) gW.ls.l (Z a' n' c')));simp only[Option.isNone_some]at HT⊢;clear mq gW hv bv H9 TX;go_wp2_with fail;exact Ç (v:=J #[U false,Z a' n' c']) (by simp[results,results142,go_sem,MQ.1,MQ.2]) rfl ⟨_,rfl,by rw[Ws.out];exact HT.1,HT.2⟩
   |false=>
    have Ws:Hid (uQ G (.name n) r y (Y e)=M):=by
     unfold Hid;rw[EB.out];have q:=ub.1;cases hq:ly E z t with
     |none=>rfl
     |some v=>rw[hq]at q;cases q
    have H9:=hid h9;clear h9 hv EB ub;go_wp2_with fail;refine(fO _).mono ?_;rintro q wf⟨rfl,bv⟩;have gW:=H9.call bv;obtain⟨y0,y1,wE,wH,mq⟩:=aI gW.ls.r;have MQ:=hid (mq (U true) (Z M 0 0));have HT:Hid (ω w _):=(gW.ls.b.setCell (p:=⟨kV,0,M⟩) gW.ls.l (U true)).setCell (p:=⟨kV,1,M⟩) gW.ls.l (Z M 0 0);clear mq gW bv H9;go_wp2_with fail;exact Ç (v:=J #[U true,Z M 0 0]) (by simp[results,results142,go_sem,MQ.1,MQ.2]) rfl ⟨_,rfl,by rw[Ws.out];rfl,HT.out⟩
theorem td(G:aw E){C:Rc E}{side:Sm}{ct bj:Ct}(hs:rF ns lo side k ct bj){x y:T}(wx:Wv E x)(wy:Wv E y)(r:Nat)(hr:r<6)(hR:bE C F w)(hL:dC C.pb g cap ns w)(hS:dL w sv s)(hw:eR E s)(hc:E=true->∀n (hm:n<8) e,side=.name n->s=Y e->e ⟨n,hm⟩=x∨r≠3∨y.a≠y.b) :
  Calls prog 142 #[ρ (Y ⟨C.b,0,M⟩),sv,I O (k:Nat),J #[I O (pA x),I O (pB x)],χ ⟨(aM r).toArray⟩,J #[I O (pA y),I O (pB y)]] w λq w'=>∃v,q=υ v/\dL w' v (uQ G side r y s)/\ω w w':=by
 cases s with
 |none=>
  obtain rfl:sv=_:=hS;obtain⟨d,hd⟩:∃d,ns[k]?=Y d:=by
   cases side with
   |num n=>exact⟨_,hs.choose_spec.1⟩
   |name n=>exact⟨_,hs.choose_spec.1⟩
   |neg x=>obtain⟨d,a,h,_⟩:=hs;exact⟨d,h⟩
   |bin op x y=>obtain⟨d,a,b,c,h,_⟩:=hs;exact⟨d,h⟩
  exact(yR hd true M 0 0 x y r hR hL hr (.inl rfl)).mono λq w' ⟨h1,h2⟩=>⟨_,h1,rfl,h2⟩
 |some e=>
  obtain⟨ge,rfl,nN⟩:=hS;have off:∀d,ns[k]?=Y d->(d.kind≠2∨E=false/\r≠2)->uQ G side r y (Y e)=Y e->Calls prog 142 #[ρ (Y ⟨C.b,0,M⟩),J #[U false,Z (Y ⟨ge,0,M⟩) 8 8],I O (k:Nat),J #[I O (pA x),I O (pB x)],χ ⟨(aM r).toArray⟩,J #[I O (pA y),I O (pB y)]] w λq w'=>∃v,q=υ v/\dL w' v (uQ G side r y (Y e))/\ω w w':=λd h1 h2 h3=>
   (yR h1 false (Y ⟨ge,0,M⟩) 8 8 x y r hR hL hr (.inr h2)).mono λq w' ⟨e1,e2⟩=>⟨_,e1,by rw[h3];exact⟨ge,rfl,(e2.block _ (ah nN)).trans nN⟩,e2⟩
  cases side with
  |num n=>obtain⟨d,h1,h2,_⟩:=hs;exact off d h1 (.inl À) rfl
  |name n=>
   obtain⟨d,h1,h2,h3,h4,_⟩:=hs;by_cases hn:E=false/\r≠2
   .exact off d h1 (.inr hn) (RQ G n h4 r e (hw e rfl) y hn)
   .exact Fu G h1 h2 h3 h4 e (hw e rfl) ge wx wy r hr hR hL nN (λh=>hc h n h4 e rfl rfl) (by cases E;exact .inr (by simpa using hn);exact .inl rfl)
  |neg x=>obtain⟨d,a,h1,h2,_⟩:=hs;exact off d h1 (.inl À) rfl
  |bin op x y=>obtain⟨d,a,b,c,h1,h2,_⟩:=hs;exact off d h1 (.inl À) rfl
end
end RG
end
end Go.Proofs.YtiopfihjmkfdmabGreatDoor
