import Derived.Test.YtiopfihjmkfdmabGreatDoorC42
import Derived.Test.YtiopfihjmkfdmabGreatDoorC47
namespace Go.Proofs.YtiopfihjmkfdmabGreatDoor
open Go.Value renaming int->I,agg->J,iface->σ,slice->Z,bool->U
open Go.IntKind renaming i64->O
open Option renaming some->Y,none->M
open Go.Obj renaming cells->L
open Go.Ending renaming returned->υ
open Go.Proofs.Tryz Sp
open Go.RowKit
set_option maxRecDepth 100000
set_option maxHeartbeats 16000000
section
namespace W
variable {E: Bool}{G: aw E}
theorem ze{vl vr:Value}{k:Nat}{x y:Sp.Sm}{ct:Sp.Ct}(h:Ha G vl vr k x y ct){C:Cx}{G:aw E}{T:fS}{F:Fd}{b:Bool}{s:ST}(hs:Sp.Wf (Kr G) s)(hr:dk b F (Sp.dK (Dm G) k x y ct s).1) :
  xL C G T F b k vl vr s (Sp.dK (Dm G) k x y ct s).1 (Sp.dK (Dm G) k x y ct s).2.1 (Sp.dK (Dm G) k x y ct s).2.2:=λW hW=>h C G T F b W s hW hs hr
theorem dk.U5{G:aw E}{b:Bool}{F:Fd}{es es' ZI:List cE}(h:dk b F (es++es'++ZI)):dk b (W.told G b (W.told G b F es) es') ZI:=by rw[<-aH];exact h.right
theorem vf(ct:Int×Int)(lo hi:Nat)(w:Wd)(k:Nat)(v:Value)(x:Sp.Sm)(bj:Int×Int)(hk:k<8)(h:(AB E).S (aD ct) v x bj):LL E ct lo hi w (σ 276 (J #[I O ct.1,I O (k:Nat),v])) (Sp.Bl.assign k x) bj:=by
 obtain⟨⟨t,u,rfl⟩,hs,_,ok,he⟩:=h;refine⟨⟨_,_,rfl,KS _ _ _⟩,λG P e=>pF (Dm G) k x (Sp.aD ct) e,?_,?_,?_,?_,?_,?_⟩
 .intro rest;rw[<-he];rfl
 .intro rest hr;exact bX ok hr
 .intro G P rest s;rw[<-he];rfl
 .intro G P e qT;exact Il (K:=Kr G) ok _ e qT
 .intro G P T rest hl;rw[<-he];exact⟨trivial,hl⟩
 .intro C G T F b W e Gc F1 _ _ _ ha qT hr
  exact pN (.assign ct.1 k t u) C G T F b W e _ _ ha (λW' wF Kz=>ot ct.1 k hk t u C G T F b W' e _ _ Kz (λW2 h2=>hs C G T F b W2 e h2 qT hr) _ rfl)
theorem Dg(ct:Int×Int)(lo hi:Nat)(w:Wd)(k:Nat)(hk:k<8):LL E ct lo hi w (σ 279 (J #[I O ct.1,I O (k:Nat)])) (Sp.Bl.read k) (aD ct):=by
 refine⟨⟨_,_,rfl,RU _ _⟩,λG P e=>Pf (Dm G) k e,?_,?_,?_,?_,?_,?_⟩
 .intro rest;rfl
 .intro rest hr;exact hr
 .intro G P rest s;rfl
 .intro G P e qT;exact Sp.Wf.some (Sp.wf_set qT k (Kr G).wwhole)
 .intro G P T rest hl;exact⟨trivial,hl⟩
 .intro C G T F b W e Gc F1 _ _ _ ha qT hr
  exact L1 ct.1 k hk C G T F b W e ha
theorem vd(ct:Int×Int)(lo hi:Nat)(w:Wd)(k:Nat)(v:Value)(x:Sp.Sm)(ct1:Int×Int)(u:Value)(y:Sp.Sm)(ct2:Int×Int)(hk:k<6)(h:(AB E).S (aL (aD ct)) v x ct1)(h':(AB E).S ct1 u y ct2):LL E ct lo hi w (σ 284 (J #[I O ct.1,I O ct.2,I O (k:Nat),v,u])) (Sp.Bl.assert k x y) ct2:=by
 obtain⟨⟨tl,ul,rfl⟩,hs,sx,I9,rfl⟩:=h;obtain⟨⟨tr,ur,rfl⟩,dq,sy,Jb,rfl⟩:=h';have hc:=xH k hk tl ul tr ur x y _ I9 Jb sx sy hs dq;refine⟨⟨_,_,rfl,LW _ _ _ _ _⟩,λG P e=>Ef (Dm G) ct.2 k x y (Sp.aL (Sp.aD ct)) e,?_,?_,?_,?_,?_,?_⟩
 .intro rest;rfl
 .intro rest hr;exact bX (bX I9 Jb) hr
 .intro G P rest s;rfl
 .intro G P e qT;exact(mw (K:=Kr G) I9 Jb (Sp.Wf.some qT)).1
 .intro G P T rest hl;exact⟨trivial,hl⟩
 .intro C G T F b W e Gc F1 _ _ _ ha qT hr
  have Ks:dk b F ((Sp.dK (Dm G) k x y (Sp.aL (Sp.aD ct)) (Y e)).1++[fG.site ct.2 (Sp.dK (Dm G) k x y (Sp.aL (Sp.aD ct)) (Y e)).2.2.isSome]):=hr;exact pN (.assert ct.1 ct.2 k tl ul tr ur) C G T F b W e _ _ ha (λW' wF Kz=>ow ct.1 ct.2 k tl ul tr ur C G T F b W' e _ _ _ Kz (ze hc (Sp.Wf.some qT) Ks.left) Ks.right)
theorem C2(ct:Int × Int)(lo hi:Nat)(w:Wd)(k:Nat)(v:Value)(x:Sp.Sm)(ct1:Int × Int)(u:Value)(y:Sp.Sm)(ct2:Int × Int)(bv:Value)(xs:List (Sp.Bl->Sp.Bl))(nL:Int × Int)(hk:k<6)(h:(AB E).S (aD ct) v x ct1)(h':(AB E).S ct1 u y ct2)(hb:oq (LL E) ct2 lo hi w bv xs nL) :
  LL E ct lo hi w (σ 287 (J #[I O ct.1,I O (k:Nat),v,u,bv,Z M 0 0,U false])) (Sp.Bl.ite k x y (aO xs) false .nil) nL:=by
 obtain⟨⟨tl,ul,rfl⟩,hs,sx,I9,rfl⟩:=h;obtain⟨⟨tr,ur,rfl⟩,dq,sy,Jb,rfl⟩:=h';obtain⟨av,nv,cv,rfl⟩:=eH hb;have B:=uK hb;have hc:=xH k hk tl ul tr ur x y _ I9 Jb sx sy hs dq;have zM:∀G:aw E,gB (Kr G) (Sp.dK (Dm G) k x y (Sp.aD ct)):=λG s hs=>mw I9 Jb hs
 have vm:∀(G:aw E) P,fJ (Kr G) (Sp.cJ (Dm G) P (aO xs) (Sp.cS y (Sp.cS x (Sp.aD ct)))):=λG P s hs=>gH P _ B.ok _ s hs
 refine⟨⟨_,_,rfl,TS _ _ _ _ _ _ _⟩,λG P e=>yr (Dm G) (Sp.dK (Dm G) k x y (Sp.aD ct)) (Sp.cJ (Dm G) P (aO xs) (Sp.cS y (Sp.cS x (Sp.aD ct)))) (λs=>([],s)) e,?_,?_,?_,?_,?_,?_⟩
 .intro rest;rw[<-B.cb];rfl
 .intro rest hr
  intro n hn;have:n∈tX x++tX y++jb (aO xs)++[]++jb rest:=hn;exact bX (bX (bX (bX I9 Jb) B.ok) (λn h=>by cases h)) hr n this
 .intro G P rest s;rw[<-B.cb];rfl
 .intro G P e qT;exact NT (K:=Kr G) (zM G) (vm G P) (λs hs=>hs) e qT
 .intro G P T rest hl;rw[<-B.cb];exact⟨⟨hl.1,trivial⟩,hl.2⟩
 .intro C G T F b W e Gc F1 zI zJ QJ ha qT hr
  have wc:=zM G (Y e) (Sp.Wf.some qT);have Ks:dk b F ((Sp.dK (Dm G) k x y (Sp.aD ct) (Y e)).1++(Sp.cJ (Dm G) C.iL (aO xs) (Sp.cS y (Sp.cS x (Sp.aD ct))) (Sp.dK (Dm G) k x y (Sp.aD ct) (Y e)).2.1).1++[]):=hr;exact pN (.ite ct.1 k tl ul tr ur av nv cv M 0 0 false) C G T F b W e _ _ ha (λW' wF Kz=>kB ct.1 k tl ul tr ur av nv cv M 0 0 false C G T F b W' e _ _ [] _ _ _ _ _ Kz (ze hc (Sp.Wf.some qT) Ks.left.left)
   (λW2 kM QA=>B.calls C G T b W Gc F1 zI zJ QJ.1 _ W2 _ (wF.trans kM) QA wc.1 Ks.left.right)
   (λW2 kM QA=>Bg C G T _ b W2 _ QA) (vm G C.iL _ wc.1) wc.2 rfl)
theorem Hy(ct:Int × Int)(lo hi:Nat)(w:Wd)(k:Nat)(v:Value)(x:Sp.Sm)(ct1:Int × Int)(u:Value)(y:Sp.Sm)(ct2:Int × Int)(bv:Value)(xs:List (Sp.Bl->Sp.Bl))(nL:Int × Int)(cv:Value)(ys:List (Sp.Bl->Sp.Bl))(vk:Int × Int)(hk:k<6)(h:(AB E).S (aD ct) v x ct1)(h':(AB E).S ct1 u y ct2)(hb:oq (LL E) ct2 lo hi w bv xs nL)(Ti:oq (LL E) nL lo hi w cv ys vk) :
  LL E ct lo hi w (σ 287 (J #[I O ct.1,I O (k:Nat),v,u,bv,cv,U true])) (Sp.Bl.ite k x y (aO xs) true (aO ys)) vk:=by
 obtain⟨⟨tl,ul,rfl⟩,hs,sx,I9,rfl⟩:=h;obtain⟨⟨tr,ur,rfl⟩,dq,sy,Jb,rfl⟩:=h';obtain⟨av,nv,cv,rfl⟩:=eH hb;obtain⟨ae,ne,ce,rfl⟩:=eH Ti;have B:=uK hb;have δ:=uK Ti;have hB:=B.cb;subst hB;have hc:=xH k hk tl ul tr ur x y _ I9 Jb sx sy hs dq;have zM:∀G:aw E,gB (Kr G) (Sp.dK (Dm G) k x y (Sp.aD ct)):=λG s hs=>mw I9 Jb hs
 have vm:∀(G:aw E) P,fJ (Kr G) (Sp.cJ (Dm G) P (aO xs) (Sp.cS y (Sp.cS x (Sp.aD ct)))):=λG P s hs=>gH P _ B.ok _ s hs
 have hew:∀(G:aw E) P,fJ (Kr G) (Sp.cJ (Dm G) P (aO ys) (Sp.cB (aO xs) (Sp.cS y (Sp.cS x (Sp.aD ct))))):=λG P s hs=>gH P _ δ.ok _ s hs
 refine⟨⟨_,_,rfl,TS _ _ _ _ _ _ _⟩,λG P e=>yr (Dm G) (Sp.dK (Dm G) k x y (Sp.aD ct)) (Sp.cJ (Dm G) P (aO xs) (Sp.cS y (Sp.cS x (Sp.aD ct)))) (Sp.cJ (Dm G) P (aO ys) (Sp.cB (aO xs) (Sp.cS y (Sp.cS x (Sp.aD ct))))) e,?_,?_,?_,?_,?_,?_⟩
 .intro rest;rw[<-δ.cb];rfl
 .intro rest hr;exact bX (bX (bX (bX I9 Jb) B.ok) δ.ok) hr
 .intro G P rest s;rw[<-δ.cb];rfl
 .intro G P e qT;exact NT (K:=Kr G) (zM G) (vm G P) (hew G P) e qT
 .intro G P T rest hl;rw[<-δ.cb];exact⟨⟨hl.1,hl.2.1,trivial⟩,hl.2.2⟩
 .intro C G T F b W e Gc F1 zI zJ QJ ha qT hr
  have wc:=zM G (Y e) (Sp.Wf.some qT);have Ks:dk b F ((Sp.dK (Dm G) k x y (Sp.aD ct) (Y e)).1++(Sp.cJ (Dm G) C.iL (aO xs) (Sp.cS y (Sp.cS x (Sp.aD ct))) (Sp.dK (Dm G) k x y (Sp.aD ct) (Y e)).2.1).1++(Sp.cJ (Dm G) C.iL (aO ys) (Sp.cB (aO xs) (Sp.cS y (Sp.cS x (Sp.aD ct)))) (Sp.dK (Dm G) k x y (Sp.aD ct) (Y e)).2.2).1):=hr;exact pN (.ite ct.1 k tl ul tr ur av nv cv ae ne ce true) C G T F b W e _ _ ha (λW' wF Kz=>kB ct.1 k tl ul tr ur av nv cv ae ne ce true C G T F b W' e _ _ _ _ _ _ _ _ Kz (ze hc (Sp.Wf.some qT) Ks.left.left)
   (λW2 kM QA=>B.calls C G T b W Gc F1 zI zJ QJ.1 _ W2 _ (wF.trans kM) QA wc.1 Ks.left.right)
   (λW2 kM QA=>δ.calls C G T b W Gc F1 zI zJ QJ.2.1 _ W2 _ (wF.trans kM) QA wc.2 Ks.U5) (vm G C.iL _ wc.1) (hew G C.iL _ wc.2) rfl)
theorem C3(ct:Int × Int)(lo hi:Nat)(w:Wd)(k:Nat)(v:Value)(x:Sp.Sm)(ct1:Int × Int)(u:Value)(y:Sp.Sm)(ct2:Int × Int)(bv:Value)(xs:List (Sp.Bl->Sp.Bl))(nL:Int × Int)(hk:k<6)(h:(AB E).S (aD ct) v x ct1)(h':(AB E).S ct1 u y ct2)(hb:oq (LL E) ct2 lo hi w bv xs nL) :
  LL E ct lo hi w (σ 290 (J #[I O ct.1,I O (k:Nat),v,u,bv])) (Sp.Bl.loop k x y (aO xs)) nL:=by
 obtain⟨⟨tl,ul,rfl⟩,hs,sx,I9,rfl⟩:=h;obtain⟨⟨tr,ur,rfl⟩,dq,sy,Jb,rfl⟩:=h';obtain⟨av,nv,cv,rfl⟩:=eH hb;have B:=uK hb;have hc:=xH k hk tl ul tr ur x y _ I9 Jb sx sy hs dq;have zM:∀G:aw E,gB (Kr G) (Sp.dK (Dm G) k x y (Sp.aD ct)):=λG s hs=>mw I9 Jb hs
 have vm:∀(G:aw E) P,fJ (Kr G) (Sp.cJ (Dm G) P (aO xs) (Sp.cS y (Sp.cS x (Sp.aD ct)))):=λG P s hs=>gH P _ B.ok _ s hs
 have Kl:∀(G:aw E) P,rT (D:=Dm G) (Sp.cJ (Dm G) P (aO xs) (Sp.cS y (Sp.cS x (Sp.aD ct)))):=λG P=>jc P _ _
 refine⟨⟨_,_,rfl,Oa _ _ _ _ _⟩,λG P e=>Sp.tz (Dm G) P (Sp.dK (Dm G) k x y (Sp.aD ct)) (Sp.cJ (Dm G) P (aO xs) (Sp.cS y (Sp.cS x (Sp.aD ct)))) ct.1 (Y e),?_,?_,?_,?_,?_,?_⟩
 .intro rest;rw[<-B.cb];rfl
 .intro rest hr;exact bX (bX (bX I9 Jb) B.ok) hr
 .intro G P rest s;rw[<-B.cb];rfl
 .intro G P e qT;exact He (K:=Kr G) (zM G) (vm G P) rfl (Kl G P) _ (Sp.Wf.some qT)
 .intro G P T rest hl;rw[<-B.cb];exact⟨⟨hl.1,hl.2.1,trivial⟩,hl.2.2⟩
 .intro C G T F b W e Gc F1 zI zJ QJ ha qT hr
  have hp:=QJ.1.1;have hT:T ct.1 (Y e)=Sp.tz (Dm G) C.iL (Sp.dK (Dm G) k x y (Sp.aD ct)) (Sp.cJ (Dm G) C.iL (aO xs) (Sp.cS y (Sp.cS x (Sp.aD ct)))) ct.1 (Y e):=QJ.1.2 (Y e);have qX:b=true->0<=ct.1/\ct.1.toNat<F.1.length:=λhb=>by obtain⟨s',dq⟩:=KR (K:=Kr G) (P:=C.iL) (zM G) (vm G C.iL) ct.1 qT;exact hr hb _ dq
  have hl:=lh ct.1 hp k tl ul tr ur av nv cv C G T F b;refine pN (.loop ct.1 k tl ul tr ur av nv cv) C G T F b W e _ _ ha (λW' wF Kz=>?_);have hlw:=hl W' (Y e) Kz (Sp.Wf.some qT) (λW2 kM QA=>by
   rw[hT];exact Ch ct.1 k tl ul tr ur av nv cv _ _ (λs=>mU (Dm G) C.iL (Sp.dK (Dm G) k x y (Sp.aD ct)) (Sp.cJ (Dm G) C.iL (aO xs) (Sp.cS y (Sp.cS x (Sp.aD ct)))) s) C G T F b W2 (Y e) _ QA (Sp.Wf.some qT) rfl
    (λF' W3 s' h3 dq Ks=>hc C G T F' b W3 s' h3 dq Ks) (zM G) (vm G C.iL) (B.calls C G T b W2 ((wF.trans kM).same Gc F1) F1 zI zJ QJ.2.1)
    (λF' W3 s' h3 ha3 dq=>Mn ct.1 k tl ul tr ur av nv cv x y (Sp.aD ct) _ C G T F' b W3 s' ha3 dq hc (zM G) (vm G C.iL) (Kl G C.iL) (B.calls C G T false W3 (((wF.trans kM).trans h3).same Gc F1) F1 zI zJ QJ.2.1) zI)
    (λs' dq=>JA (zM G) (vm G C.iL) rfl (Kl G C.iL) dq) zJ qX hr)
  rw[hT]at hlw;exact hlw
def Sb(E:Bool):kY Sp.Tr (AB E) where
 T:=LL E
 mono:=by intro ct bj lo hi Dx pw w w' v x h hl hh hs;obtain⟨h1,π,hG⟩:=h;refine⟨h1,π,hG.cb,hG.ok,hG.eq,hG.wf,hG.lp,?_⟩;intro C G T F b W e Gc F1;exact hG.calls C G T F b W e (λk h1 h2 hn=>(Gc k À À (by rw[hs k h1 h2 hn];exact hn)).trans (hs k h1 h2 hn)) À
 iface h:=by obtain⟨⟨t,u,e,_⟩,_⟩:=h;exact⟨t,u,e⟩
 assign:=vf
 read:=Dg
 assert:=vd
 ite:=C2
 iteElse:=Hy
 loop:=C3
end W
end
section
namespace W
variable {E: Bool}{G: aw E}
section
variable{j:Nat}
structure um(G:aw E)(w:Wd)(v:Sp.Iv)(l:List Sp.Iv)(W:Wd):Prop where
 o:W.heap[w.heap.size]?=Y (L #[I G.kd v.a,I G.kd v.b] (G.ix 90 85))
 z:W.heap[w.heap.size+1]?=Y (L G.fF (G.ix 174 157))
 x:W.heap[w.heap.size+1+1]?=Y (L (G.eW true l) (G.ix 174 157))
 b:ω w W
theorem um.set{w:Wd}{v:Sp.Iv}{l:List Sp.Iv}{W:Wd}(h:um G w v l W)(hj:j<l.length):um G w v (l.set j v) ((W.setCell ⟨w.heap.size+1+1,1+j*2,M⟩ (I G.kd v.a)).setCell ⟨w.heap.size+1+1,1+j*2+1,M⟩ (I G.kd v.b)):=by
 have e1:w.heap.size≠w.heap.size+1+1:=À;have e2:w.heap.size+1≠w.heap.size+1+1:=À;refine⟨?_,?_,?_,(h.b.setCell (p:=⟨w.heap.size+1+1,1+j*2,M⟩) (by show w.heap.size<=w.heap.size+1+1;omega) _).setCell (p:=⟨w.heap.size+1+1,1+j*2+1,M⟩) (by show w.heap.size<=w.heap.size+1+1;omega) _⟩
 .rw[Æ _ _ _ _ e1,Æ _ _ _ _ e1];exact h.o
 .rw[Æ _ _ _ _ e2,Æ _ _ _ _ e2];exact h.z
 .rw[ai (ai h.x (1+j*2) (I G.kd v.a)) (1+j*2+1) (I G.kd v.b),G.CZ v hj]
def jT(v:Sp.Iv)(j:Nat):List Sp.Iv:=List.replicate j v++List.replicate (8-j) ⟨0,0⟩
theorem yS(v:Sp.Iv)(h:j<=8):(jT v j).length=8:=by unfold jT;simp;omega
theorem Pg(v:Sp.Iv)(h:j<8):(jT v j).set j v=jT v (j+1):=by unfold jT;rw[List.set_append_right _ _ Ä,List.length_replicate,Nat.sub_self,show 8-j=(8-(j+1))+1 by omega,List.replicate_succ,List.set_cons_zero,List.replicate_succ'];simp
theorem rS(v:Sp.Iv)(w:Wd) :
  Calls prog (G.ix 48 43) #[J #[I G.kd v.a,I G.kd v.b]] w λe w'=>e=υ (J (G.aQ (Y λ_=>v)))/\ω w w':=by
 cases E
 all_goals
  dsimp only[aw.ix,aw.kd]at*
  have k:Hid (w.heap.size<=w.heap.size):=È
  first|go_enter func48,ntmps48|go_enter func43,ntmps43
  go_wp2_with fail;have H0:Hid (um G w v (jT v 0) (((w.alloc (L #[I G.kd v.a,I G.kd v.b] (G.ix 90 85))).alloc (L G.fF (G.ix 174 157))).alloc (L (G.eW true (jT v 0)) (G.ix 174 157)))):=by obtain⟨k0,k1,k2,kb⟩:=bQ (w:=w) (o1:=L #[I G.kd v.a,I G.kd v.b] (G.ix 90 85)) (o2:=L G.fF (G.ix 174 157)) (o3:=L (G.eW true (jT v 0)) (G.ix 174 157)) Å;exact⟨k0,k1,k2,kb⟩
  change Code.wp _ _ _ _ (((w.alloc (L #[I G.kd v.a,I G.kd v.b] (G.ix 90 85))).alloc (L G.fF (G.ix 174 157))).alloc (L (G.eW true (jT v 0)) (G.ix 174 157)));generalize ((w.alloc (L #[I G.kd v.a,I G.kd v.b] (G.ix 90 85))).alloc (L G.fF (G.ix 174 157))).alloc (L (G.eW true (jT v 0)) (G.ix 174 157))=W0 at*
  go_loopw [6] (λv6 wr=>∃j:Nat,j<=8/\v6=I O j/\Hid (um G w v (jT v j) wr)) (λv6 _=>8-(intOf v6).toNat)
  case atStart=>exact⟨0,Ì,rfl,H0.out⟩
  case round=>
   obtain⟨j,hj,rfl,hq⟩:=hrel;clear H0 k;by_cases dZ:j<8
   .obtain⟨x,hxj⟩:∃x,(jT v j)[j]?=Y x:=⟨_,Î (by rw[yS _ hj];omega)⟩
    have d0:=cell_of hq.o 0 (v:=I G.kd v.a) rfl;have d1:=cell_of hq.o 1 (v:=I G.kd v.b) rfl;have x0:=cell_of hq.x _ (G.iV hxj).1;have x1:=cell_of hq.x _ (G.iV hxj).2;have f0:=ay hq.x (1+j*2);have f1:=ay hq.x (1+j*2+1);have A:Hid (um G w v (jT v (j+1)) ((wr.setCell ⟨w.heap.size+1+1,1+j*2,M⟩ (I G.kd v.a)).setCell ⟨w.heap.size+1+1,1+j*2+1,M⟩ (I G.kd v.b))):=by unfold Hid;rw[<-Pg _ dZ];exact hq.set (by rw[yS _ hj];omega)
    have wJ:(j:Int)<8:=À;clear hxj;go_wp2_with fail;exact⟨⟨j+1,À,by go_num,A⟩,by simp[intOf];omega⟩
   .obtain rfl:j=8:=À
    have e8:G.eW true (jT v 8)=G.aQ (Y λ_=>v):=by unfold aw.aQ;congr 1
    have hx:wr.heap[w.heap.size+1+1]?=Y (L (G.eW true (jT v 8)) (G.ix 174 157)):=hq.x;have hz:=hq.z;have hB:=hq.b;have sz:(G.eW true (jT v 8)).size=17:=G.eb (yS _ È);have o1:(G.eW true (jT v 8)).all (·.oneCell')=true:=G.mh _ _;rw[e8]at hx sz o1;clear hq hj dZ e8;generalize oQ:G.aQ (Y λ_=>v)=xa at*;have Q9:=hid oQ;clear oQ;have HX:Hid (_=_):=hx;have HZ:=hid hz;have hr:Hid (_=_):=ar hz (d:=xa) (by rw[sz];rfl);have HB:Hid (ω w _):=au (b:=w.heap.size+1) À xa.toList 0 w _ hB;clear hx hz hB;go_wp2_with (first
     |(refine bR (G:=G) rfl _ rfl rfl HX.out sz ?_)
     |(refine cy (G:=G) rfl _ _ rfl rfl rfl HZ.out rfl sz o1 ?_))
    refine Ç (aU rfl _ _ rfl hr.out sz) rfl ⟨by rw[Q9.out],HB.out⟩
end
end W
end
end Go.Proofs.YtiopfihjmkfdmabGreatDoor
