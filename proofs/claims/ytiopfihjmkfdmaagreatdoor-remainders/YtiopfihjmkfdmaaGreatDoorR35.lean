import Derived.Test.YtiopfihjmkfdmaaGreatDoorR34
namespace Go.Proofs.YtiopfihjmkfdmaaGreatDoor
open Go.Value renaming int→I,agg→J,iface→σ,slice→Z,bool→U
open Go.IntKind renaming i64→O
open Option renaming some→Y,none→M
open Go.Obj renaming cells→L
open Go.Ending renaming returned→υ
open Go.Proofs.Tryz Sp
open Go.RowKit
set_option maxRecDepth 100000
set_option maxHeartbeats 16000000
section
namespace W
variable {δ : Bool}{π : ar δ}
theorem vV{vl vr:Value}{k:Nat}{x y:Sp.Sm}{ct:Sp.Ct}(h:EU π vl vr k x y ct){C:Cx}{π:ar δ}{T:eQ}{F:Fd}{b:Bool}{s:ST}(hs:Sp.Wf (Kr π) s)(hr:cV b F (Sp.dq (Dm π) k x y ct s).1) :
  vh C π T F b k vl vr s (Sp.dq (Dm π) k x y ct s).1 (Sp.dq (Dm π) k x y ct s).2.1 (Sp.dq (Dm π) k x y ct s).2.2:=fun W hW=>h C π T F b W s hW hs hr
theorem cV.Sz{π:ar δ}{b:Bool}{F:Fd}{es es' Xj:List bV}(h:cV b F (es ++ es' ++ Xj)):cV b (W.told π b (W.told π b F es) es') Xj:=by rw[<-aF];exact h.right
theorem sU(ct:Int × Int)(lo hi:Nat)(w:Wd)(k:Nat)(v:Value)(x:Sp.Sm)(aX:Int × Int)(hk:k<8)(h:(ym δ).S (aA ct) v x aX):JO δ ct lo hi w (σ 279 (J #[I O ct.1,I O (k:Nat),v])) (Sp.Bl.assign k x) aX:=by
 obtain⟨⟨t,u,rfl⟩,hs,_,ok,he⟩:=h;refine⟨⟨_,_,rfl,JU _ _ _⟩,fun π P e=>oI (Dm π) k x (Sp.aA ct) e,?_,?_,?_,?_,?_,?_⟩
 ·intro rest;rw[<-he];rfl
 ·intro rest hr;exact bR ok hr
 ·intro π P rest s;rw[<-he];rfl
 ·intro π P e pE;exact Fq (K:=Kr π) ok _ e pE
 ·intro π P T rest hl;rw[<-he];exact⟨trivial,hl⟩
 ·intro C π T F b W e DU D7 _ _ _ ha pE hr
  exact CM ct.1 k t u C π T F b W e _ _ ha (fun W' uG J3=>mS ct.1 k hk t u C π T F b W' e _ _ J3 (fun W2 h2=>hs C π T F b W2 e h2 pE hr) _ rfl)
theorem Ar(ct:Int × Int)(lo hi:Nat)(w:Wd)(k:Nat)(hk:k<8):JO δ ct lo hi w (σ 283 (J #[I O ct.1,I O (k:Nat)])) (Sp.Bl.read k) (aA ct):=by
 refine⟨⟨_,_,rfl,OW _ _⟩,fun π P e=>Lk (Dm π) k e,?_,?_,?_,?_,?_,?_⟩
 ·intro rest;rfl
 ·intro rest hr;exact hr
 ·intro π P rest s;rfl
 ·intro π P e pE;exact Sp.Wf.some (Sp.wf_set pE k (Kr π).wwhole)
 ·intro π P T rest hl;exact⟨trivial,hl⟩
 ·intro C π T F b W e DU D7 _ _ _ ha pE hr
  exact IU ct.1 k hk C π T F b W e ha
theorem tg(ct:Int × Int)(lo hi:Nat)(w:Wd)(k:Nat)(v:Value)(x:Sp.Sm)(ct1:Int × Int)(u:Value)(y:Sp.Sm)(ct2:Int × Int)(hk:k<6)(h:(ym δ).S (aJ (aA ct)) v x ct1)(h':(ym δ).S ct1 u y ct2):JO δ ct lo hi w (σ 287 (J #[I O ct.1,I O ct.2,I O (k:Nat),v,u])) (Sp.Bl.assert k x y) ct2:=by
 obtain⟨⟨tl,ul,rfl⟩,hs,sx,Gw,rfl⟩:=h;obtain⟨⟨tr,ur,rfl⟩,df,sy,Gr,rfl⟩:=h';have hc:=u7 k hk tl ul tr ur x y _ Gw Gr sx sy hs df;refine⟨⟨_,_,rfl,JL _ _ _ _ _⟩,fun π P e=>Cd (Dm π) ct.2 k x y (Sp.aJ (Sp.aA ct)) e,?_,?_,?_,?_,?_,?_⟩
 ·intro rest;rfl
 ·intro rest hr;exact bR (bR Gw Gr) hr
 ·intro π P rest s;rfl
 ·intro π P e pE;exact(lF (K:=Kr π) Gw Gr (Sp.Wf.some pE)).1
 ·intro π P T rest hl;exact⟨trivial,hl⟩
 ·intro C π T F b W e DU D7 _ _ _ ha pE hr
  have NV:cV b F ((Sp.dq (Dm π) k x y (Sp.aJ (Sp.aA ct)) (Y e)).1 ++ [eU.site ct.2 (Sp.dq (Dm π) k x y (Sp.aJ (Sp.aA ct)) (Y e)).2.2.isSome]):=hr;exact DE ct.1 ct.2 k tl ul tr ur C π T F b W e _ _ ha (fun W' uG J3=>nh ct.1 ct.2 k tl ul tr ur C π T F b W' e _ _ _ J3 (vV hc (Sp.Wf.some pE) NV.left) NV.right)
theorem At(ct:Int × Int)(lo hi:Nat)(w:Wd)(k:Nat)(v:Value)(x:Sp.Sm)(ct1:Int × Int)(u:Value)(y:Sp.Sm)(ct2:Int × Int)(bv:Value)(xs:List (Sp.Bl->Sp.Bl))(mJ:Int × Int)(hk:k<6)(h:(ym δ).S (aA ct) v x ct1)(h':(ym δ).S ct1 u y ct2)(hb:ng (JO δ) ct2 lo hi w bv xs mJ) :
  JO δ ct lo hi w (σ 290 (J #[I O ct.1,I O (k:Nat),v,u,bv,Z M 0 0,U false])) (Sp.Bl.ite k x y (aW xs) false .nil) mJ:=by
 obtain⟨⟨tl,ul,rfl⟩,hs,sx,Gw,rfl⟩:=h;obtain⟨⟨tr,ur,rfl⟩,df,sy,Gr,rfl⟩:=h';obtain⟨av,nv,cv,rfl⟩:=eM hb;have B:=vT hb;have hc:=u7 k hk tl ul tr ur x y _ Gw Gr sx sy hs df;have yU:∀π:ar δ,fS (Kr π) (Sp.dq (Dm π) k x y (Sp.aA ct)):=fun π s hs=>lF Gw Gr hs
 have vq:∀(π:ar δ) P,eV (Kr π) (Sp.cD (Dm π) P (aW xs) (Sp.cS y (Sp.cS x (Sp.aA ct)))):=fun π P s hs=>fX P _ B.ok _ s hs
 refine⟨⟨_,_,rfl,QR _ _ _ _ _ _ _⟩,fun π P e=>wu (Dm π) (Sp.dq (Dm π) k x y (Sp.aA ct)) (Sp.cD (Dm π) P (aW xs) (Sp.cS y (Sp.cS x (Sp.aA ct)))) (fun s=>([],s)) e,?_,?_,?_,?_,?_,?_⟩
 ·intro rest;rw[<-B.cb];rfl
 ·intro rest hr
  intro n hn;have:n∈sh x ++ sh y ++ iy (aW xs) ++ [] ++ iy rest:=hn;exact bR (bR (bR (bR Gw Gr) B.ok) (fun n h=>by cases h)) hr n this
 ·intro π P rest s;rw[<-B.cb];rfl
 ·intro π P e pE;exact KN (K:=Kr π) (yU π) (vq π P) (fun s hs=>hs) e pE
 ·intro π P T rest hl;rw[<-B.cb];exact⟨⟨hl.1,trivial⟩,hl.2⟩
 ·intro C π T F b W e DU D7 xI xP N6 ha pE hr
  have wc:=yU π (Y e) (Sp.Wf.some pE);have NV:cV b F ((Sp.dq (Dm π) k x y (Sp.aA ct) (Y e)).1 ++ (Sp.cD (Dm π) C.ib (aW xs) (Sp.cS y (Sp.cS x (Sp.aA ct))) (Sp.dq (Dm π) k x y (Sp.aA ct) (Y e)).2.1).1 ++ []):=hr;exact Ht ct.1 k tl ul tr ur av nv cv M 0 0 false C π T F b W e _ _ ha (fun W' uG J3=>jK ct.1 k tl ul tr ur av nv cv M 0 0 false C π T F b W' e _ _ [] _ _ _ _ _ J3 (vV hc (Sp.Wf.some pE) NV.left.left)
   (fun W2 gD Om=>B.calls C π T b W DU D7 xI xP N6.1 _ W2 _ (uG.trans gD) Om wc.1 NV.left.right)
   (fun W2 gD Om=>ze C π T _ b W2 _ Om) (vq π C.ib _ wc.1) wc.2 rfl)
theorem Fk(ct:Int × Int)(lo hi:Nat)(w:Wd)(k:Nat)(v:Value)(x:Sp.Sm)(ct1:Int × Int)(u:Value)(y:Sp.Sm)(ct2:Int × Int)(bv:Value)(xs:List (Sp.Bl->Sp.Bl))(mJ:Int × Int)(cv:Value)(ys:List (Sp.Bl->Sp.Bl))(tB:Int × Int)(hk:k<6)(h:(ym δ).S (aA ct) v x ct1)(h':(ym δ).S ct1 u y ct2)(hb:ng (JO δ) ct2 lo hi w bv xs mJ)(T8:ng (JO δ) mJ lo hi w cv ys tB) :
  JO δ ct lo hi w (σ 290 (J #[I O ct.1,I O (k:Nat),v,u,bv,cv,U true])) (Sp.Bl.ite k x y (aW xs) true (aW ys)) tB:=by
 obtain⟨⟨tl,ul,rfl⟩,hs,sx,Gw,rfl⟩:=h;obtain⟨⟨tr,ur,rfl⟩,df,sy,Gr,rfl⟩:=h';obtain⟨av,nv,cv,rfl⟩:=eM hb;obtain⟨ae,ne,ce,rfl⟩:=eM T8;have B:=vT hb;have E:=vT T8;have hB:=B.cb;subst hB;have hc:=u7 k hk tl ul tr ur x y _ Gw Gr sx sy hs df;have yU:∀π:ar δ,fS (Kr π) (Sp.dq (Dm π) k x y (Sp.aA ct)):=fun π s hs=>lF Gw Gr hs
 have vq:∀(π:ar δ) P,eV (Kr π) (Sp.cD (Dm π) P (aW xs) (Sp.cS y (Sp.cS x (Sp.aA ct)))):=fun π P s hs=>fX P _ B.ok _ s hs
 have hew:∀(π:ar δ) P,eV (Kr π) (Sp.cD (Dm π) P (aW ys) (Sp.cB (aW xs) (Sp.cS y (Sp.cS x (Sp.aA ct))))):=fun π P s hs=>fX P _ E.ok _ s hs
 refine⟨⟨_,_,rfl,QR _ _ _ _ _ _ _⟩,fun π P e=>wu (Dm π) (Sp.dq (Dm π) k x y (Sp.aA ct)) (Sp.cD (Dm π) P (aW xs) (Sp.cS y (Sp.cS x (Sp.aA ct)))) (Sp.cD (Dm π) P (aW ys) (Sp.cB (aW xs) (Sp.cS y (Sp.cS x (Sp.aA ct))))) e,?_,?_,?_,?_,?_,?_⟩
 ·intro rest;rw[<-E.cb];rfl
 ·intro rest hr;exact bR (bR (bR (bR Gw Gr) B.ok) E.ok) hr
 ·intro π P rest s;rw[<-E.cb];rfl
 ·intro π P e pE;exact KN (K:=Kr π) (yU π) (vq π P) (hew π P) e pE
 ·intro π P T rest hl;rw[<-E.cb];exact⟨⟨hl.1,hl.2.1,trivial⟩,hl.2.2⟩
 ·intro C π T F b W e DU D7 xI xP N6 ha pE hr
  have wc:=yU π (Y e) (Sp.Wf.some pE);have NV:cV b F ((Sp.dq (Dm π) k x y (Sp.aA ct) (Y e)).1 ++ (Sp.cD (Dm π) C.ib (aW xs) (Sp.cS y (Sp.cS x (Sp.aA ct))) (Sp.dq (Dm π) k x y (Sp.aA ct) (Y e)).2.1).1 ++ (Sp.cD (Dm π) C.ib (aW ys) (Sp.cB (aW xs) (Sp.cS y (Sp.cS x (Sp.aA ct)))) (Sp.dq (Dm π) k x y (Sp.aA ct) (Y e)).2.2).1):=hr;exact Ht ct.1 k tl ul tr ur av nv cv ae ne ce true C π T F b W e _ _ ha (fun W' uG J3=>jK ct.1 k tl ul tr ur av nv cv ae ne ce true C π T F b W' e _ _ _ _ _ _ _ _ J3 (vV hc (Sp.Wf.some pE) NV.left.left)
   (fun W2 gD Om=>B.calls C π T b W DU D7 xI xP N6.1 _ W2 _ (uG.trans gD) Om wc.1 NV.left.right)
   (fun W2 gD Om=>E.calls C π T b W DU D7 xI xP N6.2.1 _ W2 _ (uG.trans gD) Om wc.2 NV.Sz) (vq π C.ib _ wc.1) (hew π C.ib _ wc.2) rfl)
theorem AD(ct:Int × Int)(lo hi:Nat)(w:Wd)(k:Nat)(v:Value)(x:Sp.Sm)(ct1:Int × Int)(u:Value)(y:Sp.Sm)(ct2:Int × Int)(bv:Value)(xs:List (Sp.Bl->Sp.Bl))(mJ:Int × Int)(hk:k<6)(h:(ym δ).S (aA ct) v x ct1)(h':(ym δ).S ct1 u y ct2)(hb:ng (JO δ) ct2 lo hi w bv xs mJ) :
  JO δ ct lo hi w (σ 293 (J #[I O ct.1,I O (k:Nat),v,u,bv])) (Sp.Bl.loop k x y (aW xs)) mJ:=by
 obtain⟨⟨tl,ul,rfl⟩,hs,sx,Gw,rfl⟩:=h;obtain⟨⟨tr,ur,rfl⟩,df,sy,Gr,rfl⟩:=h';obtain⟨av,nv,cv,rfl⟩:=eM hb;have B:=vT hb;have hc:=u7 k hk tl ul tr ur x y _ Gw Gr sx sy hs df;have yU:∀π:ar δ,fS (Kr π) (Sp.dq (Dm π) k x y (Sp.aA ct)):=fun π s hs=>lF Gw Gr hs
 have vq:∀(π:ar δ) P,eV (Kr π) (Sp.cD (Dm π) P (aW xs) (Sp.cS y (Sp.cS x (Sp.aA ct)))):=fun π P s hs=>fX P _ B.ok _ s hs
 have Ir:∀(π:ar δ) P,qC (D:=Dm π) (Sp.cD (Dm π) P (aW xs) (Sp.cS y (Sp.cS x (Sp.aA ct)))):=fun π P=>ig P _ _
 refine⟨⟨_,_,rfl,Mt _ _ _ _ _⟩,fun π P e=>Sp.rS (Dm π) P (Sp.dq (Dm π) k x y (Sp.aA ct)) (Sp.cD (Dm π) P (aW xs) (Sp.cS y (Sp.cS x (Sp.aA ct)))) ct.1 (Y e),?_,?_,?_,?_,?_,?_⟩
 ·intro rest;rw[<-B.cb];rfl
 ·intro rest hr;exact bR (bR (bR Gw Gr) B.ok) hr
 ·intro π P rest s;rw[<-B.cb];rfl
 ·intro π P e pE;exact FN (K:=Kr π) (yU π) (vq π P) rfl (Ir π P) _ (Sp.Wf.some pE)
 ·intro π P T rest hl;rw[<-B.cb];exact⟨⟨hl.1,hl.2.1,trivial⟩,hl.2.2⟩
 ·intro C π T F b W e DU D7 xI xP N6 ha pE hr
  have hp:=N6.1.1;have hT:T ct.1 (Y e)=Sp.rS (Dm π) C.ib (Sp.dq (Dm π) k x y (Sp.aA ct)) (Sp.cD (Dm π) C.ib (aW xs) (Sp.cS y (Sp.cS x (Sp.aA ct)))) ct.1 (Y e):=N6.1.2 (Y e);have pJ:b=true->0<=ct.1/\ct.1.toNat<F.1.length:=fun hb=>by obtain⟨s',df⟩:=II (K:=Kr π) (P:=C.ib) (yU π) (vq π C.ib) ct.1 pE;exact hr hb _ df
  have hl:=kG ct.1 hp k tl ul tr ur av nv cv C π T F b;refine EJ ct.1 k tl ul tr ur av nv cv C π T F b W e _ _ ha (fun W' uG J3=>?_);have hlw:=hl W' (Y e) J3 (Sp.Wf.some pE) (fun W2 gD Om=>by
   rw[hT];exact Bh ct.1 k tl ul tr ur av nv cv _ _ (fun s=>ma (Dm π) C.ib (Sp.dq (Dm π) k x y (Sp.aA ct)) (Sp.cD (Dm π) C.ib (aW xs) (Sp.cS y (Sp.cS x (Sp.aA ct)))) s) C π T F b W2 (Y e) _ Om (Sp.Wf.some pE) rfl
    (fun F' W3 s' h3 df NV=>hc C π T F' b W3 s' h3 df NV) (yU π) (vq π C.ib) (B.calls C π T b W2 ((uG.trans gD).same DU D7) D7 xI xP N6.2.1)
    (fun F' W3 s' h3 ha3 df=>Jq ct.1 k tl ul tr ur av nv cv x y (Sp.aA ct) _ C π T F' b W3 s' ha3 df hc (yU π) (vq π C.ib) (Ir π C.ib) (B.calls C π T false W3 (((uG.trans gD).trans h3).same DU D7) D7 xI xP N6.2.1) xI)
    (fun s' df=>GK (yU π) (vq π C.ib) rfl (Ir π C.ib) df) xP pJ hr)
  rw[hT]at hlw;exact hlw
def Sn(δ:Bool):jY Sp.Tr (ym δ) where
 T:=JO δ
 mono:=by intro ct aX lo hi BC oA w w' v x h hl hh hs;obtain⟨h1,G,hG⟩:=h;refine⟨h1,G,hG.cb,hG.ok,hG.eq,hG.wf,hG.lp,?_⟩;intro C π T F b W e DU D7;exact hG.calls C π T F b W e (fun k h1 h2 hn=>(DU k (by omega) (by omega) (by rw[hs k h1 h2 hn];exact hn)).trans (hs k h1 h2 hn)) (by omega)
 iface h:=by obtain⟨⟨t,u,e,_⟩,_⟩:=h;exact⟨t,u,e⟩
 assign:=sU
 read:=Ar
 assert:=tg
 ite:=At
 iteElse:=Fk
 loop:=AD
end W
end
section
namespace W
variable {δ : Bool}{π : ar δ}
section
variable{j:Nat}
structure sE(π:ar δ)(w:Wd)(v:Sp.Iv)(l:List Sp.Iv)(W:Wd):Prop where
 o:W.heap[w.heap.size]?=Y (L #[I π.kd v.a,I π.kd v.b] (π.ix 131 126))
 z:W.heap[w.heap.size+1]?=Y (L π.eS (π.ix 220 203))
 x:W.heap[w.heap.size+1+1]?=Y (L (π.eo true l) (π.ix 220 203))
 b:ω w W
theorem sE.set{w:Wd}{v:Sp.Iv}{l:List Sp.Iv}{W:Wd}(h:sE π w v l W)(hj:j<l.length):sE π w v (l.set j v) ((W.setCell ⟨w.heap.size+1+1,1+j*2,M⟩ (I π.kd v.a)).setCell ⟨w.heap.size+1+1,1+j*2+1,M⟩ (I π.kd v.b)):=by
 have e1:w.heap.size≠w.heap.size+1+1:=by omega
 have e2:w.heap.size+1≠w.heap.size+1+1:=by omega
 refine⟨?_,?_,?_,(h.b.setCell (p:=⟨w.heap.size+1+1,1+j*2,M⟩) (by show w.heap.size<=w.heap.size+1+1;omega) _).setCell (p:=⟨w.heap.size+1+1,1+j*2+1,M⟩) (by show w.heap.size<=w.heap.size+1+1;omega) _⟩
 ·rw[Below.heap_setCell _ _ _ _ e1,Below.heap_setCell _ _ _ _ e1];exact h.o
 ·rw[Below.heap_setCell _ _ _ _ e2,Below.heap_setCell _ _ _ _ e2];exact h.z
 ·rw[ah (ah h.x (1+j*2) (I π.kd v.a)) (1+j*2+1) (I π.kd v.b),π.Ad v hj]
def jh(v:Sp.Iv)(j:Nat):List Sp.Iv:=List.replicate j v ++ List.replicate (8 - j) ⟨0,0⟩
theorem xe(v:Sp.Iv)(h:j<=8):(jh v j).length=8:=by unfold jh;simp;omega
theorem LG(v:Sp.Iv)(h:j<8):(jh v j).set j v=jh v (j+1):=by unfold jh;rw[List.set_append_right _ _ (by simp),List.length_replicate,Nat.sub_self,show 8 - j=(8 - (j+1))+1 by omega,List.replicate_succ,List.set_cons_zero,List.replicate_succ'];simp
theorem qA(v:Sp.Iv)(w:Wd) :
  Calls prog (π.ix 83 79) #[J #[I π.kd v.a,I π.kd v.b]] w fun e w'=>e=υ (J (π.aI (Y fun _=>v)))/\ω w w':=by
 cases δ
 all_goals
  dsimp only [ar.ix,ar.kd]at *
  have k:Hid (w.heap.size<=w.heap.size):=Nat.le_refl _
  first | go_enter func83,ntmps83 | go_enter func79,ntmps79
  go_wp2_with fail;have H0:Hid (sE π w v (jh v 0) (((w.alloc (L #[I π.kd v.a,I π.kd v.b] (π.ix 131 126))).alloc (L π.eS (π.ix 220 203))).alloc (L (π.eo true (jh v 0)) (π.ix 220 203)))):=by obtain⟨k0,k1,k2,kb⟩:=cH (w:=w) (o1:=L #[I π.kd v.a,I π.kd v.b] (π.ix 131 126)) (o2:=L π.eS (π.ix 220 203)) (o3:=L (π.eo true (jh v 0)) (π.ix 220 203)) (Below.refl _ _);exact⟨k0,k1,k2,kb⟩
  change Code.wp _ _ _ _ (((w.alloc (L #[I π.kd v.a,I π.kd v.b] (π.ix 131 126))).alloc (L π.eS (π.ix 220 203))).alloc (L (π.eo true (jh v 0)) (π.ix 220 203)));generalize ((w.alloc (L #[I π.kd v.a,I π.kd v.b] (π.ix 131 126))).alloc (L π.eS (π.ix 220 203))).alloc (L (π.eo true (jh v 0)) (π.ix 220 203))=W0 at *
  go_loopw [6] (fun v6 wr=>∃j:Nat,j<=8/\v6=I O j/\Hid (sE π w v (jh v j) wr)) (fun v6 _=>8 - (intOf v6).toNat)
  case atStart=>exact⟨0,Nat.zero_le _,rfl,H0.out⟩
  case round =>
   obtain⟨j,hj,rfl,hq⟩:=hrel;clear H0 k;by_cases gu:j<8
   ·obtain⟨x,hxj⟩:∃x,(jh v j)[j]?=Y x:=⟨_,List.getElem?_eq_getElem (by rw[xe _ hj];omega)⟩
    have d0:=cell_of hq.o 0 (v:=I π.kd v.a) rfl;have d1:=cell_of hq.o 1 (v:=I π.kd v.b) rfl;have x0:=cell_of hq.x _ (π.iu hxj).1;have x1:=cell_of hq.x _ (π.iu hxj).2;have f0:=aw hq.x (1+j*2);have f1:=aw hq.x (1+j*2+1);have A:Hid (sE π w v (jh v (j+1)) ((wr.setCell ⟨w.heap.size+1+1,1+j*2,M⟩ (I π.kd v.a)).setCell ⟨w.heap.size+1+1,1+j*2+1,M⟩ (I π.kd v.b))):=by unfold Hid;rw[<-LG _ gu];exact hq.set (by rw[xe _ hj];omega)
    have yf:(j:Int)<8:=by omega
    clear hxj;go_wp2_with fail;exact⟨⟨j+1,by omega,by go_num,A⟩,by simp[intOf];omega⟩
   ·obtain rfl:j=8:=by omega
    have e8:π.eo true (jh v 8)=π.aI (Y fun _=>v):=by unfold ar.aI;congr 1
    have hx:wr.heap[w.heap.size+1+1]?=Y (L (π.eo true (jh v 8)) (π.ix 220 203)):=hq.x;have hz:=hq.z;have hB:=hq.b;have sz:(π.eo true (jh v 8)).size=17:=π.dK (xe _ (Nat.le_refl _));have o1:(π.eo true (jh v 8)).all (·.oneCell')=true:=π.lh _ _;rw[e8]at hx sz o1;clear hq hj gu e8;generalize nJ:π.aI (Y fun _=>v)=xa at *;have OB:=hid nJ;clear nJ;have HX:Hid (_=_):=hx;have HZ:=hid hz;have hr:Hid (_=_):=ao hz (d:=xa) (by rw[sz];rfl);have HB:Hid (ω w _):=aq (b:=w.heap.size+1) (by omega) xa.toList 0 w _ hB;clear hx hz hB;go_wp2_with (first
     | (refine bu (π:=π) rfl _ rfl rfl HX.out sz ?_)
     | (refine bT (π:=π) rfl _ _ rfl rfl rfl HZ.out rfl sz o1 ?_))
    refine bodyPost_ret (aM rfl _ _ rfl hr.out sz) rfl ⟨by rw[OB.out],HB.out⟩
end
end W
end
end Go.Proofs.YtiopfihjmkfdmaaGreatDoor
