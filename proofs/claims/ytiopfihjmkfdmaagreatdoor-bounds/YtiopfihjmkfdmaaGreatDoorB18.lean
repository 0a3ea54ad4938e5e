import Derived.Test.YtiopfihjmkfdmaaGreatDoorB16
import Derived.Test.YtiopfihjmkfdmaaGreatDoorB17
namespace Go.Proofs.YtiopfihjmkfdmaaGreatDoor
open Go.Proofs.Tryz Sp
open Go.RowKit
set_option maxRecDepth 100000
set_option maxHeartbeats 16000000
namespace WI
section
variable{k j:Nat}
theorem vT{vl vr:Value}{x y:Sp.Sm}{ct:Sp.Ct}(h:Ec vl vr k x y ct){C:Cx}{π:bO}{T:gB}{F:Fd}{b:Bool}{s:ST}(hs:Sp.Wf (Kr π) s)(hr:df b F (Sp.dC (Dm π) k x y ct s).1) :
  uJ C π T F b k vl vr s (Sp.dC (Dm π) k x y ct s).1 (Sp.dC (Dm π) k x y ct s).2.1 (Sp.dC (Dm π) k x y ct s).2.2:=fun W hW=>h C π T F b W s hW hs hr
theorem df.R8{π:bO}{b:Bool}{F:Fd}{es es' VH:List cr}(h:df b F (es ++ es' ++ VH)):df b (WI.told π b (WI.told π b F es) es') VH:=by rw[<-aG];exact h.right
theorem si(ct:Int × Int)(lo hi:Nat)(w:Wd)(k:Nat)(v:Value)(x:Sp.Sm)(bh:Int × Int)(hk:k<8)(h:xX.S (aD ct) v x bh):J7 ct lo hi w (.iface 279 (.agg #[.int .i64 ct.1,.int .i64 (k:Nat),v])) (Sp.Bl.assign k x) bh:=by
 obtain⟨⟨t,u,rfl⟩,hs,_,ok,he⟩:=h;refine⟨⟨_,_,rfl,Ih _ _ _⟩,fun π P e=>oI (Dm π) k x (Sp.aD ct) e,?_,?_,?_,?_,?_,?_⟩
 ·intro rest;rw[<-he];rfl
 ·intro rest hr;exact bR ok hr
 ·intro π P rest s;rw[<-he];rfl
 ·intro π P e px;exact EO (K:=Kr π) ok _ e px
 ·intro π P T rest hl;rw[<-he];exact⟨trivial,hl⟩
 ·intro C π T F b W e DF Ds _ _ _ ha px hr
  exact BD ct.1 k t u C π T F b W e _ _ ha (fun W' tS Hd=>ng ct.1 k hk t u C π T F b W' e _ _ Hd (fun W2 h2=>hs C π T F b W2 e h2 px hr) _ rfl)
theorem zA(ct:Int × Int)(lo hi:Nat)(w:Wd)(k:Nat)(hk:k<8):J7 ct lo hi w (.iface 283 (.agg #[.int .i64 ct.1,.int .i64 (k:Nat)])) (Sp.Bl.read k) (aD ct):=by
 refine⟨⟨_,_,rfl,PI _ _⟩,fun π P e=>MW (Dm π) k e,?_,?_,?_,?_,?_,?_⟩
 ·intro rest;rfl
 ·intro rest hr;exact hr
 ·intro π P rest s;rfl
 ·intro π P e px;exact Sp.Wf.some (Sp.wf_set px k (Kr π).wwhole)
 ·intro π P T rest hl;exact⟨trivial,hl⟩
 ·intro C π T F b W e DF Ds _ _ _ ha px hr
  exact Iw ct.1 k hk C π T F b W e ha
theorem sC(ct:Int × Int)(lo hi:Nat)(w:Wd)(k:Nat)(v:Value)(x:Sp.Sm)(ct1:Int × Int)(u:Value)(y:Sp.Sm)(ct2:Int × Int)(hk:k<6)(h:xX.S (aL (aD ct)) v x ct1)(h':xX.S ct1 u y ct2):J7 ct lo hi w (.iface 287 (.agg #[.int .i64 ct.1,.int .i64 ct.2,.int .i64 (k:Nat),v,u])) (Sp.Bl.assert k x y) ct2:=by
 obtain⟨⟨tl,ul,rfl⟩,hs,sx,F8,rfl⟩:=h;obtain⟨⟨tr,ur,rfl⟩,dw,sy,FZ,rfl⟩:=h';have hc:=uC k hk tl ul tr ur x y _ F8 FZ sx sy hs dw;refine⟨⟨_,_,rfl,ID _ _ _ _ _⟩,fun π P e=>BZ (Dm π) ct.2 k x y (Sp.aL (Sp.aD ct)) e,?_,?_,?_,?_,?_,?_⟩
 ·intro rest;rfl
 ·intro rest hr;exact bR (bR F8 FZ) hr
 ·intro π P rest s;rfl
 ·intro π P e px;exact(lq (K:=Kr π) F8 FZ (Sp.Wf.some px)).1
 ·intro π P T rest hl;exact⟨trivial,hl⟩
 ·intro C π T F b W e DF Ds _ _ _ ha px hr
  have Ht:df b F ((Sp.dC (Dm π) k x y (Sp.aL (Sp.aD ct)) (some e)).1 ++ [gd.site ct.2 (Sp.dC (Dm π) k x y (Sp.aL (Sp.aD ct)) (some e)).2.2.isSome]):=hr;exact B8 ct.1 ct.2 k tl ul tr ur C π T F b W e _ _ ha (fun W' tS Hd=>mY ct.1 ct.2 k tl ul tr ur C π T F b W' e _ _ _ Hd (vT hc (Sp.Wf.some px) Ht.left) Ht.right)
theorem zH(ct:Int × Int)(lo hi:Nat)(w:Wd)(k:Nat)(v:Value)(x:Sp.Sm)(ct1:Int × Int)(u:Value)(y:Sp.Sm)(ct2:Int × Int)(bv:Value)(xs:List (Sp.Bl->Sp.Bl))(mz:Int × Int)(hk:k<6)(h:xX.S (aD ct) v x ct1)(h':xX.S ct1 u y ct2)(hb:nw J7 ct2 lo hi w bv xs mz) :
  J7 ct lo hi w (.iface 290 (.agg #[.int .i64 ct.1,.int .i64 (k:Nat),v,u,bv,.slice none 0 0,.bool false])) (Sp.Bl.ite k x y (aP xs) false .nil) mz:=by
 obtain⟨⟨tl,ul,rfl⟩,hs,sx,F8,rfl⟩:=h;obtain⟨⟨tr,ur,rfl⟩,dw,sy,FZ,rfl⟩:=h';obtain⟨av,nv,cv,rfl⟩:=eU hb;have B:=wT hb;have hc:=uC k hk tl ul tr ur x y _ F8 FZ sx sy hs dw;have yi:∀π,fO (Kr π) (Sp.dC (Dm π) k x y (Sp.aD ct)):=fun π s hs=>lq F8 FZ hs
 have uV:∀π P,fg (Kr π) (Sp.cF (Dm π) P (aP xs) (Sp.cS y (Sp.cS x (Sp.aD ct)))):=fun π P s hs=>fS P _ B.ok _ s hs
 refine⟨⟨_,_,rfl,QE _ _ _ _ _ _ _⟩,fun π P e=>u9 (Dm π) (Sp.dC (Dm π) k x y (Sp.aD ct)) (Sp.cF (Dm π) P (aP xs) (Sp.cS y (Sp.cS x (Sp.aD ct)))) (fun s=>([],s)) e,?_,?_,?_,?_,?_,?_⟩
 ·intro rest;rw[<-B.cb];rfl
 ·intro rest hr
  intro n hn;have:n∈rP x ++ rP y ++ ig (aP xs) ++ [] ++ ig rest:=hn;exact bR (bR (bR (bR F8 FZ) B.ok) (fun n h=>by cases h)) hr n this
 ·intro π P rest s;rw[<-B.cb];rfl
 ·intro π P e px;exact ML (K:=Kr π) (yi π) (uV π P) (fun s hs=>hs) e px
 ·intro π P T rest hl;rw[<-B.cb];exact⟨⟨hl.1,trivial⟩,hl.2⟩
 ·intro C π T F b W e DF Ds xw xu Nq ha px hr
  have wc:=yi π (some e) (Sp.Wf.some px);have Ht:df b F ((Sp.dC (Dm π) k x y (Sp.aD ct) (some e)).1 ++ (Sp.cF (Dm π) C.hI (aP xs) (Sp.cS y (Sp.cS x (Sp.aD ct))) (Sp.dC (Dm π) k x y (Sp.aD ct) (some e)).2.1).1 ++ []):=hr;exact G1 ct.1 k tl ul tr ur av nv cv none 0 0 false C π T F b W e _ _ ha (fun W' tS Hd=>jA ct.1 k tl ul tr ur av nv cv none 0 0 false C π T F b W' e _ _ [] _ _ _ _ _ Hd (vT hc (Sp.Wf.some px) Ht.left.left)
   (fun W2 zr NW=>B.calls C π T b W DF Ds xw xu Nq.1 _ W2 _ (tS.trans zr) NW wc.1 Ht.left.right)
   (fun W2 zr NW=>yP C π T _ b W2 _ NW) (uV π C.hI _ wc.1) wc.2 rfl)
theorem Fj(ct:Int × Int)(lo hi:Nat)(w:Wd)(k:Nat)(v:Value)(x:Sp.Sm)(ct1:Int × Int)(u:Value)(y:Sp.Sm)(ct2:Int × Int)(bv:Value)(xs:List (Sp.Bl->Sp.Bl))(mz:Int × Int)(cv:Value)(ys:List (Sp.Bl->Sp.Bl))(sM:Int × Int)(hk:k<6)(h:xX.S (aD ct) v x ct1)(h':xX.S ct1 u y ct2)(hb:nw J7 ct2 lo hi w bv xs mz)(NG:nw J7 mz lo hi w cv ys sM) :
  J7 ct lo hi w (.iface 290 (.agg #[.int .i64 ct.1,.int .i64 (k:Nat),v,u,bv,cv,.bool true])) (Sp.Bl.ite k x y (aP xs) true (aP ys)) sM:=by
 obtain⟨⟨tl,ul,rfl⟩,hs,sx,F8,rfl⟩:=h;obtain⟨⟨tr,ur,rfl⟩,dw,sy,FZ,rfl⟩:=h';obtain⟨av,nv,cv,rfl⟩:=eU hb;obtain⟨ae,ne,ce,rfl⟩:=eU NG;have B:=wT hb;have E:=wT NG;have hB:=B.cb;subst hB;have hc:=uC k hk tl ul tr ur x y _ F8 FZ sx sy hs dw;have yi:∀π,fO (Kr π) (Sp.dC (Dm π) k x y (Sp.aD ct)):=fun π s hs=>lq F8 FZ hs
 have uV:∀π P,fg (Kr π) (Sp.cF (Dm π) P (aP xs) (Sp.cS y (Sp.cS x (Sp.aD ct)))):=fun π P s hs=>fS P _ B.ok _ s hs
 have hew:∀π P,fg (Kr π) (Sp.cF (Dm π) P (aP ys) (Sp.cB (aP xs) (Sp.cS y (Sp.cS x (Sp.aD ct))))):=fun π P s hs=>fS P _ E.ok _ s hs
 refine⟨⟨_,_,rfl,QE _ _ _ _ _ _ _⟩,fun π P e=>u9 (Dm π) (Sp.dC (Dm π) k x y (Sp.aD ct)) (Sp.cF (Dm π) P (aP xs) (Sp.cS y (Sp.cS x (Sp.aD ct)))) (Sp.cF (Dm π) P (aP ys) (Sp.cB (aP xs) (Sp.cS y (Sp.cS x (Sp.aD ct))))) e,?_,?_,?_,?_,?_,?_⟩
 ·intro rest;rw[<-E.cb];rfl
 ·intro rest hr;exact bR (bR (bR (bR F8 FZ) B.ok) E.ok) hr
 ·intro π P rest s;rw[<-E.cb];rfl
 ·intro π P e px;exact ML (K:=Kr π) (yi π) (uV π P) (hew π P) e px
 ·intro π P T rest hl;rw[<-E.cb];exact⟨⟨hl.1,hl.2.1,trivial⟩,hl.2.2⟩
 ·intro C π T F b W e DF Ds xw xu Nq ha px hr
  have wc:=yi π (some e) (Sp.Wf.some px);have Ht:df b F ((Sp.dC (Dm π) k x y (Sp.aD ct) (some e)).1 ++ (Sp.cF (Dm π) C.hI (aP xs) (Sp.cS y (Sp.cS x (Sp.aD ct))) (Sp.dC (Dm π) k x y (Sp.aD ct) (some e)).2.1).1 ++ (Sp.cF (Dm π) C.hI (aP ys) (Sp.cB (aP xs) (Sp.cS y (Sp.cS x (Sp.aD ct)))) (Sp.dC (Dm π) k x y (Sp.aD ct) (some e)).2.2).1):=hr;exact G1 ct.1 k tl ul tr ur av nv cv ae ne ce true C π T F b W e _ _ ha (fun W' tS Hd=>jA ct.1 k tl ul tr ur av nv cv ae ne ce true C π T F b W' e _ _ _ _ _ _ _ _ Hd (vT hc (Sp.Wf.some px) Ht.left.left)
   (fun W2 zr NW=>B.calls C π T b W DF Ds xw xu Nq.1 _ W2 _ (tS.trans zr) NW wc.1 Ht.left.right)
   (fun W2 zr NW=>E.calls C π T b W DF Ds xw xu Nq.2.1 _ W2 _ (tS.trans zr) NW wc.2 Ht.R8) (uV π C.hI _ wc.1) (hew π C.hI _ wc.2) rfl)
theorem zJ(ct:Int × Int)(lo hi:Nat)(w:Wd)(k:Nat)(v:Value)(x:Sp.Sm)(ct1:Int × Int)(u:Value)(y:Sp.Sm)(ct2:Int × Int)(bv:Value)(xs:List (Sp.Bl->Sp.Bl))(mz:Int × Int)(hk:k<6)(h:xX.S (aD ct) v x ct1)(h':xX.S ct1 u y ct2)(hb:nw J7 ct2 lo hi w bv xs mz) :
  J7 ct lo hi w (.iface 293 (.agg #[.int .i64 ct.1,.int .i64 (k:Nat),v,u,bv])) (Sp.Bl.loop k x y (aP xs)) mz:=by
 obtain⟨⟨tl,ul,rfl⟩,hs,sx,F8,rfl⟩:=h;obtain⟨⟨tr,ur,rfl⟩,dw,sy,FZ,rfl⟩:=h';obtain⟨av,nv,cv,rfl⟩:=eU hb;have B:=wT hb;have hc:=uC k hk tl ul tr ur x y _ F8 FZ sx sy hs dw;have yi:∀π,fO (Kr π) (Sp.dC (Dm π) k x y (Sp.aD ct)):=fun π s hs=>lq F8 FZ hs
 have uV:∀π P,fg (Kr π) (Sp.cF (Dm π) P (aP xs) (Sp.cS y (Sp.cS x (Sp.aD ct)))):=fun π P s hs=>fS P _ B.ok _ s hs
 have Hi:∀π P,qe (D:=Dm π) (Sp.cF (Dm π) P (aP xs) (Sp.cS y (Sp.cS x (Sp.aD ct)))):=fun π P=>ie P _ _
 refine⟨⟨_,_,rfl,Ll _ _ _ _ _⟩,fun π P e=>Sp.rA (Dm π) P (Sp.dC (Dm π) k x y (Sp.aD ct)) (Sp.cF (Dm π) P (aP xs) (Sp.cS y (Sp.cS x (Sp.aD ct)))) ct.1 (some e),?_,?_,?_,?_,?_,?_⟩
 ·intro rest;rw[<-B.cb];rfl
 ·intro rest hr;exact bR (bR (bR F8 FZ) B.ok) hr
 ·intro π P rest s;rw[<-B.cb];rfl
 ·intro π P e px;exact Ee (K:=Kr π) (yi π) (uV π P) rfl (Hi π P) _ (Sp.Wf.some px)
 ·intro π P T rest hl;rw[<-B.cb];exact⟨⟨hl.1,hl.2.1,trivial⟩,hl.2.2⟩
 ·intro C π T F b W e DF Ds xw xu Nq ha px hr
  have hp:=Nq.1.1;have hT:T ct.1 (some e)=Sp.rA (Dm π) C.hI (Sp.dC (Dm π) k x y (Sp.aD ct)) (Sp.cF (Dm π) C.hI (aP xs) (Sp.cS y (Sp.cS x (Sp.aD ct)))) ct.1 (some e):=Nq.1.2 (some e);have pG:b=true->0<=ct.1/\ct.1.toNat<F.1.length:=fun hb=>by obtain⟨s',dw⟩:=Jr (K:=Kr π) (P:=C.hI) (yi π) (uV π C.hI) ct.1 px;exact hr hb _ dw
  have hl:=jU ct.1 hp k tl ul tr ur av nv cv C π T F b;refine Ea ct.1 k tl ul tr ur av nv cv C π T F b W e _ _ ha (fun W' tS Hd=>?_);have hlw:=hl W' (some e) Hd (Sp.Wf.some px) (fun W2 zr NW=>by
   rw[hT];exact AM ct.1 k tl ul tr ur av nv cv _ _ (fun s=>lL (Dm π) C.hI (Sp.dC (Dm π) k x y (Sp.aD ct)) (Sp.cF (Dm π) C.hI (aP xs) (Sp.cS y (Sp.cS x (Sp.aD ct)))) s) C π T F b W2 (some e) _ NW (Sp.Wf.some px) rfl
    (fun F' W3 s' h3 dw Ht=>hc C π T F' b W3 s' h3 dw Ht) (yi π) (uV π C.hI) (B.calls C π T b W2 ((tS.trans zr).same DF Ds) Ds xw xu Nq.2.1)
    (fun F' W3 s' h3 ha3 dw=>IN ct.1 k tl ul tr ur av nv cv x y (Sp.aD ct) _ C π T F' b W3 s' ha3 dw hc (yi π) (uV π C.hI) (Hi π C.hI) (B.calls C π T false W3 (((tS.trans zr).trans h3).same DF Ds) Ds xw xu Nq.2.1) xw)
    (fun s' dw=>Ge (yi π) (uV π C.hI) rfl (Hi π C.hI) dw) xu pG hr)
  rw[hT]at hlw;exact hlw
def RC:kt Sp.Tr xX where
 T:=J7
 mono:=by intro ct bh lo hi Bd nZ w w' v x h hl hh hs;obtain⟨h1,G,hG⟩:=h;refine⟨h1,G,hG.cb,hG.ok,hG.eq,hG.wf,hG.lp,?_⟩;intro C π T F b W e DF Ds;exact hG.calls C π T F b W e (fun k h1 h2 hn=>(DF k (by omega) (by omega) (by rw[hs k h1 h2 hn];exact hn)).trans (hs k h1 h2 hn)) (by omega)
 iface h:=by obtain⟨⟨t,u,e,_⟩,_⟩:=h;exact⟨t,u,e⟩
 assign:=si
 read:=zA
 assert:=sC
 ite:=zH
 iteElse:=Fj
 loop:=zJ
structure rW(w:Wd)(v:Sp.Iv)(l:List Sp.Iv)(W:Wd):Prop where
 o:W.heap[w.heap.size]?=some (.cells #[.int .i16 v.a,.int .i16 v.b] 131)
 z:W.heap[w.heap.size+1]?=some (.cells eX 220)
 x:W.heap[w.heap.size+1+1]?=some (.cells (ew true l) 220)
 b:Below w.heap.size w W
theorem rW.set{w:Wd}{v:Sp.Iv}{l:List Sp.Iv}{W:Wd}(h:rW w v l W)(hj:j<l.length):rW w v (l.set j v) ((W.setCell ⟨w.heap.size+1+1,1+j*2,none⟩ (.int .i16 v.a)).setCell ⟨w.heap.size+1+1,1+j*2+1,none⟩ (.int .i16 v.b)):=by
 have e1:w.heap.size≠w.heap.size+1+1:=by omega
 have e2:w.heap.size+1≠w.heap.size+1+1:=by omega
 refine⟨?_,?_,?_,(h.b.setCell (p:=⟨w.heap.size+1+1,1+j*2,none⟩) (by show w.heap.size<=w.heap.size+1+1;omega) _).setCell (p:=⟨w.heap.size+1+1,1+j*2+1,none⟩) (by show w.heap.size<=w.heap.size+1+1;omega) _⟩
 ·rw[Below.heap_setCell _ _ _ _ e1,Below.heap_setCell _ _ _ _ e1];exact h.o
 ·rw[Below.heap_setCell _ _ _ _ e2,Below.heap_setCell _ _ _ _ e2];exact h.z
 ·rw[ai (ai h.x (1+j*2) (.int .i16 v.a)) (1+j*2+1) (.int .i16 v.b),AR v hj]
def iQ(v:Sp.Iv)(j:Nat):List Sp.Iv:=List.replicate j v ++ List.replicate (8 - j) ⟨0,0⟩
theorem wm(v:Sp.Iv)(h:j<=8):(iQ v j).length=8:=by unfold iQ;simp;omega
theorem MR(v:Sp.Iv)(h:j<8):(iQ v j).set j v=iQ v (j+1):=by unfold iQ;rw[List.set_append_right _ _ (by simp),List.length_replicate,Nat.sub_self,show 8 - j=(8 - (j+1))+1 by omega,List.replicate_succ,List.set_cons_zero,List.replicate_succ'];simp
theorem p9(v:Sp.Iv)(w:Wd) :
  Calls prog 83 #[.agg #[.int .i16 v.a,.int .i16 v.b]] w fun e w'=>e=.returned (.agg (aK (some fun _=>v)))/\Below w.heap.size w w':=by
 have k:Hid (w.heap.size<=w.heap.size):=Nat.le_refl _;go_enter func83,ntmps83;go_wp2_with fail;have H0:Hid (rW w v (iQ v 0) (((w.alloc (.cells #[.int .i16 v.a,.int .i16 v.b] 131)).alloc (.cells eX 220)).alloc (.cells (ew true (iQ v 0)) 220))):=by obtain⟨k0,k1,k2,kb⟩:=bY (w:=w) (o1:=.cells #[.int .i16 v.a,.int .i16 v.b] 131) (o2:=.cells eX 220) (o3:=.cells (ew true (iQ v 0)) 220) (Below.refl _ _);exact⟨k0,k1,k2,kb⟩
 change Code.wp _ _ _ _ (((w.alloc (.cells #[.int .i16 v.a,.int .i16 v.b] 131)).alloc (.cells eX 220)).alloc (.cells (ew true (iQ v 0)) 220));generalize ((w.alloc (.cells #[.int .i16 v.a,.int .i16 v.b] 131)).alloc (.cells eX 220)).alloc (.cells (ew true (iQ v 0)) 220)=W0 at *
 go_loopw [6] (fun v6 wr=>∃j:Nat,j<=8/\v6=.int .i64 j/\Hid (rW w v (iQ v j) wr)) (fun v6 _=>8 - (intOf v6).toNat)
 case atStart=>exact⟨0,Nat.zero_le _,rfl,H0.out⟩
 case round =>
  obtain⟨j,hj,rfl,hq⟩:=hrel;clear H0 k;by_cases dW:j<8
  ·obtain⟨x,hxj⟩:∃x,(iQ v j)[j]?=some x:=⟨_,List.getElem?_eq_getElem (by rw[wm _ hj];omega)⟩
   have d0:=cell_of hq.o 0 (v:=.int .i16 v.a) rfl;have d1:=cell_of hq.o 1 (v:=.int .i16 v.b) rfl;have x0:=cell_of hq.x _ (iq hxj).1;have x1:=cell_of hq.x _ (iq hxj).2;have f0:=aw hq.x (1+j*2);have f1:=aw hq.x (1+j*2+1);have A:Hid (rW w v (iQ v (j+1)) ((wr.setCell ⟨w.heap.size+1+1,1+j*2,none⟩ (.int .i16 v.a)).setCell ⟨w.heap.size+1+1,1+j*2+1,none⟩ (.int .i16 v.b))):=by unfold Hid;rw[<-MR _ dW];exact hq.set (by rw[wm _ hj];omega)
   have uq:(j:Int)<8:=by omega
   clear hxj;go_wp2_with fail;exact⟨⟨j+1,by omega,by go_num,A⟩,by simp[intOf];omega⟩
  ·obtain rfl:j=8:=by omega
   have e8:ew true (iQ v 8)=aK (some fun _=>v):=by unfold aK;congr 1
   have hx:wr.heap[w.heap.size+1+1]?=some (.cells (ew true (iQ v 8)) 220):=hq.x;have hz:=hq.z;have hB:=hq.b;have sz:(ew true (iQ v 8)).size=17:=dU (wm _ (Nat.le_refl _));have o1:(ew true (iQ v 8)).all (·.oneCell')=true:=kL _ _;rw[e8]at hx sz o1;clear hq hj dW e8;generalize oe:aK (some fun _=>v)=xa at *;have N6:=hid oe;clear oe;have HX:Hid (_=_):=hx;have HZ:=hid hz;have hr:Hid (_=_):=ar hz (d:=xa) (by rw[sz];rfl);have HB:Hid (Below w.heap.size w _):=au (b:=w.heap.size+1) (by omega) xa.toList 0 w _ hB;clear hx hz hB;go_wp2_with (first
    | (refine bt rfl _ rfl rfl HX.out sz ?_)
    | (refine bV rfl _ _ rfl rfl rfl HZ.out rfl sz o1 ?_))
   refine bodyPost_ret (aN results83 _ _ rfl hr.out sz) rfl ⟨by rw[N6.out],HB.out⟩
end
end WI
end Go.Proofs.YtiopfihjmkfdmaaGreatDoor
