import Derived.Test.YtiopfihjmkfdmaaGreatDoorR21
namespace Go.Proofs.YtiopfihjmkfdmaaGreatDoor
open Option renaming none→M,some→Y
open Go.Obj renaming cells→L
open Go.Value renaming slice→Z,agg→J,bool→U,int→I,pointer→ρ,tuple→φ
open Go.IntKind renaming i64→O
open Go.Ending renaming returned→υ
open Go.Proofs.Tryz Sp
set_option maxRecDepth 100000
set_option maxHeartbeats 16000000
section
namespace RG
open Go.RowKit W
variable {δ : Bool}
theorem jg.bF{C:Rc δ}{l:List Int}{w w':Wd}(h:jg C l w)(k:RK C w w'):jg C l w':=by
 refine⟨?_,h.few⟩
 rcases h.at' with h | ⟨KF,cap,c,h1,h2,h3,h4,h5,h6,h7⟩
 ·exact .inl h
 ·exact .inr ⟨KF,cap,c,h1,(k.others _ (ad h2) h4 h5).trans h2,h3,h4,h5,h6,h7⟩
end RG
end
section
namespace RG
open Go.RowKit W
variable {δ : Bool}
theorem wT(w:Wd)(n:Nat):ω w (w.drewN n):=⟨rfl,rfl,rfl,Nat.le_refl _,fun _ _=>rfl⟩
theorem jg.other{C:Rc δ}{l:List Int}{w w':Wd}(h:jg C l w){k:Nat}(nY:∀j,j≠k->w'.heap[j]?=w.heap[j]?){c:Array Value}{ty:TypeId}(hk:Bk w k c ty)(ht:ty≠3):jg C l w':=by
 refine⟨?_,h.few⟩
 rcases h.at' with h | ⟨KF,cap,c',h1,h2,h3,h4,h5,h6,h7⟩
 ·exact .inl h
 ·refine .inr ⟨KF,cap,c',h1,(nY _ (fun q=>?_)).trans h2,h3,h4,h5,h6,h7⟩
  rw[q,hk]at h2;injection h2 with h2
  injection h2 with _ h2
  exact ht h2
end RG
end
section
namespace RG
open Go.RowKit W
variable {δ : Bool}
structure bn(C:Rc δ)(g cap:Nat)(ns:List aH)(l:List Int)(w:Wd)(k8:Nat)(o:List (Nat × Obj))(F:jr)(m:List (Nat × dw))(W:Wd):Prop where
 ra:bK C F W
 u6:jg C l W
 look:db C.pb g cap ns W
 res:W.heap[k8]?=Y (L #[U false,Z M 0 0] 121)
 l8:w.heap.size<=k8
 st:∀x∈m,w.heap.size<=x.1/\x.1≠k8/\ew δ x.2/\∃a n c,W.heap[x.1]?=Y (L #[U x.2.isNone,Z a n c] 121)/\dM W (J #[U x.2.isNone,Z a n c]) x.2
 apart:m.Pairwise fun x y=>x.1≠y.1
 ob:∀x∈o,w.heap.size<=x.1/\W.heap[x.1]?=Y x.2/\∀c,x.2≠L c 121
 bF:RK C w W
 old:C.gf<w.heap.size/\C.gs<w.heap.size
section
variable {C : Rc δ}{g cap : Nat}{ns : List aH}{l : List Int}{w : Wd}{k8 : Nat}{o : List (Nat × Obj)}{F F' : jr}{m : List (Nat × dw)}{W W' : Wd}
section
variable{s s':dw}
variable{a:Option Addr}
variable{n c k:Nat}
variable{m':List (Nat × dw)}
variable{x y:Nat × dw}
theorem bn.step(G:Gd C g)(h:bn C g cap ns l w k8 o F m W)(hR:bK C F' W')(k:RK C W W'):bn C g cap ns l w k8 o F' m W':=by
 obtain⟨o1,o2⟩:=h.old;have aU:∀(b:Nat) (ob:Obj),w.heap.size<=b->W.heap[b]?=Y ob->W'.heap[b]?=Y ob:=fun b ob hb ho=>(k.others b (ad ho) (by omega) (by omega)).trans ho
 exact⟨hR,h.u6.bF k,RG.look G h.look k,aU _ _ h.l8 h.res,h.l8,fun x hx=>by
  obtain⟨a1,a2,a3,a,n,c,a4,a5⟩:=h.st x hx;exact⟨a1,a2,a3,a,n,c,aU _ _ a1 a4,a5.bF h.ra k⟩,h.apart,fun x hx=>by
  obtain⟨a1,a2,a3⟩:=h.ob x hx;exact⟨a1,aU _ _ a1 a2,a3⟩,h.bF.trans k,h.old⟩
theorem bn.call(G:Gd C g)(h:bn C g cap ns l w k8 o F m W)(k:ω W W'):bn C g cap ns l w k8 o F m W':=h.step G (h.ra.call k) (RK.aB k h.ra.le)
theorem bn.new(G:Gd C g)(h:bn C g cap ns l w k8 o F m W)(hs:dM W (J #[U s.isNone,Z a n c]) s)(ws:ew δ s):bn C g cap ns l w k8 o F ((W.heap.size,s) :: m) (W.alloc (L #[U s.isNone,Z a n c] 121)):=by
 have b:=below_alloc1 W (L #[U s.isNone,Z a n c] 121);have h':=h.call G b;refine⟨h'.ra,h'.u6,h'.look,h'.res,h'.l8,fun x hx=>?_,?_,h'.ob,h'.bF,h'.old⟩
 ·rcases List.mem_cons.1 hx with rfl | hx
  ·exact⟨h.bF.below.size,fun e=>by have:=ad h.res;omega,ws,a,n,c,heap_alloc_new _ _,hs.below b⟩
  ·exact h'.st x hx
 ·refine List.pairwise_cons.2 ⟨fun x hx e=>?_,h.apart⟩
  obtain⟨_,_,_,_,_,_,q,_⟩:=h.st x hx;have:=ad q;have e':W.heap.size=x.1:=e;omega
theorem bn.Vv(G:Gd C g)(h:bn C g cap ns l w k8 o F m W)(ob:Obj)(ho:∀c,ob≠L c 121):bn C g cap ns l w k8 ((W.heap.size,ob) :: o) F m (W.alloc ob):=by
 have h':=h.call G (below_alloc1 W ob);refine⟨h'.ra,h'.u6,h'.look,h'.res,h'.l8,h'.st,h'.apart,fun x hx=>?_,h'.bF,h'.old⟩
 rcases List.mem_cons.1 hx with rfl | hx
 ·exact⟨h.bF.below.size,heap_alloc_new _ _,ho⟩
 ·exact h'.ob x hx
theorem bn.le(h:bn C g cap ns l w k8 o F m W):C.base<=w.heap.size:=Nat.le_trans h.ra.lf (Nat.le_of_lt h.old.1)
theorem bn.put(G:Gd C g)(h:bn C g cap ns l w k8 o F ((k,s) :: m) W)(hs:dM W (J #[U s'.isNone,Z a n c]) s')(ws:ew δ s'):bn C g cap ns l w k8 o F ((k,s') :: m) ((W.setCell ⟨k,0,M⟩ (U s'.isNone)).setCell ⟨k,1,M⟩ (Z a n c)):=by
 obtain⟨o1,o2⟩:=h.old;obtain⟨a1,a2,a3,x,y,z,a4,a5⟩:=h.st (k,s) (List.mem_cons_self ..);simp only at a1 a2 a3 a4 a5;have hle:=h.le;have nY:∀j,j≠k->((W.setCell ⟨k,0,M⟩ (U s'.isNone)).setCell ⟨k,1,M⟩ (Z a n c)).heap[j]?=W.heap[j]?:=fun j hj=>by rw[Below.heap_setCell _ _ _ _ hj,Below.heap_setCell _ _ _ _ hj]
 refine⟨h.ra.LD a4 (by omega) _ _,h.u6.other nY a4 (by decide),CQ G h.look (((Below.refl _ _).setCell (p:=⟨k,0,M⟩) (Nat.le_trans hle a1) _).setCell (p:=⟨k,1,M⟩) (Nat.le_trans hle a1) _),(nY _ a2.symm).trans h.res,h.l8,fun q hq=>?_,?_,fun q hq=>?_,(h.bF.own a1 hle _ _).own a1 hle _ _,h.old⟩
 ·rcases List.mem_cons.1 hq with rfl | hq
  ·exact⟨a1,a2,ws,a,n,c,by rw[ah (ah a4 0 _) 1 _];rfl,hs.put a4 _ _⟩
  ·obtain⟨b1,b2,b3,x',y',z',b4,b5⟩:=h.st q (List.mem_cons_of_mem _ hq)
   have dF:=(List.pairwise_cons.1 h.apart).1 q hq;exact⟨b1,b2,b3,x',y',z',(nY _ (fun e=>dF e.symm)).trans b4,b5.put a4 _ _⟩
 ·exact List.pairwise_cons.2 ⟨(List.pairwise_cons.1 h.apart).1,(List.pairwise_cons.1 h.apart).2⟩
 ·obtain⟨b1,b2,b3⟩:=h.ob q hq
  exact⟨b1,(nY _ (fun e=>by rw[e,a4]at b2;injection b2 with b2;exact b3 _ b2.symm)).trans b2,b3⟩
theorem bn.ret(h:bn C g cap ns l w k8 o F m W){u v:Value}(hs:dM W (J #[u,v]) s):bK C F ((W.setCell ⟨k8,0,M⟩ u).setCell ⟨k8,1,M⟩ v)/\RK C w ((W.setCell ⟨k8,0,M⟩ u).setCell ⟨k8,1,M⟩ v)/\dM ((W.setCell ⟨k8,0,M⟩ u).setCell ⟨k8,1,M⟩ v) (J #[u,v]) s/\((W.setCell ⟨k8,0,M⟩ u).setCell ⟨k8,1,M⟩ v).cell? ⟨k8,0,M⟩=Y u/\((W.setCell ⟨k8,0,M⟩ u).setCell ⟨k8,1,M⟩ v).cell? ⟨k8,1,M⟩=Y v:=by obtain⟨o1,o2⟩:=h.old;have l8:=h.l8;obtain⟨_,_,_,_,mq⟩:=aR h.res;exact⟨h.ra.LD h.res (by omega) _ _,(h.bF.own l8 h.le _ _).own l8 h.le _ _,hs.put h.res _ _,(mq u v).1,(mq u v).2⟩
theorem bn.sub{o':List (Nat × Obj)}(h:bn C g cap ns l w k8 o F m W)(h1:∀x∈m',x∈m)(h2:m'.Pairwise fun x y=>x.1≠y.1)(h3:∀x∈o',x∈o):bn C g cap ns l w k8 o' F m' W :=
 ⟨h.ra,h.u6,h.look,h.res,h.l8,fun x hx=>h.st x (h1 x hx),h2,fun x hx=>h.ob x (h3 x hx),h.bF,h.old⟩
theorem bn.dr(h:bn C g cap ns l w k8 o F (x :: m) W):bn C g cap ns l w k8 o F m W:=h.sub (fun _ hx=>List.mem_cons_of_mem _ hx) (List.pairwise_cons.1 h.apart).2 (fun _ hx=>hx)
theorem bn.OX{x:Nat × Obj}(h:bn C g cap ns l w k8 (x :: o) F m W):bn C g cap ns l w k8 o F m W:=h.sub (fun _ hx=>hx) h.apart (fun _ hx=>List.mem_cons_of_mem _ hx)
theorem bn.perm(h:bn C g cap ns l w k8 o F m W)(hp:m'.Perm m):bn C g cap ns l w k8 o F m' W:=h.sub (fun _ hx=>hp.mem_iff.1 hx) ((hp.pairwise_iff (fun {_ _} h=>Ne.symm h)).2 h.apart) (fun _ hx=>hx)
theorem bn.sw(h:bn C g cap ns l w k8 o F (x :: y :: m) W):bn C g cap ns l w k8 o F (y :: x :: m) W:=h.perm (List.Perm.swap ..)
end
end
section
variable{g cap n c:Nat}
variable{ns:List aH}
variable{a:Option Addr}
theorem PY{C:Rc δ}{l:List Int}{w:Wd}{F:jr}(G:Gd C g)(hR:bK C F w)(hS:jg C l w)(hL:db C.pb g cap ns w)(d:aH){s:dw}(hs:dM w (J #[U s.isNone,Z a n c]) s)(ws:ew δ s) :
  bn C g cap ns l w (w.heap.size+1+1) [(w.heap.size,L (nX d) 176)] F [(w.heap.size+1,s)] (((w.alloc (L (nX d) 176)).alloc (L #[U s.isNone,Z a n c] 121)).alloc (L #[U false,Z M 0 0] 121)):=by
 obtain⟨h1,h2,h3,kb⟩:=cH (w:=w) (o1:=L (nX d) 176) (o2:=L #[U s.isNone,Z a n c] 121) (o3:=L #[U false,Z M 0 0] 121) (Below.refl _ _);obtain⟨c1,q1,_⟩:=hR.gf;obtain⟨c2,q2,_⟩:=hR.gs;have hk:=RK.aB kb hR.le;refine⟨hR.call kb,hS.bF hk,RG.look G hL hk,h3,by omega,fun x hx=>?_,List.pairwise_singleton ..,fun x hx=>?_,hk,⟨ad q1,ad q2⟩⟩
 ·obtain rfl:=List.mem_singleton.1 hx
  exact⟨by show _<=w.heap.size+1;omega,by show w.heap.size+1≠_;omega,ws,a,n,c,h2,hs.below kb⟩
 ·obtain rfl:=List.mem_singleton.1 hx
  exact⟨Nat.le_refl _,h1,fun c e=>by injection e with _ e;exact absurd e (by decide)⟩
theorem OH{C:Rc δ}{l:List Int}{w:Wd}{F:jr}(G:Gd C g)(hR:bK C F w)(hS:jg C l w)(hL:db C.pb g cap ns w){s:dw}(hs:dM w (J #[U s.isNone,Z a n c]) s)(ws:ew δ s) :
  bn C g cap ns l w (w.heap.size+1) [] F [(w.heap.size,s)] ((w.alloc (L #[U s.isNone,Z a n c] 121)).alloc (L #[U false,Z M 0 0] 121)):=by
 obtain⟨h2,h3,kb⟩:=fh (w:=w) (o1:=L #[U s.isNone,Z a n c] 121) (o2:=L #[U false,Z M 0 0] 121) (Below.refl _ _);obtain⟨c1,q1,_⟩:=hR.gf;obtain⟨c2,q2,_⟩:=hR.gs;have hk:=RK.aB kb hR.le;refine⟨hR.call kb,hS.bF hk,RG.look G hL hk,h3,by omega,fun x hx=>?_,List.pairwise_singleton ..,fun x hx=>(by cases hx),hk,⟨ad q1,ad q2⟩⟩;obtain rfl:=List.mem_singleton.1 hx;exact⟨Nat.le_refl _,by show w.heap.size≠_;omega,ws,a,n,c,h2,hs.below kb⟩
def tL(p:Int):dw->List (eU T)
 | none=>[]
 | some s=>[.ay p s]
theorem Bt(π:ar δ)(p:Int)(s:dw):tL p s=pI (Dm π) p s:=by cases s<;>rfl
theorem xG(π:ar δ)(C:Rc δ)(F:jr)(p:Int)(s:dw)(v:Value)(rec:Bool)(w:Wd)(h:bK C F w)(hv:dM w v s)(ws:ew δ s)(hr:cV rec F (tL p s)) :
  Calls prog 77 #[ρ (Y ⟨C.b,0,M⟩),I O p,v,U rec] w fun r w'=>r=υ (φ #[])/\bK C (told π rec F (tL p s)) w'/\RK C w w':=by
 obtain⟨a,n,c,rfl⟩:=hv.form;cases rec with
 | false =>refine(C8 C.b p s.isNone a n c false w (.inl rfl)).mono ?_;rintro r w'⟨rfl,b⟩;exact⟨rfl,h.call b,RK.aB b h.le⟩
 | true =>
  cases s with
  | none =>refine(C8 C.b p true a n c true w (.inr rfl)).mono ?_;rintro r w'⟨rfl,b⟩;exact⟨rfl,h.call b,RK.aB b h.le⟩
  | some e =>obtain⟨ge,e1,e2⟩:=hv;obtain⟨q1,q2⟩:=hr rfl (.ay p e) (List.mem_singleton.2 rfl);obtain⟨pn,rfl⟩:∃pn:Nat,p=(pn:Int):=⟨p.toNat,by omega⟩;rw[e1];refine(OR C π F pn e ge w h (by simpa using q2) (ws e rfl) e2).mono ?_;rintro r w'⟨rfl,h1,h2⟩;exact⟨rfl,h1,h2⟩
end
end RG
end
section
namespace RG
open Go.RowKit W
variable {δ : Bool}
section
variable{oj sj i s ο:dw}
variable{p:Int}
variable{m al k f n:Nat}
abbrev iJ:=List (eU T)
abbrev du:=dw->iJ × dw × dw
abbrev dA:=dw->iJ × dw
def ib(C:Rc δ):zB:=⟨C.al,C.narrow,C.ai⟩
def rS(π:ar δ)(C:Rc δ)(cond:du)(body:dA)(p:Int)(s:dw):iJ × dw:=Sp.rS (Dm π) (ib C) cond body p s
def Vx(π:ar δ)(cond:du)(body:dA)(p:Int)(n:Nat)(s:dw):iJ × dw × dw:=jH (Dm π) cond body p n M s
def Ft(π:ar δ)(C:Rc δ)(cond:du)(body:dA)(s:dw):dw:=ma (Dm π) (ib C) cond body s
def BO(δ:Bool)(cond:du)(body:dA)(s i:dw):dw:=uY δ s (body (cond i).2.1).2
theorem Lu(π:ar δ)(cond:du)(body:dA)(s i:dw):BO δ cond body s i=jP (Dm π) cond body s i:=mY π _ _
theorem Ak(π:ar δ)(C:Rc δ)(cond:du)(body:dA)(p:Int)(s:dw){ej:iJ}(hU:Vx π cond body p C.ai s=(ej,oj,sj))(hi:Ft π C cond body sj=i) :
  rS π C cond body p s=(ej ++ tL p i ++ (cond i).1 ++ (body (cond i).2.1).1,uY δ oj (cond i).2.2):=by
 have h1:jH (Dm π) cond body p (ib C).ai M s=(ej,oj,sj):=hU;have h2:ma (Dm π) (ib C) cond body sj=i:=hi;unfold rS Sp.rS;simp only;rw[h1];simp only;rw[h2,mY π,Bt π];rfl
structure Jg(π:ar δ)(cond:du)(body:dA):Prop where
 wc:fS (Kr π) cond
 wb:eV (Kr π) body
 nc:cond M=([],M,M)
 nb:body M=([],M)
theorem Jg.c{π:ar δ}{cond:du}{body:dA}(h:Jg π cond body)(hs:ew δ s):ew δ (cond s).2.1/\ew δ (cond s).2.2:=h.wc s hs
theorem Jg.b{π:ar δ}{cond:du}{body:dA}(h:Jg π cond body)(hs:ew δ s):ew δ (body s).2:=h.wb s hs
def JM(π:ar δ)(cond:du)(body:dA)(p:Int)(ο:iJ × dw × dw)(m:Nat)(ej:iJ)(oj sj:dw):Prop:=lX (Kr π) cond body p ο m ej oj sj
theorem JM.start(π:ar δ)(cond:du)(body:dA)(p:Int)(n:Nat)(hs:ew δ s):JM π cond body p (Vx π cond body p n s) n [] M s:=lX.start (K:=Kr π) cond body p n hs
theorem JM.end{π:ar δ}{cond:du}{body:dA}{ο:iJ × dw × dw}{ej:iJ}(h:JM π cond body p ο 0 ej oj sj):ο=(ej,oj,sj):=lX.end h
theorem JM.wf{π:ar δ}{cond:du}{body:dA}{ο:iJ × dw × dw}{ej:iJ}(h:JM π cond body p ο m ej oj sj):ew δ oj/\ew δ sj:=⟨h.wo,h.ws⟩
theorem JM.on{π:ar δ}{cond:du}{body:dA}(g:Jg π cond body){ο:iJ × dw × dw}{ej:iJ}(h:JM π cond body p ο (m+1) ej oj sj) :
  JM π cond body p ο m (ej ++ tL p sj ++ (cond sj).1 ++ (body (cond sj).2.1).1) (uY δ oj (cond sj).2.2) (body (cond sj).2.1).2:=by
 rw[Bt π,mY π];exact lX.on g.wc g.wb h
theorem JM.Zh{π:ar δ}{cond:du}{body:dA}{ο:iJ × dw × dw}{ej:iJ}(h:JM π cond body p ο (m+1) ej oj sj){rec:Bool}{F:jr}(hr:cV rec F ο.1) :
  cV rec (told π rec F ej) (tL p sj)/\cV rec (told π rec (told π rec F ej) (tL p sj)) (cond sj).1/\cV rec (told π rec (told π rec (told π rec F ej) (tL p sj)) (cond sj).1) (body (cond sj).2.1).1:=by
 obtain⟨more,e⟩:∃more:iJ,ο.1=ej ++ tL p sj ++ (cond sj).1 ++ (body (cond sj).2.1).1 ++ more:=by rw[Bt π];exact lX.parts h
 rw[e]at hr;have h1:=cV.left hr;have h2:=cV.left h1;refine⟨cV.right (cV.left h2),?_,?_⟩
 ·rw[<-aF];exact cV.right h2
 ·have q:=cV.right (π:=π) h1
  rw[aF,aF]at q;exact q
theorem He(s t:dw):Pp s t=true↔s=t:=by rw[S5 (⟨[]⟩:ar true)];exact mU (Dm (⟨[]⟩:ar true)) s t
def GL(π:ar δ)(cond:du)(body:dA)(s:dw)(al:Nat)(ο:dw)(k f:Nat)(i:dw):Prop:=pH (Kr π) (BO δ cond body s) al ο k f i
def Ly(π:ar δ)(cond:du)(body:dA)(s:dw)(al:Nat):dw:=Sp.fixF (Dm π) (BO δ cond body s) al 1100000 1 s
theorem Sx{π:ar δ}{cond:du}{body:dA}(g:Jg π cond body):BO δ cond body M M=M:=by unfold BO;rw[g.nc];show uY δ M (body M).2=M;rw[g.nb];rfl
theorem GL.start{π:ar δ}{cond:du}{body:dA}(g:Jg π cond body)(hs:ew δ s)(al:Nat):GL π cond body s al (Ly π cond body s al) 1 1100000 s :=
 pH.start (K:=Kr π) rfl hs (fun e=>by subst e;exact Sx g)
theorem GL.wf{π:ar δ}{cond:du}{body:dA}(h:GL π cond body s al ο k f i):ew δ i:=pH.wf h
theorem GL.sum{π:ar δ}{cond:du}{body:dA}(h:GL π cond body s al ο k f i):f+k=1100001:=pH.sum h
theorem GL.end{π:ar δ}{cond:du}{body:dA}(h:GL π cond body s al ο k f i)(he:Pp i (uY δ i (BO δ cond body s i))=true):i=ο :=
 pH.end h ((mU (Dm π) _ _).2 (((He _ _).1 he).trans (mY π _ _)).symm)
theorem GL.on{π:ar δ}{cond:du}{body:dA}(g:Jg π cond body)(hs:ew δ s)(h:GL π cond body s al ο k f i)(he:Pp i (uY δ i (BO δ cond body s i))=false) :
  ∃(e n:dS) (f':Nat),i=Y e/\(∀q,Wv δ (e q))/\uY δ i (BO δ cond body s i)=Y n/\(∀q,Wv δ (n q))/\f=f'+1/\GL π cond body s al ο (k+1) f' (if al<k then Y fun q=>fT π (e q) (n q) else Y n):=by
 have hn:∀i,Sp.Wf (Kr π) i->Sp.Wf (Kr π) (BO δ cond body s i):=fun i hi=>oC hs (g.b (g.c hi).1)
 have x9:FQ (Dm π) (Sp.jn (Dm π) i (BO δ cond body s i)) i=false:=by
  cases hq:FQ (Dm π) (Sp.jn (Dm π) i (BO δ cond body s i)) i with
  | false=>rfl
  | true =>have q:=(mU (Dm π) _ _).1 hq;rw[(He _ _).2 (((mY π _ _).trans q).symm)]at he;cases he
 obtain⟨e,n,f',h1,h2,h3,h4,h5,h6⟩:=pH.on (K:=Kr π) h hn x9;refine⟨e,n,f',h1,h2,(mY π _ _).trans h3,h4,h5,?_⟩;have q:oZ (Dm π) (BO δ cond body s) al k i=(if al<k then Y (fun q=>fT π (e q) (n q)) else Y n:dw):=by
  unfold oZ;rw[h3,h1];by_cases hd:al<k
  ·rw[if_pos hd,if_pos hd];rfl
  ·rw[if_neg hd,if_neg hd];rfl
 rw[q]at h6;exact h6
def Jw(π:ar δ)(cond:du)(body:dA)(s ο:dw)(n:Nat)(i:dw):Prop:=rD (Kr π) cond body s ο n i
theorem PE(π:ar δ)(cond:du)(body:dA)(s:dw)(al:Nat):Ly π cond body s al=Sp.fixF (Dm π) (jP (Dm π) cond body s) al (Dm π).fuel 1 s:=by
 have e:BO δ cond body s=jP (Dm π) cond body s:=funext fun i=>Lu π cond body s i
 unfold Ly;rw[e];rfl
theorem Jw.start{π:ar δ}{cond:du}{body:dA}(g:Jg π cond body)(C:Rc δ)(hs:ew δ s):Jw π cond body s (Ft π C cond body s) C.narrow (Ly π cond body s C.al):=by rw[PE];exact rD.start (K:=Kr π) (P:=ib C) g.wc g.wb g.nc g.nb hs
theorem Jw.end{π:ar δ}{cond:du}{body:dA}(h:Jw π cond body s ο 0 i):i=ο:=h.eq
theorem Jw.wf'{π:ar δ}{cond:du}{body:dA}(h:Jw π cond body s ο n i):ew δ i:=h.wf
theorem Jw.on{π:ar δ}{cond:du}{body:dA}(g:Jg π cond body)(hs:ew δ s)(h:Jw π cond body s ο (n+1) i) :
  (i=M/\Jw π cond body s ο n M)∨∃e e':dS,i=Y e/\BO δ cond body s i=Y e'/\(∀q,Wv δ (e q))/\(∀q,Wv δ (e' q))/\Jw π cond body s ο n (Y fun q=>ik δ (e q) (e' q)):=by
 obtain⟨h1,h2⟩:=rD.on g.wc g.wb hs h
 rcases h2 with rfl | ⟨e,e',q1,q2,q3,q4⟩
 ·exact .inl ⟨rfl,h1⟩
 ·refine .inr ⟨e,e',q1,(Lu π cond body s i).trans q2,q3,q4,?_⟩
  rw[q2,q1]at h1;exact h1
theorem E0(l:List Int){x y:T}(hx:j7 x):dQ ([-32768,32767] ++ l) x y=dQ l x y:=by
 obtain⟨h1,h2,h3⟩:=hx;unfold dQ;by_cases ha:y.a<x.a
 ·have e1:mr ([-32768,32767] ++ l) y.a=mr l y.a:=by
   unfold mr;rw[List.foldl_append];congr 1;simp only[List.foldl];split<;>split<;>omega
  rw[e1];by_cases hb:x.b<y.b
  ·have e2:gW ([-32768,32767] ++ l) y.b=gW l y.b:=by
    unfold gW;rw[List.foldl_append];congr 1;simp only[List.foldl];split<;>split<;>omega
   rw[e2]
  ·rw[if_neg hb,if_neg hb]
 ·rw[if_neg ha,if_neg ha]
  by_cases hb:x.b<y.b
  ·have e2:gW ([-32768,32767] ++ l) y.b=gW l y.b:=by
    unfold gW;rw[List.foldl_append];congr 1;simp only[List.foldl];split<;>split<;>omega
   rw[e2]
  ·rw[if_neg hb,if_neg hb]
theorem Cb(π:ar δ)(l:List Int)(h:π.l=[-32768,32767] ++ l){x y:T}(hx:Wv δ x):fT π x y=fT (⟨l⟩:ar δ) x y:=by
 cases δ
 ·rfl
 ·show dQ π.l x y=dQ l x y
  rw[h];exact E0 l hx
theorem VC(π:ar δ)(f:dw){e q:dS}(wq:∀k,Wv δ (q k))(h:∀k,(Kr π).sub (e k) (q k)):Sp.jn (Dm π) (Sp.jn (Dm π) f (Y e)) (Y q)=Sp.jn (Dm π) f (Y q):=by
 cases f with
 | none=>exact congrArg Y (funext fun k=>Mn π (wq k) (h k))
 | some z=>exact congrArg Y (funext fun k=>Po π (z k) (h k))
theorem PG{α:Type}(l:List α)(p:Nat)(f g h:α->α)(e:∀x,g (f x)=h x):(l.modify p f).modify p g=l.modify p h:=by
 refine List.ext_getElem? fun i=>?_
 rw[List.getElem?_modify,List.getElem?_modify,List.getElem?_modify];cases l[i]? with
 | none=>rfl
 | some x =>
  by_cases hi:p=i
  ·simp[hi,e]
  ·simp[hi]
theorem Ng(π:ar δ)(F:jr)(p:Int)(e q:dS)(wq:∀k,Wv δ (q k))(h:∀k,(Kr π).sub (e k) (q k)):cP (Dm π) (cP (Dm π) F (.ay p e)) (.ay p q)=cP (Dm π) F (.ay p q) :=
 Prod.ext (PG (α:=dw) F.1 p.toNat _ _ _ (fun x=>VC π x wq h)) rfl
theorem IL(π:ar δ)(C:Rc δ){cond:du}{body:dA}(g:Jg π cond body)(p:Int)(rec:Bool)(F:jr){e:dS}(he:∀k,Wv δ (e k)):told π rec F (.ay p e :: (rS π C cond body p (Y e)).1)=told π rec F (rS π C cond body p (Y e)).1:=by
 cases rec with
 | false=>rfl
 | true =>
  show Sp.tell (Dm π) F (.ay p e :: (rS π C cond body p (Y e)).1)=Sp.tell (Dm π) F (rS π C cond body p (Y e)).1;have main:∃(q:dS) (es:iJ),(∀k,Wv δ (q k))/\(∀k,(Kr π).sub (e k) (q k))/\(rS π C cond body p (Y e)).1=.ay p q :: es:=by
   cases hn:C.ai with
   | zero =>
    obtain⟨q,hq,wq,hs⟩:∃q:dS,Ft π C cond body (Y e)=Y q/\(∀k,Wv δ (q k))/\∀k,(Kr π).sub (e k) (q k):=by have h0:=tu (K:=Kr π) (P:=ib C) g.wc g.wb he;obtain⟨q,h1,h2⟩:=h0.2 e rfl;exact⟨q,h1,h0.1 q h1,fun k=>h2 k⟩
    refine⟨q,(cond (Y q)).1 ++ (body (cond (Y q)).2.1).1,wq,hs,?_⟩;have hU:Vx π cond body p C.ai (Y e)=([],M,Y e):=by rw[hn];rfl
    rw[Ak π C cond body p (Y e) hU (i:=Y q) hq];simp[tL]
   | succ n =>
    obtain⟨ej,oj,sj,hU⟩:∃ej oj sj,Vx π cond body p C.ai (Y e)=(ej,oj,sj):=⟨_,_,_,rfl⟩;have h1:∃es,ej=.ay p e :: es:=by have:=congrArg Prod.fst hU;rw[hn]at this;exact⟨_,this.symm⟩
    obtain⟨es,rfl⟩:=h1;refine⟨e,es ++ tL p (Ft π C cond body sj) ++ (cond (Ft π C cond body sj)).1 ++ (body (cond (Ft π C cond body sj)).2.1).1,he,fun k=>(Kr π).sub_refl _,?_⟩;rw[Ak π C cond body p (Y e) hU rfl];simp
  obtain⟨q,es,h0,h1,h2⟩:=main;rw[h2];show Sp.tell (Dm π) (cP (Dm π) (cP (Dm π) F (.ay p e)) (.ay p q)) es=Sp.tell (Dm π) (cP (Dm π) F (.ay p q)) es;rw[Ng π F p e q h0 h1]
end
end RG
end
section
namespace RG
open Go.RowKit W
theorem yh(b:Nat)(va:Option Addr)(vn vc:Nat)(n:Bool)(w:Wd) :
  Calls prog 152 #[ρ (Y ⟨b,0,M⟩),J #[U true,Z M 0 0],J #[U n,Z va vn vc]] w fun r w'=>r=υ (J #[U true,Z M 0 0])/\ω w w':=by
 go_enter func152,ntmps152;go_wp2_with fail;go_returns;exact⟨rfl,by go_grown⟩
end RG
end
section
namespace RG
open Go.RowKit W
variable {δ : Bool}
def zG(C:Rc δ)(π:ar δ)(g cap:Nat)(ns:List aH)(ka:Nat)(cond:du):Prop:=∀(F:jr) (s:dw) (sv:Value) (rec:Bool) (w:Wd),bK C F w->db C.pb g cap ns w->ew δ s->dM w sv s->cV rec F (cond s).1 ->
 Calls prog 108 #[ρ (Y ⟨C.b,0,M⟩),I O (ka:Nat),sv,U rec] w fun r w'=>∃v1 v2,r=υ (φ #[v1,v2])/\bK C (told π rec F (cond s).1) w'/\RK C w w'/\dM w' v1 (cond s).2.1/\dM w' v2 (cond s).2.2
def rA(C:Rc δ)(π:ar δ)(g cap:Nat)(ns:List aH)(l:List Int)(kb:Int)(body:dA):Prop:=∀(F:jr) (s:dw) (sv:Value) (rec:Bool) (w:Wd),bK C F w->jg C l w->db C.pb g cap ns w->ew δ s->dM w sv s->cV rec F (body s).1 ->
 Calls prog 76 #[ρ (Y ⟨C.b,0,M⟩),I O kb,sv,U rec] w fun r w'=>∃v,r=υ v/\bK C (told π rec F (body s).1) w'/\RK C w w'/\dM w' v (body s).2
section
variable {C : Rc δ}{π : ar δ}{g cap : Nat}{ns : List aH}{l : List Int}{w : Wd}{k8 : Nat}{o : List (Nat × Obj)}{F : jr}{m : List (Nat × dw)}{W : Wd}
section
variable{s t u:dw}
variable{a a':Option Addr}
variable{n c n' c' ka:Nat}
variable{rec:Bool}
theorem bn.box(h:bn C g cap ns l w k8 o F m W)(k:Nat)(s:dw)(hx:(k,s)∈m):∃a n c,W.cell? ⟨k,0,M⟩=Y (U s.isNone)/\W.cell? ⟨k,1,M⟩=Y (Z a n c)/\W.frozen? ⟨k,0,M⟩=false/\W.frozen? ⟨k,1,M⟩=false/\dM W (J #[U s.isNone,Z a n c]) s/\ew δ s:=by obtain⟨_,_,ws,a,n,c,hb,hs⟩:=h.st (k,s) hx;obtain⟨s0,s1,f0,f1,_⟩:=aR hb;exact⟨a,n,c,s0,s1,f0,f1,hs,ws⟩
theorem bn.node(h:bn C g cap ns l w k8 o F m W)(k:Nat)(d:aH)(hx:(k,L (nX d) 176)∈o):W.heap[k]?=Y (L (nX d) 176):=(h.ob _ hx).2.1
theorem bn.Jt(G:Gd C g)(h:bn C g cap ns l w k8 o F m W)(hs:dM W (J #[U s.isNone,Z a n c]) s)(ws:ew δ s)(ht:dM W (J #[U t.isNone,Z a' n' c']) t)(wt:ew δ t) :
  bn C g cap ns l w k8 o F ((W.heap.size+1,t) :: (W.heap.size,s) :: m) ((W.alloc (L #[U s.isNone,Z a n c] 121)).alloc (L #[U t.isNone,Z a' n' c'] 121)):=by
 have h1:=(h.new G hs ws).new G (ht.below (below_alloc1 W (L #[U s.isNone,Z a n c] 121))) wt;rw[show(W.alloc (L #[U s.isNone,Z a n c] 121)).heap.size=W.heap.size+1 by simp]at h1;exact h1
theorem o9(π:ar δ)(G:Gd C g)(h:bn C g cap ns l w k8 o F m W)(p:Int)(hs:dM W (J #[U s.isNone,Z a n c]) s)(ws:ew δ s)(hr:cV rec F (tL p s)) :
  Calls prog 77 #[ρ (Y ⟨C.b,0,M⟩),I O p,J #[U s.isNone,Z a n c],U rec] W fun r w'=>r=υ (φ #[])/\bn C g cap ns l w k8 o (told π rec F (tL p s)) m w' :=
 (xG π C F p s _ rec W h.ra hs ws hr).mono fun _ _ ⟨h1,h2,h3⟩=>⟨h1,h.step G h2 h3⟩
theorem zG.go{cond:du}(hA:zG C π g cap ns ka cond)(G:Gd C g)(h:bn C g cap ns l w k8 o F m W){yes no:dw}{te:iJ}(hc:cond s=(te,yes,no))(hs:dM W (J #[U s.isNone,Z a n c]) s)(ws:ew δ s)(hr:cV rec F te) :
  Calls prog 108 #[ρ (Y ⟨C.b,0,M⟩),I O (ka:Nat),J #[U s.isNone,Z a n c],U rec] W fun r w'=>∃a1 n1 c1 a2 n2 c2,r=υ (φ #[J #[U yes.isNone,Z a1 n1 c1],J #[U no.isNone,Z a2 n2 c2]])/\bn C g cap ns l w k8 o (told π rec F te) m w'/\dM w' (J #[U yes.isNone,Z a1 n1 c1]) yes/\dM w' (J #[U no.isNone,Z a2 n2 c2]) no:=by
 have q:=hA F s _ rec W h.ra h.look ws hs (by rw[hc];exact hr);rw[hc]at q;refine q.mono ?_;rintro r w'⟨v1,v2,rfl,h1,h2,h3,h4⟩;have xJ:dM w' v1 yes:=h3;have h4':dM w' v2 no:=h4;obtain⟨a1,n1,c1,rfl⟩:=xJ.form;obtain⟨a2,n2,c2,rfl⟩:=h4'.form;exact⟨a1,n1,c1,a2,n2,c2,rfl,h.step G h1 h2,xJ,h4'⟩
theorem rA.go{kb:Int}{body:dA}(hA:rA C π g cap ns l kb body)(G:Gd C g)(h:bn C g cap ns l w k8 o F m W){te:iJ}(hc:body s=(te,t))(hs:dM W (J #[U s.isNone,Z a n c]) s)(ws:ew δ s)(hr:cV rec F te) :
  Calls prog 76 #[ρ (Y ⟨C.b,0,M⟩),I O kb,J #[U s.isNone,Z a n c],U rec] W fun r w'=>∃a1 n1 c1,r=υ (J #[U t.isNone,Z a1 n1 c1])/\bn C g cap ns l w k8 o (told π rec F te) m w'/\dM w' (J #[U t.isNone,Z a1 n1 c1]) t:=by
 have q:=hA F s _ rec W h.ra h.u6 h.look ws hs (by rw[hc];exact hr);rw[hc]at q;refine q.mono ?_;rintro r w'⟨v1,rfl,h1,h2,h3⟩;have xJ:dM w' v1 t:=h3;obtain⟨a1,n1,c1,rfl⟩:=xJ.form;exact⟨a1,n1,c1,rfl,h.step G h1 h2,xJ⟩
theorem pv(G:Gd C g)(h:bn C g cap ns l w k8 o F m W)(hu:uY δ s t=u)(hs:dM W (J #[U s.isNone,Z a n c]) s)(ws:ew δ s)(ht:dM W (J #[U t.isNone,Z a' n' c']) t)(wt:ew δ t) :
  Calls prog 110 #[ρ (Y ⟨C.b,0,M⟩),J #[U s.isNone,Z a n c],J #[U t.isNone,Z a' n' c']] W fun r w'=>∃a1 n1 c1,r=υ (J #[U u.isNone,Z a1 n1 c1])/\bn C g cap ns l w k8 o F m w'/\dM w' (J #[U u.isNone,Z a1 n1 c1]) u:=by
 refine(wm C.b W h.ra.bY h.ra.cells.1 hs ht ws wt).mono ?_;rintro r w'⟨v,rfl,h1,h2⟩;rw[hu]at h1;obtain⟨a1,n1,c1,rfl⟩:=h1.form;exact⟨a1,n1,c1,rfl,h.call G h2,h1⟩
theorem Qa(G:Gd C g)(h:bn C g cap ns l w k8 o F m W)(hs:dM W (J #[U s.isNone,Z a n c]) s)(ht:dM W (J #[U t.isNone,Z a' n' c']) t) :
  Calls prog 150 #[J #[U s.isNone,Z a n c],J #[U t.isNone,Z a' n' c']] W fun r w'=>r=υ (U (Pp s t))/\bn C g cap ns l w k8 o F m w' :=
 (qA W hs ht).mono fun _ _ ⟨h1,h2⟩=>⟨h1,h.call G h2⟩
theorem Lz(G:Gd C g)(h:bn C g cap ns l w k8 o F m W){e f:dS}(hs:dM W (J #[U (Y e:dw).isNone,Z a n c]) (Y e))(ht:dM W (J #[U (Y f:dw).isNone,Z a' n' c']) (Y f))(hu:u=Y fun k=>fT (⟨l⟩:ar δ) (e k) (f k)) :
  Calls prog 151 #[ρ (Y ⟨C.b,0,M⟩),J #[U (Y e:dw).isNone,Z a n c],J #[U (Y f:dw).isNone,Z a' n' c']] W fun r w'=>∃a1 n1 c1,r=υ (J #[U u.isNone,Z a1 n1 c1])/\bn C g cap ns l w k8 o F m w'/\dM w' (J #[U u.isNone,Z a1 n1 c1]) u:=by
 obtain⟨g1,e1,e2⟩:=hs;obtain⟨g2,f1,f2⟩:=ht;rw[e1,f1];refine(G.wd.widened l F g1 g2 e f W h.ra h.u6 e2 f2).mono ?_;rintro r w'⟨v,rfl,h1,h2⟩;rw[<-hu]at h1;obtain⟨a1,n1,c1,rfl⟩:=h1.form;exact⟨a1,n1,c1,rfl,h.call G h2,h1⟩
theorem Ix(G:Gd C g)(h:bn C g cap ns l w k8 o F m W){e f:dS}(hs:dM W (J #[U (Y e:dw).isNone,Z a n c]) (Y e))(ht:dM W (J #[U (Y f:dw).isNone,Z a' n' c']) (Y f))(hu:u=Y fun k=>ik δ (e k) (f k)) :
  Calls prog 152 #[ρ (Y ⟨C.b,0,M⟩),J #[U (Y e:dw).isNone,Z a n c],J #[U (Y f:dw).isNone,Z a' n' c']] W fun r w'=>∃a1 n1 c1,r=υ (J #[U u.isNone,Z a1 n1 c1])/\bn C g cap ns l w k8 o F m w'/\dM w' (J #[U u.isNone,Z a1 n1 c1]) u:=by
 obtain⟨g1,e1,e2⟩:=hs;obtain⟨g2,f1,f2⟩:=ht;rw[e1,f1];refine(G.wd.narrowed l F g1 g2 e f W h.ra h.u6 e2 f2).mono ?_;rintro r w'⟨v,rfl,h1,h2⟩;rw[<-hu]at h1;obtain⟨a1,n1,c1,rfl⟩:=h1.form;exact⟨a1,n1,c1,rfl,h.call G h2,h1⟩
theorem EF(G:Gd C g)(h:bn C g cap ns l w k8 o F m W)(QZ:s=M)(hu:u=M)(hs:dM W (J #[U s.isNone,Z a n c]) s) :
  Calls prog 152 #[ρ (Y ⟨C.b,0,M⟩),J #[U s.isNone,Z a n c],J #[U t.isNone,Z a' n' c']] W fun r w'=>∃a1 n1 c1,r=υ (J #[U u.isNone,Z a1 n1 c1])/\bn C g cap ns l w k8 o F m w'/\dM w' (J #[U u.isNone,Z a1 n1 c1]) u:=by
 subst QZ hu;have e:Value.agg #[U (M:dw).isNone,Z a n c]=J #[U true,Z M 0 0]:=hs;rw[e];refine(yh C.b a' n' c' t.isNone W).mono ?_;rintro r w'⟨rfl,h2⟩;exact⟨M,0,0,rfl,h.call G h2,rfl⟩
end
end
end RG
end
section
namespace RG
open Go.RowKit W
variable {δ : Bool}
theorem kG(π:ar δ)(l:List Int)(hπ:π.l=[-32768,32767] ++ l){C:Rc δ}{g cap:Nat}{ns:List aH}(G:Gd C g)(hP:C.al<=4/\C.narrow<=3/\C.ai<=3)(d:aH){ka:Nat}(ha:d.a=(ka:Int)){cond:du}{body:dA}(hA:zG C π g cap ns ka cond)(hB:rA C π g cap ns l d.b body)(R:Jg π cond body)
  (F:jr) (s:dw) (v:Value) (rec:Bool) (w:Wd) (hR:bK C F w) (hS:jg C l w) (hL:db C.pb g cap ns w) (ws:ew δ s) (hv:dM w v s) (hr:cV rec F (rS π C cond body d.ay s).1) :
  Calls prog 111 #[ρ (Y ⟨C.b,0,M⟩),J (nX d),v,U rec] w fun r w'=>∃v',r=υ v'/\bK C (told π rec F (rS π C cond body d.ay s).1) w'/\RK C w w'/\dM w' v' (rS π C cond body d.ay s).2:=by
 obtain⟨va,vn,vc,rfl⟩:=hv.form;have HW:=PY (l:=l) G hR hS hL d hv ws;obtain⟨W,hW⟩:∃W,((w.alloc (L (nX d) 176)).alloc (L #[U s.isNone,Z va vn vc] 121)).alloc (L #[U false,Z M 0 0] 121)=W:=⟨_,rfl⟩;rw[hW]at HW;have H:=hid HW;have HG:=hid G;have HA:=hid hA;have HB:=hid hB;have HR:=hid R;have Yb:=hid ha;have ZN:=hid hπ;obtain⟨ο,hU⟩:∃ο,Vx π cond body d.ay C.ai s=ο:=⟨_,rfl⟩;have HU:=hid hU;have Zy:=JM.start π cond body d.ay C.ai ws;rw[hU]at Zy;have HU0:=hid Zy;have Ik:=hid hr;have HRU:Hid (cV rec F ο.1):=by have q:=Ak π C cond body d.ay s (ej:=ο.1) (oj:=ο.2.1) (sj:=ο.2.2) hU rfl;rw[q]at hr;exact cV.left (cV.left (cV.left hr))
 obtain⟨p1,p2,p3⟩:=hP;have p1':((C.al:Nat):Int)<=4:=by omega
 have p2':((C.narrow:Nat):Int)<=3:=by omega
 have p3':((C.ai:Nat):Int)<=3:=by omega
 unfold nX at hW;unfold nX;clear hR hS hL HW hA hB R ha hπ hU Zy hr G ws hv;go_enter func111,ntmps111;go_upto_region 1 with fail;try rw[hW]
 obtain⟨k5,e5⟩:∃k,k=w.heap.size:=⟨_,rfl⟩;obtain⟨k6,e6⟩:∃k,k=w.heap.size+1:=⟨_,rfl⟩;obtain⟨k8,e8⟩:∃k,k=w.heap.size+1+1:=⟨_,rfl⟩;rw[<-e8,<-e6,<-e5];rw[<-e8,<-e6,<-e5]at H;clear hW e5 e6 e8;go_wp2_with fail;refine(eZ _).mono ?_;rintro r w1⟨rfl,b1⟩;have h1:=(H.call HG.out b1).new HG.out (s:=M) (a:=M) (n:=0) (c:=0) rfl (fun _ q=>by cases q);have H1:Hid (bn C g cap ns l w k8 _ F [(w1.heap.size,M),(k6,s)] (w1.alloc (L #[U true,Z M 0 0] 121))):=h1;clear h1 b1 H;go_upto_region 2 with fail;generalize w1.alloc (L #[U true,Z M 0 0] 121)=W1 at *
 generalize w1.heap.size=k9 at *;go_wp2_with fail
 go_loopw [10] (fun v10 wr=>∃(j:Nat) (ej:iJ) (oj sj:dw),j<=C.ai/\v10=I O j/\Hid (JM π cond body d.ay ο (C.ai - j) ej oj sj)/\Hid (bn C g cap ns l w k8 [(k5,L (nX d) 176)] (told π rec F ej) [(k9,oj),(k6,sj)] wr)) (fun v10 _=>C.ai - (intOf v10).toNat)
 case atStart=>exact⟨0,[],M,s,Nat.zero_le _,rfl,HU0,by unfold Hid;rw[dV];exact H1.out⟩
 case round =>
  obtain⟨j,ej,oj,sj,hj,rfl,Gy,hq⟩:=hrel;clear H1 HU0;have m4:=cell_of hq.ra.aT 4 (v:=I O (C.ai:Nat)) rfl;by_cases hju:j<C.ai
  ·have yf:((j:Nat):Int)<((C.ai:Nat):Int):=by omega
   obtain⟨m,hm⟩:∃m,C.ai - j=m+1:=⟨C.ai - j - 1,by omega⟩;rw[hm]at Gy;have kL:C.ai - (j+1)=m:=by omega
   obtain⟨te,yes,no,hco⟩:∃te yes no,cond sj=(te,yes,no):=⟨_,_,_,rfl⟩;obtain⟨tb,sb,hbo⟩:∃tb sb,body yes=(tb,sb):=⟨_,_,rfl⟩;obtain⟨on,BG⟩:∃on,uY δ oj no=on:=⟨_,rfl⟩;have uW:=HR.c Gy.wf.2;have rr:=Gy.Zh HRU.out;have pF:=Gy.on HR.out;rw[hco]at uW rr pF;simp only at uW rr pF;have BV:=HR.b uW.1;rw[hbo]at rr pF BV;simp only at rr pF BV;rw[BG]at pF;have Tz:=oC Gy.wf.1 uW.2;rw[BG]at Tz;have jB:Hid (ew δ yes/\ew δ no/\ew δ sb/\ew δ on/\ew δ oj):=⟨uW.1,uW.2,BV,Tz,Gy.wf.1⟩;have qV:=hid rr;have J1:=hid pF;have Ed:=hid hco;have Qv:=hid hbo;have Gz:=hid BG;clear uW rr pF BV Tz Gy hco hbo BG
   -- come
   have hn:=hq.node k5 d (List.mem_cons_self ..);have n8:=cell_of hn 8 (v:=I O d.ay) rfl;obtain⟨sa,sn,sc,s0,s1,_,_,jE,qT⟩:=hq.box k6 sj (by simp);have HC:=hid (o9 π HG.out hq.out d.ay jE qT qV.1);clear hn jE;go_wp2_with fail;refine HC.mono ?_;rintro r w2⟨rfl,h2⟩;have H2:Hid (bn _ _ _ _ _ _ _ _ _ _ w2):=h2;clear h2 HC n8 s0 s1 hq m4
   -- ask
   have hn:=H2.node k5 d (List.mem_cons_self ..);have n1:=cell_of hn 1 (v:=I O (ka:Nat)) (by rw[<-Yb.out];rfl);obtain⟨ta,tn,tc,s0,s1,_,_,jE,_⟩:=H2.box k6 sj (by simp);have HC:=hid (HA.go HG.out H2.out Ed.out jE qT qV.2.1);clear hn jE;go_wp2_with fail;refine HC.mono ?_;rintro r w3⟨a1,b1,c1,a2,b2,c2,rfl,h3,hy,hn⟩;have H4:=hid (h3.Jt HG.out hy jB.1 hn jB.2.1);clear h3 hy hn HC n1 s0 s1 H2 qT;go_upto_region 7 with fail;generalize (w3.alloc (L #[U yes.isNone,Z a1 b1 c1] 121)).alloc (L #[U no.isNone,Z a2 b2 c2] 121)=w4 at *
   generalize w3.heap.size=uz at *
   -- join
   obtain⟨xa,xn,xc,s0,s1,f0,f1,WC,_⟩:=H4.box k9 oj (by simp);obtain⟨ya,yn,yc,t0,t1,_,_,ht,_⟩:=H4.box (uz+1) no (by simp);have HC:=hid (pv HG.out H4.out Gz.out WC jB.2.2.2.2 ht jB.2.1);clear WC ht;go_wp2_with fail;refine HC.mono ?_;rintro r w5⟨a3,b3,c3,rfl,h5,hu⟩;have h6:=(h5.dr.sw.put HG.out hu jB.2.2.2.1);obtain⟨xa,xn,xc,s0,s1,f0,f1,_,_⟩:=h5.box k9 oj (by simp);have H6:=hid h6;clear h5 h6 hu HC t0 t1 H4;go_upto_region 8 with fail;generalize (w5.setCell ⟨k9,0,M⟩ (U on.isNone)).setCell ⟨k9,1,M⟩ (Z a3 b3 c3)=w6 at *
   clear s0 s1 f0 f1
   -- does
   have hn:=H6.node k5 d (List.mem_cons_self ..);have n2:=cell_of hn 2 (v:=I O d.b) rfl;obtain⟨ya,yn,yc,t0,t1,_,_,ht,_⟩:=H6.box uz yes (by simp);have HC:=hid (HB.go HG.out H6.out Qv.out ht jB.1 qV.2.2);clear hn ht;go_wp2_with fail;refine HC.mono ?_;rintro r w7⟨a4,b4,c4,rfl,h7,hu⟩;have h8:=h7.sw.dr.sw.put HG.out hu jB.2.2.1;obtain⟨xa,xn,xc,s0,s1,f0,f1,_,_⟩:=h7.box k6 sj (by simp);have H8:=hid h8.sw;clear h7 h8 hu HC t0 t1 n2 H6;go_wp2_with fail;refine⟨⟨j+1,ej ++ tL d.ay sj ++ te ++ tb,on,sb,by omega,by go_num,by rw[kL];exact J1,?_⟩,by simp[intOf];omega⟩;unfold Hid;rw[aF,aF,aF];exact H8.out
  ·obtain rfl:j=C.ai:=by omega
   rw[Nat.sub_self]at Gy;have aaf:=Gy.end;subst aaf;have wfo:=Gy.wf;have jB:=hid wfo;clear Gy hju hj wfo HRU;obtain⟨sa,sn,sc,s0,s1,_,_,jE,qT⟩:=hq.box k6 sj (by simp);have h1:=hq.new HG.out jE qT;obtain⟨F0,hF0⟩:∃F0,told π rec F ej=F0:=⟨_,rfl⟩;rw[hF0]at h1;have Yh:=hid hF0;have H1:=hid h1;clear jE h1 hF0;go_upto_region 10 with fail;generalize wr.alloc (L #[U sj.isNone,Z sa sn sc] 121)=W2 at *
   generalize wr.heap.size=mF at *;clear m4 s0 s1 hq;obtain⟨Ux,hUx⟩:∃Ux,Ly π cond body sj C.al=Ux:=⟨_,rfl⟩;have TQ:=GL.start HR.out qT C.al;rw[hUx]at TQ;have Xo:=hid TQ;have TJ:=Jw.start HR.out C qT;rw[hUx]at TJ;have Tp:=hid TJ;have Gp:=hid qT;clear TQ TJ qT hUx;go_wp2_with fail
   go_loopw [14] (fun v14 wq=>∃(k f:Nat) (i:dw),v14=I O k/\Hid (GL π cond body sj C.al Ux k f i)/\Hid (bn C g cap ns l w k8 [(k5,L (nX d) 176)] F0 [(mF,i),(k9,oj),(k6,sj)] wq)) (fun v14 _=>1100001 - (intOf v14).toNat)
   case atStart=>exact⟨1,1100000,sj,rfl,Xo,H1⟩
   case round =>
    obtain⟨k,f,i,rfl,Wx,hq⟩:=hrel;clear H1 Xo;obtain⟨te,yes,no,hco⟩:∃te yes no,cond i=(te,yes,no):=⟨_,_,_,rfl⟩;obtain⟨tb,sb,hbo⟩:∃tb sb,body yes=(tb,sb):=⟨_,_,rfl⟩;obtain⟨nx,eO⟩:∃nx,uY δ sj sb=nx:=⟨_,rfl⟩;obtain⟨jj,hjj⟩:∃jj,uY δ i nx=jj:=⟨_,rfl⟩;have wi:=Wx.wf;have uW:=HR.c wi;rw[hco]at uW;simp only at uW;have BV:=HR.b uW.1;rw[hbo]at BV;simp only at BV;have Wz:BO δ cond body sj i=nx:=by unfold BO;rw[hco];show uY δ sj (body yes).2=nx;rw[hbo];exact eO
    have Q7:=oC Gp.out BV;rw[eO]at Q7;have wjj:=oC wi Q7;rw[hjj]at wjj;have Qe:=Wx.sum;have jB:Hid (ew δ yes/\ew δ no/\ew δ sb/\ew δ nx/\ew δ jj/\ew δ i/\ew δ oj/\ew δ sj):=⟨uW.1,uW.2,BV,Q7,wjj,wi,jB.1,jB.2⟩;have YS:Hid ((Pp i jj=true->i=Ux)/\(Pp i jj=false->∃(e n:dS) (f':Nat),i=Y e/\(∀q,Wv δ (e q))/\jj=Y n/\(∀q,Wv δ (n q))/\f=f'+1/\GL π cond body sj C.al Ux (k+1) f' (if C.al<k then Y fun q=>fT π (e q) (n q) else Y n))):=by have q1:=Wx.end;have q2:=Wx.on HR.out Gp.out;rw[Wz,hjj]at q1 q2;exact⟨q1,q2⟩
    have Ed:=hid hco;have Qv:=hid hbo;have jo:=hid eO;have ZJ:=hid hjj;clear uW BV Q7 wjj wi Wx hco hbo eO hjj Wz
    -- ask
    have hn:=hq.node k5 d (List.mem_cons_self ..);have n1:=cell_of hn 1 (v:=I O (ka:Nat)) (by rw[<-Yb.out];rfl);obtain⟨ta,tn,tc,s0,s1,_,_,jE,_⟩:=hq.box mF i (by simp);have HC:=hid (HA.go HG.out hq.out Ed.out jE jB.2.2.2.2.2.1 (jV _ _));clear hn jE;go_wp2_with fail;refine HC.mono ?_;rintro r w3⟨a1,b1,c1,a2,b2,c2,rfl,h3,hy,hn⟩;have H4:Hid (bn C g cap ns l w k8 _ F0 _ _):=h3.Jt HG.out hy jB.1 hn jB.2.1;clear h3 hy hn HC n1 s0 s1 hq;go_upto_region 13 with fail;generalize (w3.alloc (L #[U yes.isNone,Z a1 b1 c1] 121)).alloc (L #[U no.isNone,Z a2 b2 c2] 121)=w4 at *
    generalize w3.heap.size=Eb at *
    -- does
    have hn:=H4.node k5 d (List.mem_cons_self ..);have n2:=cell_of hn 2 (v:=I O d.b) rfl;obtain⟨ya,yn,yc,t0,t1,_,_,ht,_⟩:=H4.box Eb yes (by simp);have HC:=hid (HB.go HG.out H4.out Qv.out ht jB.1 (jV _ _));clear hn ht;go_wp2_with fail;refine HC.mono ?_;rintro r w5⟨a3,b3,c3,rfl,h5,hu⟩;have H5:Hid (bn C g cap ns l w k8 _ F0 _ _):=h5.dr.dr.new HG.out hu jB.2.2.1;clear h5 hu HC t0 t1 n2 H4;go_upto_region 14 with fail;generalize w5.alloc (L #[U sb.isNone,Z a3 b3 c3] 121)=w6 at *
    generalize w5.heap.size=XH at *
    -- next
    obtain⟨xa,xn,xc,s0,s1,_,_,hs,_⟩:=H5.box k6 sj (by simp);obtain⟨ya,yn,yc,t0,t1,_,_,ht,_⟩:=H5.box XH sb (by simp);have HC:=hid (pv HG.out H5.out jo.out hs Gp.out ht jB.2.2.1);clear hs ht;go_wp2_with fail;refine HC.mono ?_;rintro r w7⟨a4,b4,c4,rfl,h7,hu⟩;have H7:Hid (bn C g cap ns l w k8 _ F0 _ _):=h7.dr.new HG.out hu jB.2.2.2.1;clear h7 hu HC s0 s1 t0 t1 H5;go_upto_region 15 with fail;generalize w7.alloc (L #[U nx.isNone,Z a4 b4 c4] 121)=w8 at *
    generalize w7.heap.size=D1 at *
    -- j
    obtain⟨xa,xn,xc,s0,s1,_,_,hs,_⟩:=H7.box mF i (by simp);obtain⟨ya,yn,yc,t0,t1,_,_,ht,_⟩:=H7.box D1 nx (by simp);have HC:=hid (pv HG.out H7.out ZJ.out hs jB.2.2.2.2.2.1 ht jB.2.2.2.1);clear hs ht;go_wp2_with fail;refine HC.mono ?_;rintro r w9⟨a5,b5,c5,rfl,h9,hu⟩;have H9:Hid (bn C g cap ns l w k8 _ F0 _ _):=h9.dr.new HG.out hu jB.2.2.2.2.1;clear h9 hu HC s0 s1 t0 t1 H7;go_upto_region 16 with fail;generalize w9.alloc (L #[U jj.isNone,Z a5 b5 c5] 121)=w10 at *
    generalize w9.heap.size=Yc at *
    -- same
    obtain⟨xa,xn,xc,s0,s1,_,_,hs,_⟩:=H9.box mF i (by simp);obtain⟨ya,yn,yc,t0,t1,_,_,ht,_⟩:=H9.box Yc jj (by simp);have HC:=hid (Qa HG.out H9.out hs ht);clear hs ht;go_wp2_with fail;refine HC.mono ?_;rintro r w11⟨rfl,uC⟩;have QB:=hid uC;clear uC HC s0 s1 t0 t1 H9;cases he:Pp i jj with
    | false =>
     obtain⟨e,n,f',rfl,we,rfl,wn,hf,hW1⟩:=YS.2 he;have Kk:=hid hW1;have m2:=cell_of QB.ra.aT 2 (v:=I O (C.al:Nat)) rfl;clear hW1 YS he ZJ Ed;obtain⟨xa,xn,xc,s0,s1,Yl,X0,hs,_⟩:=QB.box mF (Y e) (by simp);obtain⟨ya,yn,yc,t0,t1,_,_,ht,wt⟩:=QB.box Yc (Y n) (by simp);by_cases hd:C.al<k
     ·have OA:¬ ((k:Nat):Int)<=((C.al:Nat):Int):=by omega
      rw[if_pos hd]at Kk;obtain⟨u,hu⟩:∃u:dw,u=Y fun q=>fT (⟨l⟩:ar δ) (e q) (n q):=⟨_,rfl⟩
      have Ov:(Y fun q=>fT π (e q) (n q):dw)=u:=by rw[hu];exact congrArg Y (funext fun q=>Cb π l ZN.out (we q))
      rw[Ov]at Kk;have HC:=hid (Lz HG.out QB.out hs ht hu);have Ou:=hid Kk.wf;clear hs ht we wn wt hd hu Ov;go_wp2_with fail;refine HC.mono ?_;rintro r w12⟨a6,b6,c6,rfl,sl,hu⟩;have H12:Hid (bn C g cap ns l w k8 _ F0 _ _):=sl.dr.put HG.out hu Ou.out;clear s0 s1 Yl X0;obtain⟨xa,xn,xc,s0,s1,Yl,X0,_,_⟩:=sl.box mF (Y e) (by simp);clear sl hu HC QB t0 t1 m2;go_wp2_with fail;exact⟨⟨k+1,f',u,by go_num,Kk,H12⟩,by simp[intOf];omega⟩
     ·have OA:((k:Nat):Int)<=((C.al:Nat):Int):=by omega
      rw[if_neg hd]at Kk;have H12:Hid (bn C g cap ns l w k8 _ F0 _ _):=QB.dr.put HG.out ht wt;clear hs ht we wn wt hd QB;go_wp2_with fail;exact⟨⟨k+1,f',Y n,by go_num,Kk,H12⟩,by simp[intOf];omega⟩
    | true =>
     obtain rfl:=YS.1 he;have H1:Hid (bn C g cap ns l w k8 _ F0 _ _):=QB.dr;clear he YS QB jo ZJ Ed Qv Qe;obtain⟨Un,Gy⟩:∃Un,Ft π C cond body sj=Un:=⟨_,rfl⟩;rw[Gy]at Tp;have HUn:=hid Gy;clear Gy;go_wp2_with fail
     go_loopw [21] (fun v21 wp=>∃(j:Nat) (i:dw),j<=C.narrow/\v21=I O j/\Hid (Jw π cond body sj Un (C.narrow - j) i)/\Hid (bn C g cap ns l w k8 [(k5,L (nX d) 176)] F0 [(mF,i),(k9,oj),(k6,sj)] wp)) (fun v21 _=>C.narrow - (intOf v21).toNat)
     case atStart=>exact⟨0,i,Nat.zero_le _,rfl,Tp,H1⟩
     case round =>
      obtain⟨j,i,hj,rfl,Td,hq⟩:=hrel;clear H1 Tp;have m3:=cell_of hq.ra.aT 3 (v:=I O (C.narrow:Nat)) rfl;obtain⟨te,yes,no,hco⟩:∃te yes no,cond i=(te,yes,no):=⟨_,_,_,rfl⟩;obtain⟨tb,sb,hbo⟩:∃tb sb,body yes=(tb,sb):=⟨_,_,rfl⟩;have wi:=Td.wf';have uW:=HR.c wi;rw[hco]at uW;simp only at uW;have BV:=HR.b uW.1;rw[hbo]at BV;simp only at BV;by_cases RC:j<C.narrow
      ·have yf:((j:Nat):Int)<((C.narrow:Nat):Int):=by omega
       obtain⟨m,hm⟩:∃m,C.narrow - j=m+1:=⟨C.narrow - j - 1,by omega⟩;rw[hm]at Td;have kL:C.narrow - (j+1)=m:=by omega
       obtain⟨nx,eO⟩:∃nx,uY δ sj sb=nx:=⟨_,rfl⟩;have Wz:BO δ cond body sj i=nx:=by unfold BO;rw[hco];show uY δ sj (body yes).2=nx;rw[hbo];exact eO
       have BG:=Td.on HR.out Gp.out;rw[Wz]at BG;have Gz:=hid BG;have Q7:=oC Gp.out BV;rw[eO]at Q7;have jB:Hid (ew δ yes/\ew δ no/\ew δ sb/\ew δ nx/\ew δ i/\ew δ oj/\ew δ sj):=⟨uW.1,uW.2,BV,Q7,wi,jB.2.2.2.2.2.2.1,Gp.out⟩;have Ed:=hid hco;have Qv:=hid hbo;have jo:=hid eO;clear uW BV Q7 wi Td hco hbo eO Wz BG
       -- ask
       have hn:=hq.node k5 d (List.mem_cons_self ..);have n1:=cell_of hn 1 (v:=I O (ka:Nat)) (by rw[<-Yb.out];rfl);obtain⟨ta,tn,tc,s0,s1,_,_,jE,_⟩:=hq.box mF i (by simp);have HC:=hid (HA.go HG.out hq.out Ed.out jE jB.2.2.2.2.1 (jV _ _));clear hn jE;go_wp2_with fail;refine HC.mono ?_;rintro r w3⟨a1,b1,c1,a2,b2,c2,rfl,h3,hy,hn⟩;have H4:Hid (bn C g cap ns l w k8 _ F0 _ _):=h3.Jt HG.out hy jB.1 hn jB.2.1;clear h3 hy hn HC n1 s0 s1 hq m3;go_upto_region 25 with fail;generalize (w3.alloc (L #[U yes.isNone,Z a1 b1 c1] 121)).alloc (L #[U no.isNone,Z a2 b2 c2] 121)=w4 at *
       generalize w3.heap.size=Eb at *
       -- does
       have hn:=H4.node k5 d (List.mem_cons_self ..);have n2:=cell_of hn 2 (v:=I O d.b) rfl;obtain⟨ya,yn,yc,t0,t1,_,_,ht,_⟩:=H4.box Eb yes (by simp);have HC:=hid (HB.go HG.out H4.out Qv.out ht jB.1 (jV _ _));clear hn ht;go_wp2_with fail;refine HC.mono ?_;rintro r w5⟨a3,b3,c3,rfl,h5,hu⟩;have H5:Hid (bn C g cap ns l w k8 _ F0 _ _):=h5.dr.dr.new HG.out hu jB.2.2.1;clear h5 hu HC t0 t1 n2 H4;go_upto_region 26 with fail;generalize w5.alloc (L #[U sb.isNone,Z a3 b3 c3] 121)=w6 at *
       generalize w5.heap.size=XH at *
       -- next
       obtain⟨xa,xn,xc,s0,s1,_,_,hs,_⟩:=H5.box k6 sj (by simp);obtain⟨ya,yn,yc,t0,t1,_,_,ht,_⟩:=H5.box XH sb (by simp);have HC:=hid (pv HG.out H5.out jo.out hs Gp.out ht jB.2.2.1);clear hs ht;go_wp2_with fail;refine HC.mono ?_;rintro r w7⟨a4,b4,c4,rfl,h7,hu⟩;have H7:Hid (bn C g cap ns l w k8 _ F0 _ _):=h7.dr.new HG.out hu jB.2.2.2.1;clear h7 hu HC s0 s1 t0 t1 H5;go_upto_region 27 with fail;generalize w7.alloc (L #[U nx.isNone,Z a4 b4 c4] 121)=w8 at *
       generalize w7.heap.size=D1 at *
       -- narrowed
       obtain⟨u,Kn,Kw⟩:∃u:dw,Hid (Jw π cond body sj Un m u)/\∀(a:Option Addr) (n c:Nat) (a':Option Addr) (n' c':Nat),dM w8 (J #[U i.isNone,Z a n c]) i->dM w8 (J #[U nx.isNone,Z a' n' c']) nx->Calls prog 152 #[ρ (Y ⟨C.b,0,M⟩),J #[U i.isNone,Z a n c],J #[U nx.isNone,Z a' n' c']] w8 fun r w'=>∃a1 n1 c1,r=υ (J #[U u.isNone,Z a1 n1 c1])/\bn C g cap ns l w k8 [(k5,L (nX d) 176)] F0 [(D1,nx),(mF,i),(k9,oj),(k6,sj)] w'/\dM w' (J #[U u.isNone,Z a1 n1 c1]) u:=by
        rcases Gz.out with⟨rfl,h⟩ | ⟨e,e',rfl,rfl,_,_,h⟩
        ·exact⟨M,h,fun a n c a' n' c' h1 h2=>EF HG.out H7.out rfl rfl h1⟩
        ·exact⟨_,h,fun a n c a' n' c' h1 h2=>Ix HG.out H7.out h1 h2 rfl⟩
       obtain⟨xa,xn,xc,s0,s1,_,_,hs,_⟩:=H7.box mF i (by simp);obtain⟨ya,yn,yc,t0,t1,_,_,ht,_⟩:=H7.box D1 nx (by simp);have HC:=hid (Kw _ _ _ _ _ _ hs ht);clear hs ht Kw Gz jo Ed Qv;go_wp2_with fail;refine HC.mono ?_;rintro r w9⟨a5,b5,c5,rfl,h9,hu⟩;have H9:Hid (bn C g cap ns l w k8 _ F0 _ _):=h9.dr.put HG.out hu Kn.wf';clear s0 s1;obtain⟨xa,xn,xc,s0,s1,Yl,X0,_,_⟩:=h9.box mF i (by simp);clear h9 hu HC t0 t1 H7;go_wp2_with fail;exact⟨⟨j+1,u,by omega,by go_num,by rw[kL];exact Kn,H9⟩,by simp[intOf];omega⟩
      ·obtain rfl:j=C.narrow:=by omega
       rw[Nat.sub_self]at Td;obtain rfl:=Td.end;obtain⟨on,BG⟩:∃on,uY δ oj no=on:=⟨_,rfl⟩;have Ui:=Ak π C cond body d.ay s HU.out HUn.out;rw[hco]at Ui;simp only at Ui;rw[hbo,BG]at Ui;simp only at Ui;have hr:=Ik.out;rw[Ui]at hr;have XO:=hid Ui;have r3:=cV.right (π:=π) hr;have r2:=cV.right (π:=π) (cV.left hr);have r1:=cV.right (π:=π) (cV.left (cV.left hr));rw[aF,aF,Yh.out]at r3;rw[aF,Yh.out]at r2;rw[Yh.out]at r1;have qV:=hid (And.intro r1 (And.intro r2 r3));have Tz:=oC jB.2.2.2.2.2.2.1 uW.2;rw[BG]at Tz;have jB:Hid (ew δ yes/\ew δ no/\ew δ sb/\ew δ on/\ew δ i/\ew δ oj):=⟨uW.1,uW.2,BV,Tz,wi,jB.2.2.2.2.2.2.1⟩;have Ed:=hid hco;have Qv:=hid hbo;have Gz:=hid BG;clear r1 r2 r3 hr Ui uW BV Tz wi Td hco hbo BG RC hj
       -- come
       have hn:=hq.node k5 d (List.mem_cons_self ..);have n8:=cell_of hn 8 (v:=I O d.ay) rfl;obtain⟨sa,sn,sc,s0,s1,_,_,jE,_⟩:=hq.box mF i (by simp);have HC:=hid (o9 π HG.out hq.out d.ay jE jB.2.2.2.2.1 qV.1);clear hn jE;go_wp2_with fail;refine HC.mono ?_;rintro r w2⟨rfl,h2⟩;have H2:Hid (bn _ _ _ _ _ _ _ _ _ _ w2):=h2;clear h2 HC n8 s0 s1 hq m3
       -- ask
       have hn:=H2.node k5 d (List.mem_cons_self ..);have n1:=cell_of hn 1 (v:=I O (ka:Nat)) (by rw[<-Yb.out];rfl);obtain⟨ta,tn,tc,s0,s1,_,_,jE,_⟩:=H2.box mF i (by simp);have HC:=hid (HA.go HG.out H2.out Ed.out jE jB.2.2.2.2.1 qV.2.1);clear hn jE;go_wp2_with fail;refine HC.mono ?_;rintro r w3⟨a1,b1,c1,a2,b2,c2,rfl,h3,hy,hn⟩;have H4:=hid (h3.Jt HG.out hy jB.1 hn jB.2.1);clear h3 hy hn HC n1 s0 s1 H2;go_upto_region 30 with fail;generalize (w3.alloc (L #[U yes.isNone,Z a1 b1 c1] 121)).alloc (L #[U no.isNone,Z a2 b2 c2] 121)=w4 at *
       generalize w3.heap.size=YH at *
       -- does
       have hn:=H4.node k5 d (List.mem_cons_self ..);have n2:=cell_of hn 2 (v:=I O d.b) rfl;obtain⟨ya,yn,yc,t0,t1,_,_,ht,_⟩:=H4.box YH yes (by simp);have HC:=hid (HB.go HG.out H4.out Qv.out ht jB.1 qV.2.2);clear hn ht;go_wp2_with fail;refine HC.mono ?_;rintro r w5⟨a3,b3,c3,rfl,h5,_⟩;have H5:=hid h5;clear h5 HC t0 t1 n2 H4
       -- join
       obtain⟨xa,xn,xc,s0,s1,_,_,hs,_⟩:=H5.box k9 oj (by simp);obtain⟨ya,yn,yc,t0,t1,_,_,ht,_⟩:=H5.box (YH+1) no (by simp);have HC:=hid (pv HG.out H5.out Gz.out hs jB.2.2.2.2.2 ht jB.2.1);clear hs ht;go_wp2_with fail;refine HC.mono ?_;rintro r w6⟨a4,b4,c4,rfl,h6,hu⟩;have HT:=hid (h6.ret hu);obtain⟨z0,z1,yV,yO,_⟩:=aR h6.res;clear h6 hu HC s0 s1 t0 t1 H5;go_wp2_with fail;refine bodyPost_ret (v:=J #[U on.isNone,Z a4 b4 c4]) (by simp[results,results111,go_sem,HT.2.2.2.1,HT.2.2.2.2]) rfl ⟨_,rfl,?_,HT.2.1,?_⟩
       ·rw[XO.out]
        simp only;rw[aF,aF,aF,Yh.out];exact HT.1
       ·rw[XO.out]
        exact HT.2.2.1
end RG
end
end Go.Proofs.YtiopfihjmkfdmaaGreatDoor
