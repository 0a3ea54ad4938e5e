import Derived.Test.YtiopfihjmkfdmaaGreatDoorB23
namespace Go.Proofs.YtiopfihjmkfdmaaGreatDoor
open Go.Proofs.Tryz Sp
open Go.RowKit
set_option maxRecDepth 100000
set_option maxHeartbeats 16000000
section
namespace RI
section
variable{C:Rc}
variable{g cap k6 k8 k9 b k:Nat}
variable{ns:List aJ}
variable{w W W':Wd}
variable{a0 a1 a:Value}
variable{F F':jB}
structure sF(C:Rc)(g cap:Nat)(ns:List aJ)(w:Wd)(k6 k8 k9:Nat)(a0 a1:Value)(F:jB)(W:Wd):Prop where
 ra:bx C F W
 look:dq C.pb g cap ns W
 box:W.heap[k6]?=some (.cells #[a0,a1] 121)
 r8:W.heap[k8]?=some (.cells #[.bool false,.slice none 0 0] 121)
 r9:W.heap[k9]?=some (.cells #[.bool false,.slice none 0 0] 121)
 bF:RK C w W
 old:C.gf<w.heap.size/\C.gs<w.heap.size
 l6:w.heap.size<=k6
 l8:w.heap.size<=k8
 l9:w.heap.size<=k9
 n89:k8≠k9
 n68:k6≠k8
 n69:k6≠k9
theorem sF.step(G:Gd C g)(h:sF C g cap ns w k6 k8 k9 a0 a1 F W)(hR:bx C F' W')(k:RK C W W'):sF C g cap ns w k6 k8 k9 a0 a1 F' W':=by obtain⟨o1,o2⟩:=h.old;have l6:=h.l6;have l8:=h.l8;have l9:=h.l9;exact⟨hR,RI.look G h.look k,(k.others _ (ah h.box) (by omega) (by omega)).trans h.box,(k.others _ (ah h.r8) (by omega) (by omega)).trans h.r8,(k.others _ (ah h.r9) (by omega) (by omega)).trans h.r9,h.bF.trans k,h.old,l6,l8,l9,h.n89,h.n68,h.n69⟩
theorem sF.call(G:Gd C g)(h:sF C g cap ns w k6 k8 k9 a0 a1 F W)(k:Below W.heap.size W W'):sF C g cap ns w k6 k8 k9 a0 a1 F W':=h.step G (h.ra.call k) (RK.aB k h.ra.le)
theorem sF.aW(h:sF C g cap ns w k6 k8 k9 a0 a1 F W)(k:RK C W W'){o:Obj}(hb:w.heap.size<=b)(ho:W.heap[b]?=some o):W'.heap[b]?=some o:=by obtain⟨o1,o2⟩:=h.old;exact(k.others b (ah ho) (by omega) (by omega)).trans ho
theorem Bv{w:Wd}(a0 a1:Value)(G:Gd C g)(hR:bx C F w)(hL:dq C.pb g cap ns w):sF C g cap ns w w.heap.size (w.heap.size+1) (w.heap.size+1+1) a0 a1 F (((w.alloc (.cells #[a0,a1] 121)).alloc (.cells #[.bool false,.slice none 0 0] 121)).alloc (.cells #[.bool false,.slice none 0 0] 121)):=by obtain⟨h1,h2,h3,kb⟩:=bY (w:=w) (o1:=.cells #[a0,a1] 121) (o2:=.cells #[.bool false,.slice none 0 0] 121) (o3:=.cells #[.bool false,.slice none 0 0] 121) (Below.refl _ _);obtain⟨c1,q1,_⟩:=hR.gf;obtain⟨c2,q2,_⟩:=hR.gs;have hk:=RK.aB kb hR.le;exact⟨hR.call kb,RI.look G hL hk,h1,h2,h3,hk,⟨ah q1,ah q2⟩,Nat.le_refl _,by omega,by omega,by omega,by omega,by omega⟩
theorem bx.Jh(h:bx C F W){b:Value}(hk:Bk W k #[a,b] 121)(hf:k≠C.gf)(u v:Value):bx C F ((W.setCell ⟨k,0,none⟩ u).setCell ⟨k,1,none⟩ v) :=
 h.own (k:=k) (fun q=>by have:=h.aV;rw[<-q,hk]at this;cases this) hf (fun q=>by obtain⟨c,hc,_⟩:=h.gs;rw[<-q,hk]at hc;cases hc) (fun e q=>by rw[hk]at q;cases q) (fun j hj=>by rw[Below.heap_setCell _ _ _ _ hj,Below.heap_setCell _ _ _ _ hj])
theorem sF.ret(h:sF C g cap ns w k6 k8 k9 a0 a1 F W)(u0 u1 v0 v1:Value):bx C F ((((W.setCell ⟨k8,0,none⟩ u0).setCell ⟨k8,1,none⟩ u1).setCell ⟨k9,0,none⟩ v0).setCell ⟨k9,1,none⟩ v1)/\RK C w ((((W.setCell ⟨k8,0,none⟩ u0).setCell ⟨k8,1,none⟩ u1).setCell ⟨k9,0,none⟩ v0).setCell ⟨k9,1,none⟩ v1) /\
  (((((W.setCell ⟨k8,0,none⟩ u0).setCell ⟨k8,1,none⟩ u1).setCell ⟨k9,0,none⟩ v0).setCell ⟨k9,1,none⟩ v1).cell? ⟨k8,0,none⟩=some u0/\((((W.setCell ⟨k8,0,none⟩ u0).setCell ⟨k8,1,none⟩ u1).setCell ⟨k9,0,none⟩ v0).setCell ⟨k9,1,none⟩ v1).cell? ⟨k8,1,none⟩=some u1/\((((W.setCell ⟨k8,0,none⟩ u0).setCell ⟨k8,1,none⟩ u1).setCell ⟨k9,0,none⟩ v0).setCell ⟨k9,1,none⟩ v1).cell? ⟨k9,0,none⟩=some v0/\((((W.setCell ⟨k8,0,none⟩ u0).setCell ⟨k8,1,none⟩ u1).setCell ⟨k9,0,none⟩ v0).setCell ⟨k9,1,none⟩ v1).cell? ⟨k9,1,none⟩=some v1) /\
  (∀v s,dL W v s->dL ((((W.setCell ⟨k8,0,none⟩ u0).setCell ⟨k8,1,none⟩ u1).setCell ⟨k9,0,none⟩ v0).setCell ⟨k9,1,none⟩ v1) v s)/\((W.setCell ⟨k8,0,none⟩ u0).setCell ⟨k8,1,none⟩ u1).heap[k9]?=some (.cells #[.bool false,.slice none 0 0] 121) /\
  ∀j o,j≠k8->j≠k9->((W.setCell ⟨k8,0,none⟩ u0).setCell ⟨k8,1,none⟩ u1).cell? ⟨j,o,none⟩=W.cell? ⟨j,o,none⟩/\((((W.setCell ⟨k8,0,none⟩ u0).setCell ⟨k8,1,none⟩ u1).setCell ⟨k9,0,none⟩ v0).setCell ⟨k9,1,none⟩ v1).cell? ⟨j,o,none⟩=W.cell? ⟨j,o,none⟩:=by
 obtain⟨o1,o2⟩:=h.old;have l8:=h.l8;have l9:=h.l9;have hle:C.base<=w.heap.size:=Nat.le_trans h.ra.lf (by omega);have e8:=ai (ai h.r8 0 u0) 1 u1;have e9:((W.setCell ⟨k8,0,none⟩ u0).setCell ⟨k8,1,none⟩ u1).heap[k9]?=some (.cells #[.bool false,.slice none 0 0] 121):=by rw[Below.heap_setCell _ _ _ _ h.n89.symm,Below.heap_setCell _ _ _ _ h.n89.symm];exact h.r9
 have f9:=ai (ai e9 0 v0) 1 v1;have f8:((((W.setCell ⟨k8,0,none⟩ u0).setCell ⟨k8,1,none⟩ u1).setCell ⟨k9,0,none⟩ v0).setCell ⟨k9,1,none⟩ v1).heap[k8]?=some (.cells #[u0,u1] 121):=by rw[Below.heap_setCell _ _ _ _ h.n89,Below.heap_setCell _ _ _ _ h.n89,e8];rfl
 refine⟨(h.ra.Jh h.r8 (by omega) u0 u1).Jh e9 (by omega) v0 v1,(((h.bF.own l8 hle _ _).own l8 hle _ _).own l9 hle _ _).own l9 hle _ _,⟨cell_of f8 0 rfl,cell_of f8 1 rfl,cell_of f9 0 rfl,cell_of f9 1 rfl⟩,fun v s hs=>(hs.put h.r8 u0 u1).put e9 v0 v1,e9,fun j o h1 h2=>?_⟩;have q:((W.setCell ⟨k8,0,none⟩ u0).setCell ⟨k8,1,none⟩ u1).cell? ⟨j,o,none⟩=W.cell? ⟨j,o,none⟩:=by rw[cG (.inl h1),cG (.inl h1)]
 exact⟨q,by rw[cG (.inl h2),cG (.inl h2)];exact q⟩
def dC(π:bO)(k:Nat)(x y:Sm)(ct:Ct)(s:dB):List (gd T) × dB × dB:=Sp.dC (Dm π) k x y ct s
theorem QJ(π:bO)(k:Nat)(x y:Sm)(ct:Ct)(e:dt){es:List (gd T)}(h:dA π x ct e=(es,none)):dC π k x y ct (some e)=(es,none,none):=by have q:Sp.dA (Dm π) x ct e=(es,none):=h;unfold dC Sp.dC;simp only;rw[q];rfl
theorem QF(π:bO)(k:Nat)(x y:Sm)(ct:Ct)(e:dt){es dD:List (gd T)}{a:T}(h:dA π x ct e=(es,some a))(h2:dA π y (Sp.cS x ct) e=(dD,none)):dC π k x y ct (some e)=(es ++ dD,none,none):=by have q:Sp.dA (Dm π) x ct e=(es,some a):=h;have q2:Sp.dA (Dm π) y (Sp.cS x ct) e=(dD,none):=h2;unfold dC Sp.dC;simp only;rw[q];simp only;rw[q2];rfl
theorem QB(π:bO)(k:Nat)(x y:Sm)(ct:Ct)(e:dt){es dD:List (gd T)}{a b:T}(h:dA π x ct e=(es,some a))(h2:dA π y (Sp.cS x ct) e=(dD,some b)):dC π k x y ct (some e)=(es ++ dD,AH π k x y a b e,AH π (wH k) x y a b e):=by have q:Sp.dA (Dm π) x ct e=(es,some a):=h;have q2:Sp.dA (Dm π) y (Sp.cS x ct) e=(dD,some b):=h2;unfold dC Sp.dC;simp only;rw[q];simp only;rw[q2];rfl
def Y4(C:Rc)(π:bO)(g cap:Nat)(ns:List aJ)(rel:Nat)(x y:Sm)(k:Nat)(ct:Ct):Prop:=∀(F:jB) (s:dB) (sv:Value) (rec:Bool) (w:Wd),bx C F w->dq C.pb g cap ns w->eK s->dL w sv s->WI.df rec F (dC π rel x y ct s).1 ->
 Calls prog 108 #[.pointer (some ⟨C.b,0,none⟩),.int .i64 (k:Nat),sv,.bool rec] w fun r w'=>∃v1 v2,r=.returned (.tuple #[v1,v2])/\bx C (WI.told π rec F (dC π rel x y ct s).1) w'/\RK C w w'/\dL w' v1 (dC π rel x y ct s).2.1/\dL w' v2 (dC π rel x y ct s).2.2
theorem MM(π:bO)(G:Gd C g)(k:Nat)(F:jB)(rec:Bool)(w:Wd)(hR:bx C F w)(hL:dq C.pb g cap ns w) :
  Calls prog 108 #[.pointer (some ⟨C.b,0,none⟩),.int .i64 (k:Nat),.agg #[.bool true,.slice none 0 0],.bool rec] w fun r w'=>∃v1 v2,r=.returned (.tuple #[v1,v2])/\bx C (WI.told π rec F []) w'/\RK C w w'/\dL w' v1 none/\dL w' v2 none:=by
 rw[WI.ep];have HW:=Bv (.bool true) (.slice none 0 0) (ns:=ns) G hR hL;obtain⟨W,hW⟩:∃W,((w.alloc (.cells #[.bool true,.slice none 0 0] 121)).alloc (.cells #[.bool false,.slice none 0 0] 121)).alloc (.cells #[.bool false,.slice none 0 0] 121)=W:=⟨_,rfl⟩;rw[hW]at HW;have H:=hid HW;clear hR hL HW;go_enter func108,ntmps108;go_upto_region 1 with fail;try rw[hW]
 obtain⟨k6,e6⟩:∃k,k=w.heap.size:=⟨_,rfl⟩;obtain⟨k8,e8⟩:∃k,k=w.heap.size+1:=⟨_,rfl⟩;obtain⟨k9,e9⟩:∃k,k=w.heap.size+1+1:=⟨_,rfl⟩;rw[<-e9,<-e8,<-e6];rw[<-e9,<-e8,<-e6]at H;clear hW e6 e8 e9;have b0:=cell_of H.box 0 (v:=.bool true) rfl;have HG:=hid G;clear G;go_wp2_with fail;have hS:sF C g cap ns w k6 k8 k9 (.bool true) (.slice none 0 0) F W.drew:=H.call HG.out (Below.refl _ _).drew;obtain⟨No,NV⟩:k6≠k8/\k6≠k9:=⟨hS.n68,hS.n69⟩;obtain⟨NF,NB⟩:k6≠k8/\k6≠k9:=⟨hS.n68,hS.n69⟩;have hA:W.drew.cell? ⟨k6,0,none⟩=some (.bool true)/\W.drew.cell? ⟨k6,1,none⟩=some (.slice none 0 0):=⟨cell_of hS.box 0 rfl,cell_of hS.box 1 rfl⟩;have hB:=hA;have HT:=hid (hS.ret (.bool true) (.slice none 0 0) (.bool true) (.slice none 0 0));obtain⟨z0,z1,DT,DY,_⟩:=aH hS.r8;obtain⟨y0,y1,nA,nB,_⟩:=aH HT.2.2.2.2.1;refine wp_region_held_drew (S:=fun w':Wd=>w'.cell? ⟨k6,0,none⟩=some (.bool true)/\w'.cell? ⟨k6,1,none⟩=some (.slice none 0 0)/\w'.cell? ⟨k6,0,none⟩=some (.bool true)/\w'.cell? ⟨k6,1,none⟩=some (.slice none 0 0)) (by kernel_rfl) ⟨hA.1,hA.2,hB.1,hB.2⟩ (fun aa=>?_);have Kj:=hid (And.intro ((HT.2.2.2.2.2 k6 0 No NV).1.trans hA.1) (And.intro ((HT.2.2.2.2.2 k6 1 No NV).1.trans hA.2) (And.intro ((HT.2.2.2.2.2 k6 0 NF NB).1.trans hB.1) ((HT.2.2.2.2.2 k6 1 NF NB).1.trans hB.2))));have P0:=hid (And.intro ((HT.2.2.2.2.2 k6 0 No NV).2.trans hA.1) (And.intro ((HT.2.2.2.2.2 k6 1 No NV).2.trans hA.2) (And.intro ((HT.2.2.2.2.2 k6 0 NF NB).2.trans hB.1) ((HT.2.2.2.2.2 k6 1 NF NB).2.trans hB.2))));clear hA hB No NV NF NB;generalize W.drew=V at *;refine tk 0 (.agg #[.bool true,.slice none 0 0]) rfl (fun w' h=>by have q:=h.1;have q2:=h.2.1;go_simp) aa ?_;refine tk 1 (.agg #[.bool true,.slice none 0 0]) rfl (fun w' h=>by have q:=h.2.2.1;have q2:=h.2.2.2;go_simp) aa ?_;refine cH 2 fun K hK=>?_
 simp only[bT,gN];go_simp;refine hK.out _ _ Kj.out (fun _=>?_);clear hK K;refine cH 3 fun K hK=>?_
 simp only[bT];go_simp;refine hK.out _ _ P0.out (fun _=>?_);clear hK K;refine wpAnyH_done (by kernel_rfl) ?_ _;go_wp2_with fail;exact bodyPost_ret (v:=.tuple #[.agg #[.bool true,.slice none 0 0],.agg #[.bool true,.slice none 0 0]]) (by simp[results,results108,go_sem,HT.2.2.1.1,HT.2.2.1.2.1,HT.2.2.1.2.2.1,HT.2.2.1.2.2.2]) rfl ⟨_,_,rfl,HT.1,HT.2.1,rfl,rfl⟩
end
end RI
end
section
namespace RI
section
variable{g cap n k ge a:Nat}
variable{ns:List aJ}
variable{d:aJ}
theorem Ew{C:Rc}(π:bO){n:Nat}(G:Gd C g)(ct:Ct)(hd:ns[k]?=some d)(hk:d.kind=2)(hn:d.n=(n:Int))(hm:n<8):jm C π g cap ns (.name n) k ct:=by
 intro F e ge rec w hR hL he nO hr;have HW:=qW G hR hL nO d;obtain⟨W,hW⟩:∃W,wW w ge d=W:=⟨_,rfl⟩;rw[hW]at HW;unfold wW at hW;rw[hk]at hW;have m0:=cell_of hR.aV 0 (v:=.pointer (some ⟨C.pb,0,none⟩)) rfl;have c0:=hL.slice;obtain⟨dj,r0,r1,r2,r3,r4,r5,r6,r7,r8,r9⟩:=hL.facts hd;have h1:=hL.mm;have h2:=hL.hmax;have h3:=hL.hn;have lp:=hL.ltp;have lg:=hL.ltg;have lb:C.b<w.heap.size:=ah hR.aV;rw[hk]at r0;have H:=hid HW;have HE:=hid he;have HG:=hid G;have HK:Hid (d.kind=2/\d.n=(n:Int)):=⟨hk,hn⟩;clear hR hL nO he hr hd HW G hk hn;go_enter func105,ntmps105;go_upto_region 2 with fail;try rw[hW]
 obtain⟨k6,e6⟩:∃k6,k6=w.heap.size:=⟨_,rfl⟩;obtain⟨k8,e8⟩:∃k8,k8=w.heap.size+1:=⟨_,rfl⟩;obtain⟨kn,en⟩:∃kn,kn=w.heap.size+1+1:=⟨_,rfl⟩;rw[<-en,<-e8,<-e6];rw[<-en,<-e8,<-e6]at H;clear hW m0 c0 r0 r1 r2 r3 r4 r5 r6 r7 r8 r9 h1 h2 h3 lp lg lb dj e6 e8 en;have n0:=cell_of H.nd 0 (v:=.int .i64 2) (by rw[<-HK.1];rfl);have n4:=cell_of H.nd 4 (v:=.int .i64 (n:Int)) (by rw[<-HK.2];rfl);have b1:=cell_of H.box 1 (v:=.slice (some ⟨ge,0,none⟩) 8 8) rfl;obtain⟨va,vb⟩:=kQ e n hm;have z0:=cell_of H.env _ va;have z1:=cell_of H.env _ vb;have HX:Hid (WI.told π rec F (dA π (.name n) ct e).1=F/\Qu (pA (e ⟨n,hm⟩)) (pB (e ⟨n,hm⟩)) true (dA π (.name n) ct e).2):=⟨WI.ep π rec F,by show Qu _ _ _ (some (pE (Dm π) e n));have q:pE (Dm π) e n=e ⟨n,hm⟩:=dif_pos hm;rw[q];exact⟨rfl,rfl,rfl,HE.out _⟩⟩
 have hmi:((n:Nat):Int)<8:=by omega
 clear va vb;generalize pA (e ⟨n,hm⟩)=xa at *;generalize pB (e ⟨n,hm⟩)=xb at *;have h9:=H.out;obtain⟨y0,y1,nA,nB,mq⟩:=aH h9.res;have MQ:=hid (mq (.int .i64 xa) (.int .i64 xb));have HT:=hid (h9.ret (.int .i64 xa) (.int .i64 xb));clear h9 mq H;go_wp2_with fail;exact bodyPost_ret (v:=.tuple #[.agg #[.int .i64 xa,.int .i64 xb],.bool true]) (by simp[results,results105,go_sem,MQ.1,MQ.2]) rfl ⟨xa,xb,true,rfl,by rw[HX.1];exact HT.1,HT.2,HX.2⟩
theorem iV.fill{C:Rc}{e:dt}{w:Wd}{k6 k8 kn:Nat}{F:jB}{W:Wd}(G:Gd C g)(h:iV C g cap ns e ge d w k6 k8 kn F W){u v:Value}(hk:Bk W k #[u,v] 191)(hl:w.heap.size<=k)(n8:k≠k8)(a b:Value) :
  iV C g cap ns e ge d w k6 k8 kn F ((W.setCell ⟨k,0,none⟩ a).setCell ⟨k,1,none⟩ b)/\((W.setCell ⟨k,0,none⟩ a).setCell ⟨k,1,none⟩ b).heap[k]?=some (.cells #[a,b] 191):=by
 obtain⟨l1,l2⟩:=h.lt;have hb:k≠C.b:=fun q=>by have:=h.ra.aV;rw[<-q,hk]at this;cases this
 have hle:C.base<=w.heap.size:=Nat.le_trans h.ra.lf (by omega);have h6:k6≠k:=fun q=>by have:=h.box;rw[q,hk]at this;cases this
 have hn:kn≠k:=fun q=>by have:=h.nd;rw[q,hk]at this;cases this
 have he:ge≠k:=fun q=>by have:=h.env;rw[q,hk]at this;exact BI _ rfl _ _ this
 have ix:∀j,j≠k->((W.setCell ⟨k,0,none⟩ a).setCell ⟨k,1,none⟩ b).heap[j]?=W.heap[j]?:=fun j hj=>by rw[Below.heap_setCell _ _ _ _ hj,Below.heap_setCell _ _ _ _ hj]
 exact⟨⟨h.ra.own (k:=k) hb (by omega) (by omega) (fun e=>by rw[hk];exact BI _ rfl _ _) ix,BR G h.look (((Below.refl _ _).setCell (p:=⟨k,0,none⟩) (Nat.le_trans hle hl) _).setCell (p:=⟨k,1,none⟩) (Nat.le_trans hle hl) _),(ix _ he).trans h.env,(ix _ h6).trans h.box,(ix _ n8.symm).trans h.res,(ix _ hn).trans h.nd,(h.bF.own hl hle _ _).own hl hle _ _,.inr ⟨l1,l2⟩,h.l6,h.l8,h.ln⟩,by rw[ai (ai hk 0 a) 1 b];rfl⟩
theorem Ji{C:Rc}(π:bO){x:Sm}{a:Nat}(G:Gd C g){ct:Ct}(hd:ns[k]?=some d)(hk:d.kind=3)(ha:d.a=(a:Int))(IH:jm C π g cap ns x a ct):jm C π g cap ns (.neg x) k ct:=by
 intro F e ge rec w hR hL he nO hr;have HW:=qW G hR hL nO d;obtain⟨W,hW⟩:∃W,wW w ge d=W:=⟨_,rfl⟩;rw[hW]at HW;unfold wW at hW;rw[hk]at hW;have m0:=cell_of hR.aV 0 (v:=.pointer (some ⟨C.pb,0,none⟩)) rfl;have c0:=hL.slice;obtain⟨dj,r0,r1,r2,r3,r4,r5,r6,r7,r8,r9⟩:=hL.facts hd;have h1:=hL.mm;have h2:=hL.hmax;have h3:=hL.hn;have lp:=hL.ltp;have lg:=hL.ltg;have lb:C.b<w.heap.size:=ah hR.aV;rw[hk]at r0;have H:=hid HW;have HE:=hid he;have HG:=hid G;have HC:=hid (IH F e ge rec W HW.ra HW.look he HW.env hr);have HK:Hid (d.kind=3/\d.a=(a:Int)):=⟨hk,ha⟩;clear hR hL nO he hr hd HW G hk ha IH;go_enter func105,ntmps105;go_upto_region 2 with fail;try rw[hW]
 obtain⟨k6,e6⟩:∃k6,k6=w.heap.size:=⟨_,rfl⟩;obtain⟨k8,e8⟩:∃k8,k8=w.heap.size+1:=⟨_,rfl⟩;obtain⟨kn,en⟩:∃kn,kn=w.heap.size+1+1:=⟨_,rfl⟩;rw[<-en,<-e8,<-e6];rw[<-en,<-e8,<-e6]at H;clear hW m0 c0 r0 r1 r2 r3 r4 r5 r6 r7 r8 r9 h1 h2 h3 lp lg lb dj e6 e8 en;have n0:=cell_of H.nd 0 (v:=.int .i64 3) (by rw[<-HK.1];rfl);have n1:=cell_of H.nd 1 (v:=.int .i64 (a:Int)) (by rw[<-HK.2];rfl);have b0:=cell_of H.box 0 (v:=.bool false) rfl;have b1:=cell_of H.box 1 (v:=.slice (some ⟨ge,0,none⟩) 8 8) rfl;go_wp2_with fail;refine HC.mono ?_;rintro r w2⟨xa,xb,ok,rfl,r2,k2,o2⟩;have h2:=H.step HG.out r2 k2;have h3:=h2.call HG.out (below_alloc1 w2 (.cells #[.int .i64 xa,.int .i64 xb] 191));have hv:=heap_alloc_new w2 (.cells #[.int .i64 xa,.int .i64 xb] 191);have W6:w.heap.size<=w2.heap.size/\w2.heap.size≠k8:=⟨h2.bF.below.size,by have:=ah h2.res;omega⟩;clear HC H n0 n1 b0 b1 r2 k2 h2;go_upto_region 10 with fail;have HL:=hid W6
 clear W6;generalize w2.alloc (.cells #[.int .i64 xa,.int .i64 xb] 191)=X at *;generalize w2.heap.size=kv at *;cases hx:(dA π x ct e).2 with
 | none =>
  rw[hx]at o2;obtain rfl:ok=false:=o2;have HX:Hid (Qu xa xb false (dA π (.neg x) ct e).2):=by have q:(dA π (.neg x) ct e).2=(dA π x ct e).2.map (Dm π).neg:=rfl;unfold Hid;rw[q,hx];rfl
  clear hx;obtain⟨v0,v1,_,_,_⟩:=aH hv;have h9:=h3;clear h3 hv;obtain⟨y0,y1,nA,nB,mq⟩:=aH h9.res;have MQ:=hid (mq (.int .i64 xa) (.int .i64 xb));have HT:=hid (h9.ret (.int .i64 xa) (.int .i64 xb));clear h9 mq;go_wp2_with fail;exact bodyPost_ret (v:=.tuple #[.agg #[.int .i64 xa,.int .i64 xb],.bool false]) (by simp[results,results105,go_sem,MQ.1,MQ.2]) rfl ⟨xa,xb,false,rfl,HT.1,HT.2,HX.out⟩
 | some x0 =>
  rw[hx]at o2;obtain⟨rfl,rfl,rfl,wx⟩:=o2;have HX:Hid (Qu (pA (cJ (-x0.b) (-x0.a))) (pB (cJ (-x0.b) (-x0.a))) true (dA π (.neg x) ct e).2):=by have q:(dA π (.neg x) ct e).2=(dA π x ct e).2.map (Dm π).neg:=rfl;unfold Hid;rw[q,hx];exact⟨rfl,rfl,rfl,(Kr π).wneg _ wx⟩
  have HM:Hid (∀w:Wd,Calls _ _ _ _ _):=fun w=>RW wx w
  generalize pA (cJ (-x0.b) (-x0.a))=ya at *;generalize pB (cJ (-x0.b) (-x0.a))=yb at *;clear hx wx;have HS:=hid (And.intro h3 hv);obtain⟨v0,v1,_,_,_⟩:=aH hv;clear h3 hv;go_wp2_with fail;have hS:iV C g cap ns e ge d w k6 k8 kn (WI.told π rec F (dA π x ct e).1) X.drew/\X.drew.heap[kv]?=some (.cells #[.int .i64 (pA x0),.int .i64 (pB x0)] 191):=⟨HS.1.call HG.out (Below.refl _ _).drew,HS.2⟩;refine wp_region_held_drew (S:=fun w':Wd=>iV C g cap ns e ge d w k6 k8 kn (WI.told π rec F (dA π x ct e).1) w'/\∃u v,w'.heap[kv]?=some (.cells #[u,v] 191)) (by kernel_rfl) ⟨hS.1,_,_,hS.2⟩ (fun aa=>?_);generalize X.drew=V at *;refine tq 0 (.pointer (some ⟨C.b,0,none⟩)) aa ?_;refine tq 1 (.pointer (some ⟨C.b,0,none⟩)) aa ?_;refine tq 2 (.pointer (some ⟨C.b,1,none⟩)) aa ?_;refine tq 3 (.pointer (some ⟨C.b,1,none⟩)) aa ?_;refine tk 4 (.int .i64 0) rfl (fun w' h=>by have q:=h.1.ra.cells.1;go_simp) aa ?_;obtain⟨v0',v1',_,_,_⟩:=aH hS.2;refine cH 5 fun K hK=>?_
  simp only[bT,gN];go_simp;refine hK.out _ _ aa (fun _=>?_);clear hK K;refine cH 6 fun K hK=>?_
  simp only[bT];go_simp;refine(HM.out _).mono ?_;rintro r w8⟨rfl,b8⟩;have Bo:=(b8.block _ (ah hS.2)).trans hS.2;have h8:=hS.1.call HG.out b8;obtain⟨q0,q1,mv,mu,_⟩:=aH Bo;have h9:=h8.fill HG.out Bo HL.1 HL.2 (.int .i64 ya) (.int .i64 yb);clear b8 v0' v1' v0 v1;go_wp2_with fail;refine hK.out _ _ ⟨h8,_,_,Bo⟩ (fun _=>?_);clear hK K;refine cH 7 fun K hK=>?_
  simp only[bT];go_simp;refine hK.out _ _ ⟨h9.1,_,_,h9.2⟩ (fun _=>?_);clear hK K;refine wpAnyH_done (by kernel_rfl) ?_ _;obtain⟨h9,hv⟩:=h9;obtain⟨v0,v1,_,_,_⟩:=aH hv;clear q0 q1 mv mu Bo h8 aa hS HS;generalize (w8.setCell ⟨kv,0,none⟩ (.int .i64 ya)).setCell ⟨kv,1,none⟩ (.int .i64 yb)=Y at *;obtain⟨y0,y1,nA,nB,mq⟩:=aH h9.res;have MQ:=hid (mq (.int .i64 ya) (.int .i64 yb));have HT:=hid (h9.ret (.int .i64 ya) (.int .i64 yb));clear h9 mq;go_wp2_with fail;exact bodyPost_ret (v:=.tuple #[.agg #[.int .i64 ya,.int .i64 yb],.bool true]) (by simp[results,results105,go_sem,MQ.1,MQ.2]) rfl ⟨ya,yb,true,rfl,HT.1,HT.2,HX.out⟩
end
end RI
end
section
namespace RI
section
variable{g cap op lo:Nat}
variable{ns:List aJ}
def pM(op:Nat)(q:Int)(bad:Bool):List (gd T):=if 3<=op then [.site q bad] else []
theorem wS(π:bO)(k:Nat)(x y:Sm)(ct:Ct)(s:dt)(es:List (gd T))(h:dA π x ct s=(es,none)):dA π (.bin k x y) ct s=(es,none):=Sp.wS (Dm π) k x y ct s es h
theorem sl(π:bO)(k:Nat)(x y:Sm)(ct:Ct)(s:dt)(es:List (gd T))(a:T)(dD:List (gd T))(h:dA π x ct s=(es,some a))(h2:dA π y (if 3<=k then Sp.aL (Sp.cS x ct) else Sp.cS x ct) s=(dD,none)):dA π (.bin k x y) ct s=(es ++ dD,none):=Sp.sl (Dm π) k x y ct s es a dD h h2
theorem Lo(π:bO)(k:Nat)(x y:Sm)(ct:Ct)(s:dt)(es:List (gd T))(a:T)(dD:List (gd T))(c:T)(h:dA π x ct s=(es,some a))(h2:dA π y (if 3<=k then Sp.aL (Sp.cS x ct) else Sp.cS x ct) s=(dD,some c)):dA π (.bin k x y) ct s=(es ++ dD ++ pM k (Sp.cS x ct).2 ((Dm π).nought c),cp k a c):=by
 by_cases h3:3<=k
 ·rw[pM,if_pos h3];exact L8 (Dm π) k x y ct s es a dD c h h2 h3
 ·rw[pM,if_neg h3,List.append_nil];exact Ni (Dm π) k x y ct s es a dD c h h2 h3
theorem yF{C:Rc}(π:bO){F:jB}(op:Nat)(q:Int)(bad rec:Bool){w:Wd}(h:bx C F w)(hr:WI.df rec F (pM op q bad)) :
  Calls prog 109 #[.pointer (some ⟨C.b,0,none⟩),.int .i64 (if 3<=op then q else -1),.bool bad,.bool rec] w fun r w'=>r=.returned (.tuple #[])/\bx C (WI.told π rec F (pM op q bad)) w'/\RK C w w':=by
 unfold pM at hr ⊢;cases rec with
 | false=>exact(JT C.b _ bad w).mono fun r w' ⟨h1,h2⟩=>⟨h1,by rw[h2];exact h,by rw[h2];exact RK.refl _ _⟩
 | true =>
  by_cases h3:3<=op
  ·simp only[if_pos h3]at hr ⊢
   obtain⟨q0,q1⟩:=hr rfl _ (List.mem_cons_self ..);obtain⟨n,rfl⟩:=Int.eq_ofNat_of_zero_le q0;exact LN C π F n bad w h (by simpa using q1)
  ·simp only[if_neg h3]
   exact(Ii C.b (-1) bad w (by omega)).mono fun r w' ⟨h1,h2⟩=>⟨h1,by rw[h2];exact h,by rw[h2];exact RK.refl _ _⟩
theorem Im(k:Nat)(hk:k<5){x y:T}(h:Wv x)(h':Wv y)(w:Wd):Calls prog 145 #[.agg #[.int .i64 (pA x),.int .i64 (pB x)],.string ⟨(cD k).toArray⟩,.agg #[.int .i64 (pA y),.int .i64 (pB y)]] w fun e w'=>∃a b ok,e=.returned (.tuple #[.agg #[.int .i64 a,.int .i64 b],.bool ok])/\Qu a b ok (cp k x y)/\Below w.heap.size w w' :=
 (BJ k hk x.a x.b y.a y.b w h.1 h.2.1 h.2.2 h'.1 h'.2.1 h'.2.2).mono fun e w' ⟨h1,h2⟩=>by
   cases hv:cp k x y with
   | none=>rw[show cp k ⟨x.a,x.b⟩ ⟨y.a,y.b⟩=none from hv]at h1;exact⟨_,_,_,h1,rfl,h2⟩
   | some v=>rw[show cp k ⟨x.a,x.b⟩ ⟨y.a,y.b⟩=some v from hv]at h1;exact⟨_,_,_,h1,⟨rfl,rfl,rfl,Gk k x y v h h' hv⟩,h2⟩
theorem I4{C:Rc}(π:bO){x y:Sm}{a b k:Nat}{d:aJ}(G:Gd C g){ct:Ct}(hd:ns[k]?=some d)(hk:d.kind=4)(ha:d.a=(a:Int))(hb:d.b=(b:Int))(hs:d.sign=cD op)(ia:op<5)(Hn:d.site=if 3<=op then(Sp.cS x ct).2 else -1)
  (IHx:jm C π g cap ns x a ct) (IHy:jm C π g cap ns y b (if 3<=op then Sp.aL (Sp.cS x ct) else Sp.cS x ct)):jm C π g cap ns (.bin op x y) k ct:=by
 intro F e ge rec w hR hL he nO hr;have HW:=qW G hR hL nO d;obtain⟨W,hW⟩:∃W,wW w ge d=W:=⟨_,rfl⟩;rw[hW]at HW;unfold wW at hW;rw[hk]at hW;have m0:=cell_of hR.aV 0 (v:=.pointer (some ⟨C.pb,0,none⟩)) rfl;have c0:=hL.slice;obtain⟨dj,r0,r1,r2,r3,r4,r5,r6,r7,r8,r9⟩:=hL.facts hd;have h1:=hL.mm;have h2:=hL.hmax;have h3:=hL.hn;have lp:=hL.ltp;have lg:=hL.ltg;have lb:C.b<w.heap.size:=ah hR.aV;rw[hk]at r0;have H:=hid HW;have HE:=hid he;have HG:=hid G;obtain⟨es,vx,ex⟩:∃(es:List (gd T)) (vx:Option T),dA π x ct e=(es,vx):=⟨_,_,rfl⟩;obtain⟨dD,vy,ey⟩:∃(dD:List (gd T)) (vy:Option T),dA π y (if 3<=op then Sp.aL (Sp.cS x ct) else Sp.cS x ct) e=(dD,vy):=⟨_,_,rfl⟩;have HR:=hid hr;have EX:=hid ex;have EY:=hid ey;have hrx:WI.df rec F es:=by
  cases vx with
  | none=>rw[wS π op x y ct e es ex]at hr;exact hr
  | some x0 =>
   cases vy with
   | none =>rw[sl π op x y ct e es x0 dD ex ey]at hr;exact WI.df.left (es':=dD) hr
   | some y0 =>rw[Lo π op x y ct e es x0 dD y0 ex ey]at hr;exact WI.df.left (es':=dD) (WI.df.left (es':=pM op (Sp.cS x ct).2 ((Dm π).nought y0)) hr)
 have Xw:=hid IHy;have HC:=IHx F e ge rec W HW.ra HW.look he HW.env (by rw[ex];exact hrx);rw[ex]at HC;have DV:=hid HC;have HK:Hid (d.kind=4/\d.a=(a:Int)/\d.b=(b:Int)/\d.sign=cD op/\d.site=if 3<=op then(Sp.cS x ct).2 else -1):=⟨hk,ha,hb,hs,Hn⟩;clear hR hL nO he hr hd HW G hk ha hb hs Hn IHx IHy HC hrx ex ey;go_enter func105,ntmps105;go_upto_region 2 with fail;try rw[hW]
 obtain⟨k6,e6⟩:∃k6,k6=w.heap.size:=⟨_,rfl⟩;obtain⟨k8,e8⟩:∃k8,k8=w.heap.size+1:=⟨_,rfl⟩;obtain⟨kn,en⟩:∃kn,kn=w.heap.size+1+1:=⟨_,rfl⟩;rw[<-en,<-e8,<-e6];rw[<-en,<-e8,<-e6]at H;clear hW m0 c0 r0 r1 r2 r3 r4 r5 r6 r7 r8 r9 h1 h2 h3 lp lg lb dj e6 e8 en;have n0:=cell_of H.nd 0 (v:=.int .i64 4) (by rw[<-HK.1];rfl);have n1:=cell_of H.nd 1 (v:=.int .i64 (a:Int)) (by rw[<-HK.2.1];rfl);have b0:=cell_of H.box 0 (v:=.bool false) rfl;have b1:=cell_of H.box 1 (v:=.slice (some ⟨ge,0,none⟩) 8 8) rfl;go_wp2_with fail;refine DV.mono ?_;rintro r w2⟨xa,xb,ok,rfl,r2,k2,o2⟩;have h2:=H.step HG.out r2 k2;have h3:=h2.call HG.out (below_alloc1 w2 (.cells #[.int .i64 xa,.int .i64 xb] 191));have hv:=heap_alloc_new w2 (.cells #[.int .i64 xa,.int .i64 xb] 191);have W6:w.heap.size<=w2.heap.size/\w2.heap.size≠k8:=⟨h2.bF.below.size,by have:=ah h2.res;omega⟩;clear DV H n0 n1 b0 b1 r2 k2 h2;go_upto_region 15 with fail;have HL:=hid W6
 clear W6;generalize w2.alloc (.cells #[.int .i64 xa,.int .i64 xb] 191)=X at *;generalize w2.heap.size=kx at *;cases vx with
 | none =>
  obtain rfl:ok=false:=o2;have HX:Hid (dA π (.bin op x y) ct e=(es,none)):=by exact wS π op x y ct e es EX.out
  obtain⟨v0,v1,_,_,_⟩:=aH hv;have h9:=h3;clear h3 hv;obtain⟨y0,y1,nA,nB,mq⟩:=aH h9.res;have MQ:=hid (mq (.int .i64 xa) (.int .i64 xb));have HT:=hid (h9.ret (.int .i64 xa) (.int .i64 xb));clear h9 mq;go_wp2_with fail;exact bodyPost_ret (v:=.tuple #[.agg #[.int .i64 xa,.int .i64 xb],.bool false]) (by simp[results,results105,go_sem,MQ.1,MQ.2]) rfl ⟨xa,xb,false,rfl,by rw[HX.out];exact HT.1,HT.2,by rw[HX.out];rfl⟩
 | some x0 =>
  obtain⟨rfl,rfl,rfl,wx⟩:=o2;have hry:WI.df rec (WI.told π rec F es) dD:=by
   have q:=HR.out;cases vy with
   | none =>rw[sl π op x y ct e es x0 dD EX.out EY.out]at q;exact WI.df.right (es:=es) (es':=dD) q
   | some y0 =>rw[Lo π op x y ct e es x0 dD y0 EX.out EY.out]at q;exact WI.df.right (es:=es) (es':=dD) (WI.df.left (es':=pM op (Sp.cS x ct).2 ((Dm π).nought y0)) q)
  have HC:=Xw.out (WI.told π rec F es) e ge rec X h3.ra h3.look HE.out h3.env (by rw[EY.out];exact hry);rw[EY.out]at HC;have DV:=hid HC;have n2:=cell_of h3.nd 2 (v:=.int .i64 (b:Int)) (by rw[<-HK.2.2.1];rfl);have b0:=cell_of h3.box 0 (v:=.bool false) rfl;have b1:=cell_of h3.box 1 (v:=.slice (some ⟨ge,0,none⟩) 8 8) rfl;have H:=hid (And.intro h3 hv);have X9:=hid wx;clear HC hry h3 hv wx;go_wp2_with fail;refine DV.mono ?_;rintro r w4⟨ya,yb,ok,rfl,r4,k4,o4⟩;have h4:=H.1.step HG.out r4 k4;have Z7:w4.heap[kx]?=some (.cells #[.int .i64 (pA x0),.int .i64 (pB x0)] 191):=by obtain⟨l1,l2⟩:=H.1.lt;have:=HL.1;exact(k4.others kx (ah H.2) (by omega) (by omega)).trans H.2
  have bw:=below_alloc1 w4 (.cells #[.int .i64 ya,.int .i64 yb] 191);have h5:=h4.call HG.out bw;have Ti:=(bw.block _ (ah Z7)).trans Z7;have zt:=heap_alloc_new w4 (.cells #[.int .i64 ya,.int .i64 yb] 191);have HLY:=hid h4.bF.below.size;clear DV H n2 b0 b1 r4 k4 h4 Z7 bw;go_upto_region 18 with fail;generalize w4.alloc (.cells #[.int .i64 ya,.int .i64 yb] 191)=Y at *
  generalize w4.heap.size=ky at *;cases vy with
  | none =>
   obtain rfl:ok=false:=o4;have HX:Hid (dA π (.bin op x y) ct e=(es ++ dD,none)):=by exact sl π op x y ct e es x0 dD EX.out EY.out
   obtain⟨v0,v1,_,_,_⟩:=aH zt;have h9:=h5;clear h5 zt Ti;obtain⟨y0,y1,nA,nB,mq⟩:=aH h9.res;have MQ:=hid (mq (.int .i64 ya) (.int .i64 yb));have HT:=hid (h9.ret (.int .i64 ya) (.int .i64 yb));clear h9 mq;go_wp2_with fail;exact bodyPost_ret (v:=.tuple #[.agg #[.int .i64 ya,.int .i64 yb],.bool false]) (by simp[results,results105,go_sem,MQ.1,MQ.2]) rfl ⟨ya,yb,false,rfl,by rw[HX.out];exact(WI.aG π rec F es dD).symm ▸ HT.1,HT.2,by rw[HX.out];rfl⟩
  | some y0 =>
   obtain⟨rfl,rfl,rfl,wy⟩:=o4;have HX:Hid (dA π (.bin op x y) ct e=(es ++ dD ++ pM op (Sp.cS x ct).2 ((Dm π).nought y0),cp op x0 y0)):=Lo π op x y ct e es x0 dD y0 EX.out EY.out;have hrs:WI.df rec (WI.told π rec (WI.told π rec F es) dD) (pM op (Sp.cS x ct).2 ((Dm π).nought y0)):=by have q:=HR.out;rw[HX.out]at q;rw[<-WI.aG];exact WI.df.right (es:=es ++ dD) q
   have yo:=hid hrs;have aal:Hid (∀w:Wd,Calls _ _ _ _ _):=fun w=>Y5 y0 w
   have aak:Hid (∀w:Wd,Calls _ _ _ _ _):=fun w=>Im op ia X9.out wy w
   have HS:=hid (And.intro h5 (And.intro Ti zt));clear hrs wy h5 Ti zt;go_wp2_with fail;have hS:iV C g cap ns e ge d w k6 k8 kn (WI.told π rec (WI.told π rec F es) dD) Y.drew/\Y.drew.heap[kx]?=some (.cells #[.int .i64 (pA x0),.int .i64 (pB x0)] 191)/\Y.drew.heap[ky]?=some (.cells #[.int .i64 (pA y0),.int .i64 (pB y0)] 191):=⟨HS.1.call HG.out (Below.refl _ _).drew,HS.2⟩;clear HS;refine wp_region_held_drew (S:=fun w':Wd=>iV C g cap ns e ge d w k6 k8 kn (WI.told π rec (WI.told π rec F es) dD) w'/\w'.heap[kx]?=some (.cells #[.int .i64 (pA x0),.int .i64 (pB x0)] 191)/\w'.heap[ky]?=some (.cells #[.int .i64 (pA y0),.int .i64 (pB y0)] 191)) (by kernel_rfl) hS (fun aa=>?_);clear hS;generalize Y.drew=V at *;refine tk 0 (.agg #[.int .i64 (pA y0),.int .i64 (pB y0)]) rfl (fun w' h=>by have q:=cell_of h.2.2 0 (v:=.int .i64 (pA y0)) rfl;have q2:=cell_of h.2.2 1 (v:=.int .i64 (pB y0)) rfl;go_simp) aa ?_;refine tq 1 (.pointer (some ⟨C.b,0,none⟩)) aa ?_;refine tq 2 (.pointer (some ⟨C.b,0,none⟩)) aa ?_;refine tq 3 (.pointer (some ⟨C.b,1,none⟩)) aa ?_;refine tq 4 (.pointer (some ⟨C.b,1,none⟩)) aa ?_;refine tk 5 (.int .i64 0) rfl (fun w' h=>by have q:=h.1.ra.cells.1;go_simp) aa ?_;refine cH 6 fun K hK=>?_
   simp only[bT,gN];go_simp;refine(aal.out _).mono ?_;rintro r w8⟨rfl,b8⟩;have h8:iV C g cap ns e ge d w k6 k8 kn (WI.told π rec (WI.told π rec F es) dD) w8/\w8.heap[kx]?=some (.cells #[.int .i64 (pA x0),.int .i64 (pB x0)] 191)/\w8.heap[ky]?=some (.cells #[.int .i64 (pA y0),.int .i64 (pB y0)] 191):=⟨aa.1.call HG.out b8,(b8.block _ (ah aa.2.1)).trans aa.2.1,(b8.block _ (ah aa.2.2)).trans aa.2.2⟩;clear aa b8;have HKN:=hid (yF π op (Sp.cS x ct).2 ((Dm π).nought y0) rec h8.1.ra yo.out);generalize Hl:(decide (y0.a<=0) && decide (0<=y0.b))=bd;rw[show(Dm π).nought y0=bd from Hl]at HKN HX;have n7:=cell_of h8.1.nd 7 (v:=.int .i64 (if 3<=op then(Sp.cS x ct).2 else -1)) (by rw[<-HK.2.2.2.2];rfl);clear Hl;generalize (if 3<=op then(Sp.cS x ct).2 else -1)=sq at *;go_wp2_with fail;refine hK.out _ _ h8 (fun _=>?_);clear hK K;refine cH 7 fun K hK=>?_
   simp only[bT];go_simp;refine hK.out _ _ h8 (fun _=>?_);clear hK K;refine wpAnyH_done (by kernel_rfl) ?_ _;have H8:=hid h8;clear h8;go_wp2_with fail;refine HKN.mono ?_;rintro r wk⟨rfl,rk,kk⟩;have TT:=H8.1.step HG.out rk kk;obtain⟨l1,l2⟩:=H8.1.lt;have Ho:wk.heap[kx]?=_:=(kk.others kx (ah H8.2.1) (by have:=HL.1;omega) (by have:=HL.1;omega)).trans H8.2.1;have NJ:wk.heap[ky]?=_:=(kk.others ky (ah H8.2.2) (by have:=HLY.out;omega) (by have:=HLY.out;omega)).trans H8.2.2;have m1:=TT.ra.cells.1;obtain⟨Wl,Xs,_,_,_⟩:=aH Ho;obtain⟨VX,Wq,_,_,_⟩:=aH NJ;have n6:=cell_of TT.nd 6 (v:=.string ⟨(cD op).toArray⟩) (by rw[<-HK.2.2.2.1];rfl);have H9:=hid TT;clear HKN H8 rk kk TT l1 l2 Ho NJ n7;go_wp2_with fail;refine(aak.out _).mono ?_;rintro r wz⟨za,zb,zo,rfl,oz,bz⟩;have h9:=H9.call HG.out bz;have HO:=hid oz;clear m1 Wl Xs VX Wq n6 bz oz H9;obtain⟨y0,y1,nA,nB,mq⟩:=aH h9.res;have MQ:=hid (mq (.int .i64 za) (.int .i64 zb));have HT:=hid (h9.ret (.int .i64 za) (.int .i64 zb));clear h9 mq;go_wp2_with fail;exact bodyPost_ret (v:=.tuple #[.agg #[.int .i64 za,.int .i64 zb],.bool zo]) (by simp[results,results105,go_sem,MQ.1,MQ.2]) rfl ⟨za,zb,zo,rfl,by rw[HX.out];have q:=HT.1;rw[<-WI.aG,<-WI.aG,<-List.append_assoc]at q;exact q,HT.2,by rw[HX.out];exact HO.out⟩
theorem pL.cS:∀{x:Sm} {k:Nat} {ct bh:Ct},pL ns lo x k ct bh->bh=Sp.cS x ct
 | .num _,_,_,_,⟨_,_,_,_,_,_,h⟩=>h
 | .name _,_,_,_,⟨_,_,_,_,_,_,h⟩=>h
 | .neg x,_,_,_,⟨_,_,_,_,_,_,h⟩=>pL.cS (x:=x) h
 | .bin op x y,_,_,_,⟨_,_,_,_,_,_,_,_,_,_,_,_,h1,_,h2⟩=>by have e1:=pL.cS h1;have e2:=pL.cS h2;rw[e1]at e2;exact e2
theorem gV{C:Rc}(π:bO)(G:Gd C g):∀{x:Sm} {k:Nat} {ct bh:Ct},pL ns lo x k ct bh->jm C π g cap ns x k ct
 | .num _,_,ct,_,⟨_,h1,h2,h3,h4,_⟩=>I1 π G ct h1 h2 h3 h4
 | .name _,_,ct,_,⟨_,h1,h2,h3,h4,_⟩=>Ew π G ct h1 h2 h3 h4
 | .neg x,_,_,_,⟨_,_,h1,h2,h3,_,h5⟩=>Ji π G h1 h2 h3 (gV π G h5)
 | .bin op x y,_,ct,_,⟨d,a,bb,ct1,h1,h2,h3,h4,h5,h6,_,_,h9,hY,tK⟩=>by have e:=pL.cS h9;subst e;exact I4 π G h1 h2 h3 h4 h5 h6 hY (gV π G h9) (gV π G tK)
end
end RI
end
end Go.Proofs.YtiopfihjmkfdmaaGreatDoor
