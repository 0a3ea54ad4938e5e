import Derived.Test.YtiopfihjmkfdmaaGreatDoorR30
import Derived.Test.YtiopfihjmkfdmaaGreatDoorR33
namespace Go.Proofs.YtiopfihjmkfdmaaGreatDoor
open Option renaming some→Y,none→M
open Go.Obj renaming cells→L
open Go.Value renaming int→I,slice→Z,agg→J,pointer→ρ,iface→σ,tuple→φ,bool→U
open Go.IntKind renaming i64→O
open Go.Ending renaming returned→υ
open Go.Proofs.Tryz Sp
open Go.RowKit
set_option maxRecDepth 100000
set_option maxHeartbeats 16000000
section
namespace W
variable {δ : Bool}{π : ar δ}
section
variable{C:Cx}
variable{T:eQ}
variable{F F0:Fd}
variable{w W W':Wd}
variable{wa ic xa oa:Array Value}
structure gH(C:Cx)(π:ar δ)(T:eQ)(F:Fd)(w:Wd)(wa ic xa oa:Array Value)(W:Wd):Prop where
 a:aK C π T F W
 k:au C w W
 o:W.heap[w.heap.size]?=Y (L wa (π.ix 217 200))
 c:W.heap[w.heap.size+1]?=Y (L ic 293)
 s:W.heap[w.heap.size+1+1]?=Y (L xa (π.ix 220 203))
 z:W.heap[w.heap.size+1+1+1]?=Y (L π.zS (π.ix 220 203))
 u:W.heap[w.heap.size+1+1+1+1]?=Y (L oa (π.ix 220 203))
theorem gH.call{π:ar δ}(h:gH C π T F w wa ic xa oa W)(k:ω W W'):gH C π T F w wa ic xa oa W' :=
 ⟨h.a.call k,h.k.trans (au.aB k h.a.le),(k.block _ (ad h.o)).trans h.o,(k.block _ (ad h.c)).trans h.c,(k.block _ (ad h.s)).trans h.s,(k.block _ (ad h.z)).trans h.z,(k.block _ (ad h.u)).trans h.u⟩
theorem gH.bF{π:ar δ}{F':Fd}(h:gH C π T F w wa ic xa oa W)(h0:aK C π T F0 w)(ha:aK C π T F' W')(k:au C W W'):gH C π T F' w wa ic xa oa W' :=
 ⟨ha,h.k.trans k,k.aU h0 (Nat.le_refl _) h.o,k.aU h0 (by omega) h.c,k.aU h0 (by omega) h.s,k.aU h0 (by omega) h.z,k.aU h0 (by omega) h.u⟩
theorem gH.VE{π:ar δ}(h:gH C π T F w wa ic xa oa W)(h0:aK C π T F0 w)(d:Array Value)(h1:xa.size=17)(h2:d.size=17):gH C π T F w wa ic d oa (W.setCells (w.heap.size+1+1) 0 d.toList):=by have hb:Below w.heap.size W (W.setCells (w.heap.size+1+1) 0 d.toList):=aq (b:=w.heap.size+1+1) (by omega) d.toList 0 W _ (Below.refl _ _);exact⟨h0.upon h.a hb,au.upon h0 h.k hb,(aj _ _ _ _ (by omega)).trans h.o,(aj _ _ _ _ (by omega)).trans h.c,ao h.s (by rw[h1,h2]),(aj _ _ _ _ (by omega)).trans h.z,(aj _ _ _ _ (by omega)).trans h.u⟩
theorem gH.Ze{π:ar δ}(h:gH C π T F w wa ic xa oa W)(h0:aK C π T F0 w)(d:Array Value)(h1:oa.size=17)(h2:d.size=17):gH C π T F w wa ic xa d (W.setCells (w.heap.size+1+1+1+1) 0 d.toList):=by have hb:Below w.heap.size W (W.setCells (w.heap.size+1+1+1+1) 0 d.toList):=aq (b:=w.heap.size+1+1+1+1) (by omega) d.toList 0 W _ (Below.refl _ _);exact⟨h0.upon h.a hb,au.upon h0 h.k hb,(aj _ _ _ _ (by omega)).trans h.o,(aj _ _ _ _ (by omega)).trans h.c,(aj _ _ _ _ (by omega)).trans h.s,(aj _ _ _ _ (by omega)).trans h.z,ao h.u (by rw[h1,h2])⟩
abbrev tL(π:ar δ)(p:Int)(s:ST):List bV:=pI (Dm π) p s
theorem RF(o1 o2 o3 o4 o5:Obj) :
  (((((w.alloc o1).alloc o2).alloc o3).alloc o4).alloc o5).heap[w.heap.size]?=Y o1/\(((((w.alloc o1).alloc o2).alloc o3).alloc o4).alloc o5).heap[w.heap.size+1]?=Y o2/\(((((w.alloc o1).alloc o2).alloc o3).alloc o4).alloc o5).heap[w.heap.size+1+1]?=Y o3/\(((((w.alloc o1).alloc o2).alloc o3).alloc o4).alloc o5).heap[w.heap.size+1+1+1]?=Y o4/\(((((w.alloc o1).alloc o2).alloc o3).alloc o4).alloc o5).heap[w.heap.size+1+1+1+1]?=Y o5/\ω w (((((w.alloc o1).alloc o2).alloc o3).alloc o4).alloc o5):=GC w o1 o2 o3 o4 o5
theorem Bh(p:Int)(k:Nat)(tl:TypeId)(ul:Value)(tr:TypeId)(ur:Value)(av:Option Addr)(nv cv:Nat)(CN:ST->List bV × ST × ST)(body:ST->List bV × ST)(AL:ST->ST)(C:Cx)(π:ar δ)(T:eQ)(F:Fd)(b:Bool)(w:Wd)(s:ST)(ο:List bV × ST × ST)(h:aK C π T F w)(hs:Sp.Wf (Kr π) s)
  (hU:jH (Dm π) CN body p C.ai M s=ο)
  (NZ:∀F' W s',aK C π T F' W->Sp.Wf (Kr π) s'->cV b F' (CN s').1->Calls prog (π.ix 198 194) #[J (π.wk C b),J #[I O (k:Nat),σ tl ul,σ tr ur],J (π.aI s')] W (fZ C π T F' b W (CN s').1 (CN s').2.1 (CN s').2.2))
  (yU:fS (Kr π) CN) (vq:eV (Kr π) body) (gT:Fg C π T b w (Z av nv cv) body)
  (uU:∀F' W s',au C w W->aK C π T F' W->Sp.Wf (Kr π) s'->Calls prog (π.ix 229 223) #[J (π.wk C b),J (Br p k tl ul tr ur av nv cv),J (π.aI s')] W fun e w'=>e=υ (J (π.aI (AL s')))/\aK C π T F' w'/\au C W w')
  (haw:∀s',Sp.Wf (Kr π) s'->Sp.Wf (Kr π) (AL s')) (xP:C.ai<=1000) (hp:b=true->0<=p/\p.toNat<F.1.length)
  (hr:cV b F (ο.1 ++ tL π p (AL ο.2.2) ++ (CN (AL ο.2.2)).1 ++ (body (CN (AL ο.2.2)).2.1).1)) :
  Calls prog (π.ix 200 196) #[J (π.wk C b),J (Br p k tl ul tr ur av nv cv),J (π.aI s)] w (fE C π T F b w (ο.1 ++ tL π p (AL ο.2.2) ++ (CN (AL ο.2.2)).1 ++ (body (CN (AL ο.2.2)).2.1).1) (Sp.jn (Dm π) ο.2.1 (CN (AL ο.2.2)).2.2)):=by
 cases δ
 all_goals
  try dsimp only [ar.ix,ar.kd]at *
  have ef:=π.cy C b;have uB:=π.Cn C b;have hw4:(π.wk C b)[4]?=Y (I O (C.ai:Nat)):=rfl;obtain⟨wa,uT⟩:∃wa,wa=π.wk C b:=⟨_,rfl⟩;obtain⟨ic,hic⟩:∃ic,ic=Br p k tl ul tr ur av nv cv:=⟨_,rfl⟩;have U0:Hid (lX (Kr π) CN body p ο C.ai [] M s):=by rw[<-hU];exact lX.start CN body p C.ai hs
  have UON:Hid (∀(m:Nat) (ej:List bV) (oj sj:ST),lX (Kr π) CN body p ο (m+1) ej oj sj->lX (Kr π) CN body p ο m (ej ++ tL π p sj ++ (CN sj).1 ++ (body (CN sj).2.1).1) (Sp.jn (Dm π) oj (CN sj).2.2) (body (CN sj).2.1).2):=fun m ej oj sj h=>lX.on yU vq h
  have Rl:Hid (∀(W:Wd) (e':List bV) (sj:ST) xa oa,gH C π T (told π b F e') w wa ic xa oa W->xa=π.aI sj->Sp.Wf (Kr π) sj->Calls prog (π.ix 84 80) #[J wa,I O p,J xa] W fun r w'=>r=υ (φ #[])/\gH C π T (told π b F (e' ++ tL π p sj)) w wa ic xa oa w'):=fun W e' sj xa oa hW e1 hw=>by have:=nE C π T (told π b F e') b W hW.a p sj hw (fun hb=>by rw[(iY π b F e').1];exact hp hb);rw[<-e1,<-uT]at this;exact this.mono fun r w' q=>⟨q.1,hW.bF h (by rw[aF];exact q.2.1) q.2.2⟩
  have RB:Hid (∀(W:Wd) (e':List bV) (sj:ST) xa oa q1 q2,gH C π T (told π b F e') w wa ic xa oa W->xa=π.aI sj->Sp.Wf (Kr π) sj->cV b F (e' ++ (CN sj).1)->q1=π.aI (CN sj).2.1->q2=π.aI (CN sj).2.2->Calls prog (π.ix 198 194) #[J wa,J #[I O (k:Nat),σ tl ul,σ tr ur],J xa] W fun r w'=>r=υ (φ #[J q1,J q2])/\gH C π T (told π b F (e' ++ (CN sj).1)) w wa ic xa oa w'):=fun W e' sj xa oa q1 q2 hW e1 hw hr e2 e3=>by have:=NZ (told π b F e') W sj hW.a hw hr.right;unfold fZ at this;rw[<-e1,<-e2,<-e3,<-uT]at this;exact this.mono fun r w' q=>⟨q.1,hW.bF h (by rw[aF];exact q.2.1) q.2.2⟩
  have NI:Hid (∀W F' u v ua va ja xa oa,gH C π T F' w wa ic xa oa W->ua=π.aI u->va=π.aI v->Sp.Wf (Kr π) u->Sp.Wf (Kr π) v->ja=π.aI (Sp.jn (Dm π) u v)->Calls prog (π.ix 116 113) #[J wa,J ua,J va] W fun r w'=>r=υ (J ja)/\ω W w'):=fun W F' u v ua va ja xa oa hW e1 e2 w1 w2 e3=>by have:=o0 C.dv C.bY C.al C.narrow C.ai C.th C.m (if b then Y ⟨C.fb,0,M⟩ else M) u v _ W hW.a.does rfl w1 w2;have h2:Calls prog (π.ix 116 113) #[J (π.wk C b),J (π.aI u),J (π.aI v)] W _:=this;rw[<-e1,<-e2,<-e3,<-uT]at h2;exact h2
  have VT:Hid (∀(W:Wd) (e':List bV) (s1:ST) xa oa qa va,gH C π T (told π b F e') w wa ic xa oa W->qa=π.aI s1->Sp.Wf (Kr π) s1->cV b F (e' ++ (body s1).1)->va=π.aI (body s1).2->Calls prog (π.ix 82 78) #[J wa,Z av nv cv,J qa] W fun r w'=>r=υ (J va)/\gH C π T (told π b F (e' ++ (body s1).1)) w wa ic xa oa w'/\au C W w'):=fun W e' s1 xa oa qa va hW e1 hw hr e2=>by have:=gT (told π b F e') W s1 hW.k hW.a hw hr.right;unfold fE at this;rw[<-e1,<-e2,<-uT]at this;exact this.mono fun r w' q=>⟨q.1,hW.bF h (by rw[aF];exact q.2.1) q.2.2,q.2.2⟩
  have ZI:Hid (∀(W:Wd) (e':List bV) (sj:ST) xa oa va,gH C π T (told π b F e') w wa ic xa oa W->xa=π.aI sj->Sp.Wf (Kr π) sj->va=π.aI (AL sj)->Calls prog (π.ix 229 223) #[J wa,J (Br p k tl ul tr ur av nv cv),J xa] W fun r w'=>r=υ (J va)/\gH C π T (told π b F e') w wa ic xa oa w'):=fun W e' sj xa oa va hW e1 hw e2=>by have:=uU (told π b F e') W sj hW.k hW.a hw;rw[<-e1,<-e2,<-uT]at this;exact this.mono fun r w' q=>⟨q.1,hW.bF h q.2.1 q.2.2⟩
  obtain⟨xa,nJ⟩:∃xa,xa=π.aI s:=⟨_,rfl⟩;obtain⟨ES,T9⟩:∃ES,ES=ο.1 ++ tL π p (AL ο.2.2) ++ (CN (AL ο.2.2)).1 ++ (body (CN (AL ο.2.2)).2.1).1:=⟨_,rfl⟩;obtain⟨RS,Te⟩:∃RS,RS=Sp.jn (Dm π) ο.2.1 (CN (AL ο.2.2)).2.2:=⟨_,rfl⟩;have HES:=hid T9;have yL:=hid Te;rw[<-uT,<-nJ,<-T9,<-Te];rw[<-uT]at ef uB hw4;obtain⟨k0,k1,k2,k3,k4,kb⟩:=RF (w:=w) (L wa (π.ix 217 200)) (L ic 293) (L xa (π.ix 220 203)) (L π.zS (π.ix 220 203)) (L π.zS (π.ix 220 203));rw[hic]at k0 k1 k2 k3 k4 kb;have H0:Hid (gH C π T (told π b F []) w wa ic xa (π.aI M) (((((w.alloc (L wa (π.ix 217 200))).alloc (L (Br p k tl ul tr ur av nv cv) 293)).alloc (L xa (π.ix 220 203))).alloc (L π.zS (π.ix 220 203))).alloc (L π.zS (π.ix 220 203)))):=by rw[dV,hic];exact⟨h.call kb,au.aB kb h.le,k0,k1,k2,k3,k4⟩
  have HA:=hid h;have OB:=hid nJ;have HR:=hid hr;have HCW:=hid yU;have HBW:=hid vq;have HAW:=hid haw;have Wl:=hid hic;have c4:=cell_of H0.o 4 hw4;have NU:ic[0]?=Y (I O p):=by rw[hic];rfl
  have D5:ic[1]?=Y (I O (k:Nat)):=by rw[hic];rfl
  have so:ic[2]?=Y (σ tl ul):=by rw[hic];rfl
  have Bz:ic[3]?=Y (σ tr ur):=by rw[hic];rfl
  have uH:ic[4]?=Y (Z av nv cv):=by rw[hic];rfl
  clear T9 Te h hs NZ yU vq gT uU haw hp hr uT hic nJ k0 k1 k2 k3 k4 kb hU;try dsimp only [ar.ix,ar.kd]
  first | go_enter func200,ntmps200 | go_enter func196,ntmps196
  go_wp2_with fail;generalize ((((w.alloc (L wa (π.ix 217 200))).alloc (L (Br p k tl ul tr ur av nv cv) 293)).alloc (L xa (π.ix 220 203))).alloc (L π.zS (π.ix 220 203))).alloc (L π.zS (π.ix 220 203))=W0 at *;clear c4
  go_loopw [15] (fun v15 wr=>∃(j m:Nat) (ej:List bV) (oj sj:ST) (xj ua:Array Value),m+j=C.ai/\v15=I O j/\Hid (gH C π T (told π b F ej) w wa ic xj ua wr)/\Hid (lX (Kr π) CN body p ο m ej oj sj)/\Hid (xj=π.aI sj)/\Hid (ua=π.aI oj)) (fun v15 _=>C.ai - (intOf v15).toNat)
  case atStart=>exact⟨0,C.ai,[],M,s,xa,π.aI M,rfl,rfl,H0,U0,OB,rfl⟩
  case round =>
   obtain⟨j,m,ej,oj,sj,xj,ua,Qr,rfl,hq,Qb,hx,hu⟩:=hrel;clear H0 U0 OB;have fu:xj.size=17:=by rw[hx.out];exact π.aD sj
   have lD:ua.size=17:=by rw[hu.out];exact π.aD oj
   have ws:=Qb.ws;have wo:=Qb.wo;cases m with
   | zero =>
    obtain rfl:j=C.ai:=by omega
    have hE:=Qb.end;obtain⟨va,hva⟩:∃q,q=π.aI (AL sj):=⟨_,rfl⟩;obtain⟨q1,DV⟩:∃q,q=π.aI (CN (AL sj)).2.1:=⟨_,rfl⟩;obtain⟨q2,vp⟩:∃q,q=π.aI (CN (AL sj)).2.2:=⟨_,rfl⟩;obtain⟨ra,hra⟩:∃q,q=π.aI RS:=⟨_,rfl⟩;obtain⟨ba,hba⟩:∃q,q=π.aI (body (CN (AL sj)).2.1).2:=⟨_,rfl⟩;have jC:va.size=17:=by rw[hva];exact π.aD _
    have v1o:va.all (·.oneCell')=true:=by rw[hva];exact π.aV _
    have si:q1.size=17:=by rw[DV];exact π.aD _
    have Kd:q1.all (·.oneCell')=true:=by rw[DV];exact π.aV _
    have xQ:q2.size=17:=by rw[vp];exact π.aD _
    have KJ:q2.all (·.oneCell')=true:=by rw[vp];exact π.aV _
    have Io:ra.size=17:=by rw[hra];exact π.aD _
    have Xa:ra.all (·.oneCell')=true:=by rw[hra];exact π.aV _
    have Qw:=hid hva;have VQ:=hid DV;have Uq:=hid vp;have Ik:=hid hra;have HBA:=hid hba;have wv:=HAW.out sj ws;have wc:=HCW.out (AL sj) wv;have yM:=HR.out;have T9:=HES.out;have Te:=yL.out;rw[hE]at yM T9 Te;have HRB:=hid yM;have HRC:=hid yM.left;have aad:=hid T9;have HRJ:Hid (ra=π.aI (Sp.jn (Dm π) oj (CN (AL sj)).2.2)):=by rw[hra,Te];rfl
    have HO:=hid hq.o;have HS:=hid hq.s;have d0:=cell_of hq.c 0 NU;have d1:=cell_of hq.c 1 D5;have d2:=cell_of hq.c 2 so;have d3:=cell_of hq.c 3 Bz;have d4:=cell_of hq.c 4 uH;clear hva DV vp hra hba yM T9 Te hE HR HES yL UON;go_wp2_with (first
     | (refine cj (π:=π) rfl _ rfl rfl (c:=wa) HO.out ef ?_)
     | (refine bu (π:=π) rfl _ rfl rfl (c:=xj) HS.out fu ?_))
    refine(ZI.out wr ej sj xj ua va hq.out hx.out ws Qw.out).mono ?_;rintro r w1⟨rfl,h1⟩;have Ks:=hid h1.s;have Ii:Hid (gH C π T _ w wa ic va ua _):=h1.VE HA.out va fu jC;clear h1 d0 d1 d2 d3 d4 HO HS;go_wp2_with (first
     | (refine bT (π:=π) rfl _ _ rfl rfl (c:=xj) (d:=va) rfl (by exact Ks.out) fu jC v1o ?_))
    generalize w1.setCells (w.heap.size+1+1) 0 va.toList=w2 at *;have H2:Hid (gH C π T (told π b F ej) w wa ic va ua w2.drew):=Ii.call (Below.refl _ _).drew;refine wp_region_held_drew (S:=fun w':Wd=>∃e',gH C π T (told π b F e') w wa ic va ua w') (by kernel_rfl) ⟨_,H2.out⟩ (fun aa=>?_);refine mB 0 rfl (π.qq rfl _ rfl _ _ rfl (wa) (fun w' h=>(h.elim fun _ h=>aP h.o)) ef) aa ?_;refine mB 4 rfl (π.mv rfl _ rfl _ _ rfl (va) (fun w' h=>(h.elim fun _ h=>aP h.s)) jC) aa ?_;refine tq 1 (ρ (Y ⟨w.heap.size+1,0,M⟩)) aa ?_;refine tk 2 (I O p) rfl (fun w' h=>by obtain⟨_,h⟩:=h;have d0:=cell_of h.c 0 NU;go_simp) aa ?_;refine bD 3 fun K hK=>?_
    simp only[bp,fB];go_simp;refine(fA p _).mono ?_;rintro r w0⟨rfl,rfl⟩;go_wp2_with fail;refine hK.out _ _ aa (fun aa=>?_);clear hK K;refine bD 5 fun K hK=>?_
    simp only[bp];go_simp;refine(Rl.out _ ej (AL sj) va ua H2.out Qw.out wv).mono ?_;rintro r w3⟨rfl,h3⟩;go_wp2_with fail;refine hK.out _ _ ⟨_,h3⟩ (fun _=>?_);clear hK K aa;refine wpAnyH_done (by kernel_rfl) ?_ _;have Rh:=hid h3;have XN:=hid h3.o;have Ku:=hid h3.s;have c1:=cell_of h3.c 1 D5;have c2:=cell_of h3.c 2 so;have c3:=cell_of h3.c 3 Bz;clear h3 H2 Ii Ks;go_wp2_with (first
     | (refine cj (π:=π) rfl _ rfl rfl (c:=wa) XN.out ef ?_)
     | (refine bu (π:=π) rfl _ rfl rfl (c:=va) Ku.out jC ?_))
    refine(RB.out _ _ (AL sj) va ua q1 q2 Rh.out Qw.out wv HRC.out VQ.out Uq.out).mono ?_;rintro r w4⟨rfl,h4⟩;obtain⟨t1,t2,t3,t4,tb⟩:=rI (π:=π) w4 q1 q2 si xQ;have Gh:=hid t1;have BS:=hid t2;have hp8:w.heap.size+1+1+1+1<w4.heap.size:=ad h4.u;have Ee:Hid (gH C π T _ w wa ic va ua _):=h4.call tb;have T3:=hid t3;have T4:=hid t4;have Ur:=hid Ee.o;have HU5:=hid Ee.u;have c4:=cell_of Ee.c 4 uH;have c7:=cell_of Ee.o 7 uB;clear t1 t2 t3 t4 tb h4 c1 c2 c3 XN Ku Rh;cases b with
    | true =>
     simp only[if_true]at c7;go_wp2_with (first
      | (refine bT (π:=π) rfl _ _ rfl rfl (c:=π.zS) (d:=q1) rfl (by exact Gh.out) rfl si Kd ?_)
      | (refine bT (π:=π) rfl _ _ rfl rfl (c:=π.zS) (d:=q2) rfl (by exact BS.out) rfl xQ KJ ?_)
      | (refine cj (π:=π) rfl _ rfl rfl (c:=wa) (by exact Ur.out) ef ?_)
      | (refine bu (π:=π) rfl _ rfl rfl (c:=q1) (by exact T3.out) si ?_))
     generalize ((((w4.alloc (L π.zS (π.ix 220 203))).alloc (L π.zS (π.ix 220 203))).setCells w4.heap.size 0 q1.toList).setCells (w4.heap.size+1) 0 q2.toList)=w5 at *;refine(VT.out w5 _ (CN (AL sj)).2.1 va ua q1 ba Ee.out VQ.out wc.1 HRB.out HBA.out).mono ?_;rintro r w6⟨rfl,h6,b6⟩;have t6:=b6.aU HA.out (by omega) T4.out;have T6:=hid t6;have HI6:=hid h6;have HO6:=hid h6.o;have HU6:=hid h6.u;clear h6 b6 t6 c4 c7 T3 T4 Ur HU5 Ee Gh BS;go_wp2_with (first
      | (refine cj (π:=π) rfl _ rfl rfl (c:=wa) (by exact HO6.out) ef ?_)
      | (refine bu (π:=π) rfl _ rfl rfl (c:=ua) (by exact HU6.out) lD ?_)
      | (refine bu (π:=π) rfl _ rfl rfl (c:=q2) (by exact T6.out) xQ ?_))
     refine(NI.out w6 _ oj (CN (AL sj)).2.2 ua q2 ra va ua HI6.out hu.out Uq.out wo wc.2 HRJ.out).mono ?_;rintro r w7⟨rfl,b7⟩;have h7:=HI6.call b7;have HZ7:=hid h7.z;have WK:=hid h7;have iz:Hid (_=_):=ao h7.z (d:=ra) (by rw[Io];rfl);have fF:Hid (Below w.heap.size w7 _):=aq (b:=w.heap.size+1+1+1) (by omega) ra.toList 0 w7 _ (Below.refl _ _);clear h7 b7;go_wp2_with (first
      | (refine bT (π:=π) rfl _ _ rfl rfl rfl HZ7.out rfl Io Xa ?_))
     refine bodyPost_ret (aM rfl _ _ rfl iz.out Io) rfl ⟨by rw[Ik.out],?_,au.upon HA.out WK.k fF.out⟩;rw[aad.out];exact HA.upon WK.a fF.out
    | false =>
     simp only[Bool.false_eq_true,if_false]at c7;go_wp2_with (first
      | (refine bT (π:=π) rfl _ _ rfl rfl (c:=π.zS) (d:=q1) rfl (by exact Gh.out) rfl si Kd ?_)
      | (refine bT (π:=π) rfl _ _ rfl rfl (c:=π.zS) (d:=q2) rfl (by exact BS.out) rfl xQ KJ ?_)
      | (refine cj (π:=π) rfl _ rfl rfl (c:=wa) (by exact Ur.out) ef ?_)
      | (refine bu (π:=π) rfl _ rfl rfl (c:=ua) (by exact HU5.out) lD ?_)
      | (refine bu (π:=π) rfl _ rfl rfl (c:=q2) (by exact T4.out) xQ ?_))
     generalize ((((w4.alloc (L π.zS (π.ix 220 203))).alloc (L π.zS (π.ix 220 203))).setCells w4.heap.size 0 q1.toList).setCells (w4.heap.size+1) 0 q2.toList)=w6 at *;refine(NI.out w6 _ oj (CN (AL sj)).2.2 ua q2 ra va ua Ee.out hu.out Uq.out wo wc.2 HRJ.out).mono ?_;rintro r w7⟨rfl,b7⟩;have h7:=Ee.call b7;have HZ7:=hid h7.z;have WK:=hid h7;have iz:Hid (_=_):=ao h7.z (d:=ra) (by rw[Io];rfl);have fF:Hid (Below w.heap.size w7 _):=aq (b:=w.heap.size+1+1+1) (by omega) ra.toList 0 w7 _ (Below.refl _ _);clear h7 b7;go_wp2_with (first
      | (refine bT (π:=π) rfl _ _ rfl rfl rfl HZ7.out rfl Io Xa ?_))
     refine bodyPost_ret (aM rfl _ _ rfl iz.out Io) rfl ⟨by rw[Ik.out],?_,au.upon HA.out WK.k fF.out⟩;exact HA.upon WK.a fF.out
   | succ m =>
    have Gm:((j:Nat):Int)<((C.ai:Nat):Int):=by omega
    have wc:=HCW.out sj ws;obtain⟨q1,DV⟩:∃q,q=π.aI (CN sj).2.1:=⟨_,rfl⟩;obtain⟨q2,vp⟩:∃q,q=π.aI (CN sj).2.2:=⟨_,rfl⟩;obtain⟨oa,hoa⟩:∃q,q=π.aI (Sp.jn (Dm π) oj (CN sj).2.2):=⟨_,rfl⟩;obtain⟨sa,TN⟩:∃q,q=π.aI (body (CN sj).2.1).2:=⟨_,rfl⟩;have si:q1.size=17:=by rw[DV];exact π.aD _
    have Kd:q1.all (·.oneCell')=true:=by rw[DV];exact π.aV _
    have xQ:q2.size=17:=by rw[vp];exact π.aD _
    have KJ:q2.all (·.oneCell')=true:=by rw[vp];exact π.aV _
    have o17:oa.size=17:=by rw[hoa];exact π.aD _
    have o1o:oa.all (·.oneCell')=true:=by rw[hoa];exact π.aV _
    have UC:sa.size=17:=by rw[TN];exact π.aD _
    have s1o:sa.all (·.oneCell')=true:=by rw[TN];exact π.aV _
    have VQ:=hid DV;have Uq:=hid vp;have HOA:=hid hoa;have HSA:=hid TN;clear DV vp hoa TN;obtain⟨more,QU⟩:=Qb.parts;have yM:=HR.out;rw[QU]at yM;have hrb:cV b F (ej ++ tL π p sj ++ (CN sj).1 ++ (body (CN sj).2.1).1):=yM.left.left.left.left;have HRC:=hid hrb.left;have HRB:=hid hrb;have Gz:=hid (UON.out m ej oj sj Qb.out);clear yM hrb QU;go_wp2_with fail;have HO:=hid hq.o;have H1:Hid (gH C π T (told π b F ej) w wa ic xj ua wr.drew):=hq.call (Below.refl _ _).drew;refine wp_region_held_drew (S:=fun w':Wd=>∃e',gH C π T (told π b F e') w wa ic xj ua w') (by kernel_rfl) ⟨_,H1.out⟩ (fun aa=>?_);refine mB 0 rfl (π.qq rfl _ rfl _ _ rfl (wa) (fun w' h=>(h.elim fun _ h=>aP h.o)) ef) aa ?_;refine mB 4 rfl (π.mv rfl _ rfl _ _ rfl (xj) (fun w' h=>(h.elim fun _ h=>aP h.s)) fu) aa ?_;refine tq 1 (ρ (Y ⟨w.heap.size+1,0,M⟩)) aa ?_;refine tk 2 (I O p) rfl (fun w' h=>by obtain⟨_,h⟩:=h;have d0:=cell_of h.c 0 NU;go_simp) aa ?_;refine bD 3 fun K hK=>?_
    simp only[bp,fB];go_simp;refine(fA p _).mono ?_;rintro r w0⟨rfl,rfl⟩;go_wp2_with fail;refine hK.out _ _ aa (fun aa=>?_);clear hK K;refine bD 5 fun K hK=>?_
    simp only[bp];go_simp;refine(Rl.out _ ej sj xj ua H1.out hx.out ws).mono ?_;rintro r w1⟨rfl,h1⟩;go_wp2_with fail;refine hK.out _ _ ⟨_,h1⟩ (fun _=>?_);clear hK K aa;refine wpAnyH_done (by kernel_rfl) ?_ _;have HI1:=hid h1;have It:=hid h1.o;have Ks:=hid h1.s;have c1:=cell_of h1.c 1 D5;have c2:=cell_of h1.c 2 so;have c3:=cell_of h1.c 3 Bz;clear h1 H1 HO;go_wp2_with (first
     | (refine cj (π:=π) rfl _ rfl rfl It.out ef ?_)
     | (refine bu (π:=π) rfl _ rfl rfl Ks.out fu ?_))
    refine(RB.out _ _ sj xj ua q1 q2 HI1.out hx.out ws HRC.out VQ.out Uq.out).mono ?_;rintro r w2⟨rfl,h2⟩;obtain⟨t1,t2,t3,t4,tb⟩:=rI (π:=π) w2 q1 q2 si xQ;have Gh:=hid t1;have BS:=hid t2;have hp8:w.heap.size+1+1+1+1<w2.heap.size:=ad h2.u;have Rh:Hid (gH C π T _ w wa ic xj ua _):=h2.call tb;have T3:=hid t3;have T4:=hid t4;have XN:=hid Rh.o;have HU3:=hid Rh.u;clear t1 t2 t3 t4 tb h2 c1 c2 c3 It Ks HI1;go_wp2_with (first
     | (refine bT (π:=π) rfl _ _ rfl rfl (c:=π.zS) (d:=q1) rfl (by exact Gh.out) rfl si Kd ?_)
     | (refine bT (π:=π) rfl _ _ rfl rfl (c:=π.zS) (d:=q2) rfl (by exact BS.out) rfl xQ KJ ?_)
     | (refine cj (π:=π) rfl _ rfl rfl (c:=wa) (by exact XN.out) ef ?_)
     | (refine bu (π:=π) rfl _ rfl rfl (c:=ua) (by exact HU3.out) lD ?_)
     | (refine bu (π:=π) rfl _ rfl rfl (c:=q2) (by exact T4.out) xQ ?_))
    generalize ((((w2.alloc (L π.zS (π.ix 220 203))).alloc (L π.zS (π.ix 220 203))).setCells w2.heap.size 0 q1.toList).setCells (w2.heap.size+1) 0 q2.toList)=w3 at *;refine(NI.out w3 _ oj (CN sj).2.2 ua q2 oa xj ua Rh.out hu.out Uq.out wo wc.2 HOA.out).mono ?_;rintro r w4⟨rfl,b4⟩;have h4:=Rh.call b4;have HU4:=hid h4.u;have Ee:Hid (gH C π T _ w wa ic xj oa _):=h4.Ze HA.out oa lD o17;have hw3:=ad T3.out;have t5:(w4.setCells (w.heap.size+1+1+1+1) 0 oa.toList).heap[w2.heap.size]?=Y (L q1 (π.ix 220 203)):=(aj _ _ _ _ (by omega)).trans ((b4.block _ (ad T3.out)).trans T3.out);have T5:=hid t5;have Ur:=hid Ee.o;have c4:=cell_of Ee.c 4 uH;clear b4 h4 t5 XN HU3 T3 T4 Gh BS Rh;go_wp2_with (first
     | (refine bT (π:=π) rfl _ _ rfl rfl (c:=ua) (d:=oa) rfl (by exact HU4.out) lD o17 o1o ?_)
     | (refine cj (π:=π) rfl _ rfl rfl (c:=wa) (by exact Ur.out) ef ?_)
     | (refine bu (π:=π) rfl _ rfl rfl (c:=q1) (by exact T5.out) si ?_))
    generalize w4.setCells (w.heap.size+1+1+1+1) 0 oa.toList=w5 at *;refine(VT.out w5 _ (CN sj).2.1 xj oa q1 sa Ee.out VQ.out wc.1 HRB.out HSA.out).mono ?_;rintro r w6⟨rfl,h6,_⟩;have HS6:=hid h6.s;have HQ:Hid (gH C π T _ w wa ic sa oa _):=h6.VE HA.out sa fu UC;clear h6 c4 T5 Ur Ee HU4;go_wp2_with (first
     | (refine bT (π:=π) rfl _ _ rfl rfl (c:=xj) (d:=sa) rfl (by exact HS6.out) fu UC s1o ?_))
    exact⟨⟨j+1,m,_,_,_,sa,oa,by omega,by go_num,HQ,Gz,HSA,HOA⟩,by simp[intOf];omega⟩
end
end W
end
section
namespace W
variable {δ : Bool}{π : ar δ}
theorem mS(p:Int)(k:Nat)(hk:k<8)(tv:TypeId)(uv:Value)(C:Cx)(π:ar δ)(T:eQ)(F:Fd)(b:Bool)(w:Wd)(e:Fin 8->Sp.Iv)(es:List bV)(o:Option Sp.Iv)(h:aK C π T F w)
  (hs:nA C π T F b (σ tv uv) e es o) (u:ST) (hu:u=o.map fun v=>(show Fin 8->Sp.Iv from hY (Dm π) e k v)) :
  Calls prog (π.ix 158 153) #[J (π.wk C b),J #[I O p,I O (k:Nat),σ tv uv],J (π.aI (Y e))] w (fE C π T F b w es u):=by
 cases δ
 all_goals
  try dsimp only [ar.ix,ar.kd]at *
  obtain⟨k0,k1,k2,k3,kb⟩:=bB (w:=w) (o1:=L (π.wk C b) (π.ix 217 200)) (o2:=L #[I O p,I O (k:Nat),σ tv uv] 279) (o3:=L (π.aI (Y e)) (π.ix 220 203)) (o4:=L π.zS (π.ix 220 203)) (Below.refl _ _);have HW:=hs _ (h.call kb);have ef:=π.cy C b;have ee:=π.aD (Y e);have uG:(k:Int)<8:=by omega
  obtain⟨x0,x1⟩:=π.u9 e ⟨k,hk⟩;have Ek:Hid (∀v:Sp.Iv,_=_):=fun v=>π.AG e k hk v
  have It:Hid (∀v:Sp.Iv,(π.aI (show ST from Y (hY (Dm π) e k v))).size=17/\(π.aI (show ST from Y (hY (Dm π) e k v))).all (·.oneCell')=true):=fun v=>⟨π.aD _,π.aV _⟩
  generalize e ⟨k,hk⟩=x at *;simp only at x0 x1;obtain⟨na,qO⟩:∃na,na=π.eS:=⟨_,rfl⟩;have se:na.size=17:=by rw[qO];rfl
  have qS:=hid qO;generalize π.wk C b=wa at *;generalize π.aI (Y e)=xa at *;have K0:=hid k0;have K1:=hid k1;have K2:=hid k2;have K3:=hid k3;have c2:=cell_of k1 2 (v:=σ tv uv) rfl;have HB:=hid kb;have HA:=hid h;have l1:w.heap.size<=w.heap.size+1:=by omega
  have l2:w.heap.size<=w.heap.size+1+1:=by omega
  have l3:w.heap.size<=w.heap.size+1+1+1:=by omega
  clear h hs k0 k1 k2 k3 kb qO;try dsimp only [ar.ix,ar.kd]
  first | go_enter func158,ntmps158 | go_enter func153,ntmps153
  go_wp2_with (first
   | (refine cj (π:=π) rfl _ rfl rfl K0.out ef ?_)
   | (refine bu (π:=π) rfl _ rfl rfl K2.out ee ?_))
  refine HW.mono ?_;rintro r w1⟨rfl,a1,b1⟩;have dC:w.heap.size<=w1.heap.size:=Nat.le_trans HB.size b1.below.size;have ye:Hid (_=_):=b1.aU HA.out l3 K3.out;have Q9:Hid (_=_):=b1.aU HA.out l2 K2.out;have Ej:Hid (_=_):=b1.aU HA.out l1 K1.out;have nZ:=hid a1;have mN:Hid (au C w w1):=(au.aB HB.out HA.le).trans b1;clear a1 b1 HW;cases o with
  | none =>
   obtain rfl:u=M:=hu;have Kx:=below_alloc1 w1 (L #[I π.kd 0,I π.kd 0] (π.ix 131 126));have gU:=(Kx.block _ (ad ye.out)).trans ye.out;have Kc:=hid gU;have iz:Hid (_=_):=ao gU (d:=na) (by rw[se];rfl);have fF:Hid (Below w.heap.size w1 _):=aq (b:=w.heap.size+1+1+1) l3 na.toList 0 w1 _ (Kx.mono dC);clear gU Kx;simp only[ar.sF];go_wp2_with (first
    | (refine AJ (π:=π) rfl _ _ rfl rfl rfl qS.out Kc.out rfl ?_))
   refine bodyPost_ret (aM rfl _ _ rfl iz.out se) rfl ⟨by rw[qS.out];rfl,HA.upon nZ.out fF.out,au.upon HA.out mN.out fF.out⟩
  | some v =>
   have DW:Hid (u=(show ST from Y (hY (Dm π) e k v))):=hu;clear hu;have Kx:=below_alloc1 w1 (L #[I π.kd v.a,I π.kd v.b] (π.ix 131 126));obtain⟨n0,n1,_,_,_⟩:=aR (heap_alloc_new w1 (L #[I π.kd v.a,I π.kd v.b] (π.ix 131 126)));have jQ:=(Kx.block _ (ad Q9.out)).trans Q9.out;have gU:=(Kx.block _ (ad ye.out)).trans ye.out;have so:=(Kx.block _ (ad Ej.out)).trans Ej.out;have e1:=cell_of so 1 (v:=I O (k:Nat)) rfl;have y0:=cell_of jQ _ x0;have y1:=cell_of jQ _ x1;have f0:=aw jQ (1+k*2);have f1:=aw jQ (1+k*2+1);have xM:=ah (ah jQ (1+k*2) (I π.kd v.a)) (1+k*2+1) (I π.kd v.b);rw[Ek.out v]at xM;have D4:w.heap.size+1+1+1≠w.heap.size+1+1:=by omega
   have tz:(((w1.alloc (L #[I π.kd v.a,I π.kd v.b] (π.ix 131 126))).setCell ⟨w.heap.size+1+1,1+k*2,M⟩ (I π.kd v.a)).setCell ⟨w.heap.size+1+1,1+k*2+1,M⟩ (I π.kd v.b)).heap[w.heap.size+1+1+1]?=Y (L π.zS (π.ix 220 203)):=by rw[Below.heap_setCell _ _ _ _ (show w.heap.size+1+1+1≠(⟨w.heap.size+1+1,1+k*2+1,M⟩:Addr).block from D4),Below.heap_setCell _ _ _ _ (show w.heap.size+1+1+1≠(⟨w.heap.size+1+1,1+k*2,M⟩:Addr).block from D4)];exact gU
   have Ei:=hid xM;have NO:=hid tz;obtain⟨o1,o2⟩:=It.out v;have iz:Hid (_=_):=ao tz (d:=π.aI (show ST from Y (hY (Dm π) e k v))) (by rw[o1];rfl);have fF:Hid (Below w.heap.size w1 _):=aq (b:=w.heap.size+1+1+1) l3 (π.aI (show ST from Y (hY (Dm π) e k v))).toList 0 w1 _ (((Kx.mono dC).setCell (p:=⟨w.heap.size+1+1,1+k*2,M⟩) l2 (I π.kd v.a)).setCell (p:=⟨w.heap.size+1+1,1+k*2+1,M⟩) l2 (I π.kd v.b));clear xM tz jQ gU so Kx Ek It;generalize Ac:π.aI (show ST from Y (hY (Dm π) e k v))=za at *;have Ta:=hid Ac;clear Ac;simp only[ar.sF];go_wp2_with (first
    | (refine bu (π:=π) rfl _ rfl rfl (c:=za) (by exact Ei.out) o1 ?_)
    | (refine bT (π:=π) rfl _ _ rfl rfl (c:=π.zS) (d:=za) rfl (by exact NO.out) rfl o1 o2 ?_))
   refine bodyPost_ret (aM rfl _ _ rfl iz.out o1) rfl ⟨by rw[DW.out];exact congrArg (fun z=>Ending.returned (J z)) Ta.symm,HA.upon nZ.out fF.out,au.upon HA.out mN.out fF.out⟩
end W
end
section
namespace W
variable {δ : Bool}{π : ar δ}
section
variable{T:eQ}
variable{F F0:Fd}
variable{w W W' w':Wd}
variable{wa ic xa c d:Array Value}
variable{p b:Nat}
variable{ops:Array Oper}
variable{rest:List Oper}
variable{op:Oper}
variable{a:Act}
variable{t:TypeId}
variable{vals:Array (Nat × Value)}
variable{v m ky vv:Value}
structure kT(C:Cx)(π:ar δ)(T:eQ)(F:Fd)(w:Wd)(wa ic xa:Array Value)(W:Wd):Prop where
 a:aK C π T F W
 k:au C w W
 o:W.heap[w.heap.size]?=Y (L wa (π.ix 217 200))
 c:W.heap[w.heap.size+1]?=Y (L ic 293)
 s:W.heap[w.heap.size+1+1]?=Y (L xa (π.ix 220 203))
 z:W.heap[w.heap.size+1+1+1]?=Y (L π.zS (π.ix 220 203))
theorem kT.call{C:Cx}{π:ar δ}(h:kT C π T F w wa ic xa W)(k:ω W W'):kT C π T F w wa ic xa W' :=
 ⟨h.a.call k,h.k.trans (au.aB k h.a.le),(k.block _ (ad h.o)).trans h.o,(k.block _ (ad h.c)).trans h.c,(k.block _ (ad h.s)).trans h.s,(k.block _ (ad h.z)).trans h.z⟩
theorem kT.bF{C:Cx}{π:ar δ}{F':Fd}(h:kT C π T F w wa ic xa W)(h0:aK C π T F0 w)(ha:aK C π T F' W')(k:au C W W'):kT C π T F' w wa ic xa W' :=
 ⟨ha,h.k.trans k,k.aU h0 (Nat.le_refl _) h.o,k.aU h0 (by omega) h.c,k.aU h0 (by omega) h.s,k.aU h0 (by omega) h.z⟩
theorem kT.put{C:Cx}{π:ar δ}(h:kT C π T F w wa ic xa W)(h0:aK C π T F0 w)(hp:w.heap.size+1+1+1<p)(l:List Value):kT C π T F w wa ic xa (W.setCells p 0 l):=by have hb:Below w.heap.size W (W.setCells p 0 l):=aq (b:=p) (by omega) l 0 W _ (Below.refl _ _);exact⟨h0.upon h.a hb,au.upon h0 h.k hb,(aj _ _ _ _ (by omega)).trans h.o,(aj _ _ _ _ (by omega)).trans h.c,(aj _ _ _ _ (by omega)).trans h.s,(aj _ _ _ _ (by omega)).trans h.z⟩
theorem Sb{Q:Exit->Act->Wd->Prop}(qM:op.guard=M){parts:Array (Nat × Operand)}(ho:op.op=.build t parts)(hp:(parts.map fun(i,x)=>(i,a.eval x))=vals)(hb:(Instr.build t vals).run prog w=.ok v w)
  (k:wpList prog ops Q rest (a.put op.dst v) w):wpList prog ops Q (op :: rest) a w :=
 wpList_plain qM fun _ hK=>by unfold Oper.wp execOp;simp only[ho,hp,Sem.run_bind,Sem.run_pure,Result.andThen_ok,hb];exact hK _ _ k
theorem j6{S:Wd->Prop}(hw:Region.wanted op (yielded ops a.tmps)=true){parts:Array (Nat × Operand)}(ho:op.op=.build t parts)(hp:(parts.map fun(i,x)=>(i,a.eval x))=vals)(hb:∀w,(Instr.build t vals).run prog w=.ok v w):YieldsIf prog ops S op v a :=
 .inl ⟨hw,fun w _=>by unfold execOp;simp only[ho,hp,Sem.run_bind,Sem.run_pure,Result.andThen_ok,hb]⟩
theorem Bi{Q:Exit->Act->Wd->Prop}(qM:op.guard=M){x y:Operand}{c:Bool}(ho:op.op=.lookup t x y c)(hx:a.eval x=m)(hy:a.eval y=ky)(hb:(Instr.lookup t m ky c).run prog w=.ok v w)
  (k:wpList prog ops Q rest (a.put op.dst v) w):wpList prog ops Q (op :: rest) a w :=
 wpList_plain qM fun _ hK=>by unfold Oper.wp execOp;simp only[ho,hx,hy,Sem.run_bind,Sem.run_pure,Result.andThen_ok,hb];exact hK _ _ k
theorem Jr{Q:Exit->Act->Wd->Prop}(qM:op.guard=M){x y z:Operand}(ho:op.op=.mapUpdate t x y z)(hx:a.eval x=m)(hy:a.eval y=ky)(hz:a.eval z=vv)(hb:(Instr.mapUpdate t m ky vv).run prog w=.ok () w')
  (k:wpList prog ops Q rest (a.put op.dst undef) w'):wpList prog ops Q (op :: rest) a w :=
 wpList_plain qM fun _ hK=>by unfold Oper.wp execOp;simp only[ho,hx,hy,hz,Sem.run_bind,Sem.run_pure,Result.andThen_ok,hb];exact hK _ _ k
theorem Bw{Q:Exit->Act->Wd->Prop}(qM:op.guard=M)(x:Operand)(ho:op.op=.load (π.ix 365 356) x)(hx:a.eval x=ρ (Y ⟨b,0,M⟩))(h:Bk w b c (π.ix 365 356))(hc:c.size=18)
  (k:wpList prog ops Q rest (a.put op.dst (J c)) w):wpList prog ops Q (op :: rest) a w:=by
 cases δ
 all_goals
  try dsimp only [ar.ix,ar.kd]at *
  refine wpList_load_mid qM (π.ix 365 356) x ho b 0 hx c.toList _ (aP h) (by first | exact underlying365 | exact underlying356) rfl (by rw[Eu (π:=π)];simp[hc]) ?_;simpa using k
theorem Em{Q:Exit->Act->Wd->Prop}(P:Wd->Prop)(qM:op.guard=M)(x y:Operand)(ho:op.op=.store (π.ix 367 358) x y)(hx:a.eval x=ρ (Y ⟨b,0,M⟩))(hy:a.eval y=J d)(h:Bk w b c (π.ix 367 358))(hc:c.size=18)(hd:d.size=18)(h1:d.all (·.oneCell')=true)(hP:P (w.setCells b 0 d.toList))
  (k:∀W,P W->wpList prog ops Q rest (a.put op.dst undef) W):wpList prog ops Q (op :: rest) a w :=
 wpList_plain qM fun _ hK=>wp_store_mid (π.ix 367 358) x y ho b 0 d hx hy (by rw[hd,<-hc];exact bM h) (by rw[SD (π:=π),hd]) h1 (hK _ _ (k _ hP))
theorem MA{Q:Exit->Act->Wd->Prop}(qM:op.guard=M)(x:Operand)(ho:op.op=.load (π.ix 220 203) x)(hx:a.eval x=ρ (Y ⟨b,0,M⟩))(h:w.rangeAt b 0 c.toList)(hc:c.size=17)
  (k:wpList prog ops Q rest (a.put op.dst (J c)) w):wpList prog ops Q (op :: rest) a w:=by
 cases δ
 all_goals
  try dsimp only [ar.ix,ar.kd]at *
  refine wpList_load_mid qM (π.ix 220 203) x ho b 0 hx c.toList _ h (by first | exact underlying220 | exact underlying203) rfl (by rw[eh (π:=π)];simp[hc]) ?_;simpa using k
theorem I2{t:ST}{d:Bool}(h:Bk w b (π.kQ t d) (π.ix 367 358)):w.rangeAt b 0 (π.aI t).toList:=fun j v hv=>by
 have hj:j<17:=by have:=(List.getElem?_eq_some_iff.1 hv).1;rw[π.dj]at this;exact this
 rw[Nat.zero_add];refine cell_of h j ?_;rw[π.Fw t d hj];simpa using hv
theorem RO(w:Wd)(ka:Array Value)(h:ka.size=18) :
  (w.alloc (L π.zP (π.ix 367 358))).heap[w.heap.size]?=Y (L π.zP (π.ix 367 358))/\((w.alloc (L π.zP (π.ix 367 358))).setCells w.heap.size 0 ka.toList).heap[w.heap.size]?=Y (L ka (π.ix 367 358))/\ω w ((w.alloc (L π.zP (π.ix 367 358))).setCells w.heap.size 0 ka.toList):=by
 have a1:=heap_alloc_new w (L π.zP (π.ix 367 358));exact⟨a1,ao a1 (by rw[h];rfl),aq (Nat.le_refl _) _ _ _ _ (below_alloc1 w _)⟩
theorem wF(π:ar δ)(b:Bool)(F:Fd)(es:List bV):b=true->iU (Kr π) (told π b F es) es:=by intro hb;subst hb;exact tH (D:=Dm π) (K:=Kr π) es F
theorem kG(p:Int)(hp:0<=p/\p<=1000000)(k:Nat)(tl:TypeId)(ul:Value)(tr:TypeId)(ur:Value)(av:Option Addr)(nv cv:Nat)(C:Cx)(π:ar δ)(T:eQ)(F:Fd)(b:Bool)(w:Wd)(s:ST)(h:aK C π T F w)(hs:Sp.Wf (Kr π) s)
  (har:∀W,au C w W->aK C π T F W->Calls prog (π.ix 200 196) #[J (π.wk C b),J (Br p k tl ul tr ur av nv cv),J (π.aI s)] W (fE C π T F b W (T p s).1 (T p s).2)) :
  Calls prog (π.ix 161 156) #[J (π.wk C b),J (Br p k tl ul tr ur av nv cv),J (π.aI s)] w (fE C π T F b w (T p s).1 (T p s).2):=by
 cases δ
 all_goals
  try dsimp only [ar.ix,ar.kd]at *
  have ef:=π.cy C b;have Z3:=π.Sd C b;have uB:=π.Cn C b;obtain⟨wa,uT⟩:∃wa,wa=π.wk C b:=⟨_,rfl⟩;obtain⟨ic,hic⟩:∃ic,ic=Br p k tl ul tr ur av nv cv:=⟨_,rfl⟩;obtain⟨xa,nJ⟩:∃xa,xa=π.aI s:=⟨_,rfl⟩;obtain⟨ka,hka⟩:∃ka,ka=π.nt p s:=⟨_,rfl⟩;obtain⟨es,hes⟩:∃es,es=(T p s).1:=⟨_,rfl⟩;obtain⟨u,hu⟩:∃u,u=(T p s).2:=⟨_,rfl⟩;obtain⟨ua,hua⟩:∃ua,ua=π.aI u:=⟨_,rfl⟩;have HAR:Hid (∀W,kT C π T F w wa ic xa W->Calls prog (π.ix 200 196) #[J wa,J (Br p k tl ul tr ur av nv cv),J xa] W fun r w'=>r=υ (J ua)/\kT C π T (told π b F es) w wa ic xa w'/\au C W w'):=fun W hW=>by have:=har W hW.k hW.a;unfold fE at this;rw[<-hes,<-hu,<-hua,<-nJ,<-uT]at this;exact this.mono fun r w' q=>⟨q.1,hW.bF h q.2.1 q.2.2,q.2.2⟩
  have Yq:Hid (∀W,kT C π T F w wa ic xa W->∃t d ok,(Instr.lookup (PR π) (.map (Y C.m)) (J ka) true).run prog W=.ok (φ #[J (π.kQ t d),U ok]) W/\(ok=true->u=t/\(d=true->iU (Kr π) F es))):=fun W hW=>by obtain⟨es0,cl,hm,hE⟩:=hW.a.memo;obtain⟨t,d,ok,h1,h2⟩:=I0 hm hE hs hp;rw[hka,hu,hes];exact⟨t,d,ok,h1,h2⟩
  have Ts:Hid (∀W,kT C π T (told π b F es) w wa ic xa W->∃W',(Instr.mapUpdate (PR π) (.map (Y C.m)) (J ka) (J (π.kQ u b))).run prog W=.ok () W'/\kT C π T (told π b F es) w wa ic xa W'/\au C W W'):=fun W hW=>by obtain⟨es0,cl,hm,hE⟩:=hW.a.memo;obtain⟨es',cl',k1,k2⟩:=Nd (t:=u) (d:=b) hm hE hs hp hu.symm (by rw[<-hes];exact wF π b F es);obtain⟨k3,k4⟩:=hW.a.OS (cl:=cl') k2;rw[hka];exact⟨_,k1,hW.bF h k3 k4,k4⟩
  have Kz:Hid (∀W,(Instr.build (π.ix 365 356) #[(0,I O p),(1,J xa)]).run prog W=.ok (J ka) W):=fun W=>by rw[nJ,hka];exact Ls p s W
  have HBP:Hid (∀W,(Instr.build (π.ix 367 358) #[(0,J ua),(1,U b)]).run prog W=.ok (J (π.kQ u b)) W):=fun W=>by rw[hua];exact LN u b W
  have fu:xa.size=17:=by rw[nJ];exact π.aD s
  have D1:ka.size=18:=by rw[hka];exact π.IW p s
  have k1o:ka.all (·.oneCell')=true:=by rw[hka];exact π.LX p s
  have Io:ua.size=17:=by rw[hua];exact π.aD u
  have Xa:ua.all (·.oneCell')=true:=by rw[hua];exact π.aV u
  rw[<-uT]at ef Z3 uB;rw[<-uT,<-nJ,<-hes,<-hu];have NU:ic[0]?=Y (I O p):=by rw[hic];rfl
  have D5:ic[1]?=Y (I O (k:Nat)):=by rw[hic];rfl
  have so:ic[2]?=Y (σ tl ul):=by rw[hic];rfl
  have Bz:ic[3]?=Y (σ tr ur):=by rw[hic];rfl
  have uH:ic[4]?=Y (Z av nv cv):=by rw[hic];rfl
  obtain⟨k0,k1,k2,k3,kb⟩:=bB (w:=w) (o1:=L wa (π.ix 217 200)) (o2:=L ic 293) (o3:=L xa (π.ix 220 203)) (o4:=L π.zS (π.ix 220 203)) (Below.refl _ _);have H0:Hid (kT C π T F w wa ic xa ((((w.alloc (L wa (π.ix 217 200))).alloc (L (Br p k tl ul tr ur av nv cv) 293)).alloc (L xa (π.ix 220 203))).alloc (L π.zS (π.ix 220 203)))):=by rw[<-hic];exact⟨h.call kb,au.aB kb h.le,k0,k1,k2,k3⟩
  have HA:=hid h;have HUA:=hid hua;clear h hs har hp uT hic nJ hka hes hu hua k0 k1 k2 k3 kb;try dsimp only [ar.ix,ar.kd]
  first | go_enter func161,ntmps161 | go_enter func156,ntmps156
  go_wp2_with fail;generalize (((w.alloc (L wa (π.ix 217 200))).alloc (L (Br p k tl ul tr ur av nv cv) 293)).alloc (L xa (π.ix 220 203))).alloc (L π.zS (π.ix 220 203))=W0 at *
  go_cut [7] from 11 to 15 (fun v7 wc=>∃kE:Nat,v7=ρ (Y ⟨kE,0,M⟩)/\Hid (w.heap.size+1+1+1<kE/\kT C π T F w wa ic xa wc/\wc.heap[kE]?=Y (L ka (π.ix 365 356))))
  case first =>
   have H1:Hid (kT C π T F w wa ic xa W0.drew):=H0.call (Below.refl _ _).drew;refine wp_region_held_drew (S:=fun w':Wd=>kT C π T F w wa ic xa w') (by kernel_rfl) H1.out (fun aa=>?_);refine mB 3 rfl (π.mv rfl _ rfl _ _ rfl (xa) (fun w' h=>aP h.s) fu) aa ?_;refine tq 0 (ρ (Y ⟨w.heap.size+1,0,M⟩)) aa ?_;refine tk 1 (I O p) rfl (fun w' h=>by have d0:=cell_of h.c 0 NU;go_simp) aa ?_;refine xX 2 5 ?_ ?_
   ·intro K hK
    simp only[bp,fB];go_simp;refine(fA p _).mono ?_;rintro r w0⟨rfl,rfl⟩;go_wp2_with fail;refine hK.out _ _ aa (fun aa=>?_);clear hK K;refine mB 4 (v:=J ka) rfl (j6 (by rfl) rfl (vals:=#[(0,I O p),(1,J xa)]) (by kernel_rfl) Kz.out) aa ?_;refine bD 5 fun K hK=>?_
    simp only[bp];have hp:w.heap.size+1+1+1<W0.drew.heap.size:=ad aa.z;have kb:=below_alloc1 W0.drew (L π.zE (π.ix 365 356));have hz:=heap_alloc_new W0.drew (L π.zE (π.ix 365 356));have hh:=aa.call kb;clear kb;go_simp;refine hK.out _ _ hh (fun aa=>?_);clear hK K hh;refine bD 6 fun K hK=>?_
    rw[if_pos (by rfl)];refine wp_store_mid _ _ _ rfl _ _ ka rfl rfl (by rw[D1];exact bM hz) (by rw[Eu (π:=π),D1]) k1o ?_;have z7:=aa.put HA.out hp ka.toList;refine hK.out _ _ z7 (fun _=>?_);clear hK K;refine wpAnyH_done (by kernel_rfl) ?_ _;go_wp2_with fail;go_meet
    case rel=>exact⟨_,rfl,hp,z7,ao hz (by rw[D1];rfl)⟩
   ·intro K hK
    simp only[bp,fB];have hp:w.heap.size+1+1+1<W0.drew.heap.size:=ad aa.z;have kb:=below_alloc1 W0.drew (L π.zE (π.ix 365 356));have hz:=heap_alloc_new W0.drew (L π.zE (π.ix 365 356));have hh:=aa.call kb;clear kb;go_simp;refine hK.out _ _ hh (fun aa=>?_);clear hK K hh;refine bD 2 fun K hK=>?_
    simp only[bp];go_simp;refine(fA p _).mono ?_;rintro r w0⟨rfl,rfl⟩;go_wp2_with fail;refine hK.out _ _ aa (fun aa=>?_);clear hK K;refine mB 4 (v:=J ka) rfl (j6 (by rfl) rfl (vals:=#[(0,I O p),(1,J xa)]) (by kernel_rfl) Kz.out) aa ?_;refine bD 6 fun K hK=>?_
    simp only[bp,fB];rw[if_pos (by rfl)];refine wp_store_mid _ _ _ rfl _ _ ka rfl rfl (by rw[D1];exact bM hz) (by rw[Eu (π:=π),D1]) k1o ?_;have z7:=aa.put HA.out hp ka.toList;refine hK.out _ _ z7 (fun _=>?_);clear hK K;refine wpAnyH_done (by kernel_rfl) ?_ _;go_wp2_with fail;go_meet
    case rel=>exact⟨_,rfl,hp,z7,ao hz (by rw[D1];rfl)⟩
  case rest =>
   obtain⟨kE,rfl,hE⟩:=hcut;obtain⟨t,d,ok,Im,qU⟩:=Yq.out _ hE.2.1;have TF:=hid Im;have sr:=hid qU;have YK:=hid hE.2.2;have d6:=cell_of hE.2.1.o 6 Z3;have d7:=cell_of hE.2.1.o 7 uB;have WG:=π.IN t d;have YV:=π.Ni t d;obtain⟨t1,t2,tb⟩:=RO (π:=π) wc (π.kQ t d) WG;have T1:=hid t1;have cR:=ad hE.2.2;have D8:Hid (kT C π T F w wa ic xa _/\_/\_):=⟨hE.2.1.call tb,(tb.block _ cR).trans hE.2.2,t2⟩;have HL:=hid hE.1;have t17:=π.aD t;have t1o:=π.aV t;obtain⟨ta,XJ⟩:∃ta,ta=π.aI t:=⟨_,rfl⟩;rw[<-XJ]at t17 t1o;have HTA:=hid XJ;have pJ:=π.JJ t d;have Y5:Hid (∀(W:Wd) (q:Nat),W.heap[q]?=Y (L (π.kQ t d) (π.ix 367 358))->W.rangeAt q 0 ta.toList):=fun W q hW=>by rw[XJ];exact I2 hW
   obtain⟨pa,hpa⟩:∃pa,pa=π.kQ t d:=⟨_,rfl⟩;rw[<-hpa]at TF WG YV pJ D8 Y5;have uF:(ok=true/\d=true)∨(ok=true/\d=false/\b=false)∨(ok=false/\b=true)∨(ok=false/\b=false)∨(ok=true/\d=false/\b=true):=by
    cases ok<;>cases d<;>cases b<;>simp
   have Yn:=ad T1.out;clear t1 t2 tb cR Im qU XJ hpa hE Yq Yn
   rcases uF with⟨rfl,rfl⟩ | ⟨rfl,rfl,rfl⟩ | ⟨rfl,rfl⟩ | ⟨rfl,rfl⟩ | ⟨rfl,rfl,rfl⟩
   ·go_wp2_with (first
     | (refine Bw (π:=π) rfl _ rfl rfl YK.out D1 ?_)
     | (refine Bi rfl rfl rfl rfl TF.out ?_)
     | (refine Em (π:=π) (P:=fun W=>kT C π T F w wa ic xa W/\W.heap[kE]?=Y (L ka (π.ix 365 356))/\W.heap[wc.heap.size]?=Y (L pa (π.ix 367 358))) rfl _ _ rfl rfl rfl (by exact T1.out) rfl WG YV D8.out ?_
        rintro w2⟨h2,_,sk⟩;change Hid (wpList _ _ _ _ _ _)))
    unfold Hid;have Ii:=hid h2;have Kc:=hid h2.z;have RNG:=hid (Y5.out _ _ sk);have c17:=cell_of sk 17 pJ;clear h2 sk d6 d7;go_upto_if 32 with fail;go_wp2_with (first
     | (refine MA (π:=π) rfl _ rfl rfl RNG.out t17 ?_)
     | (refine bT (π:=π) rfl _ _ rfl rfl rfl Kc.out rfl t17 t1o ?_))
    have iz:=ao Ii.z (d:=ta) (by rw[t17];rfl);have fF:=aq (b:=w.heap.size+1+1+1) (by omega) ta.toList 0 w2 _ (Below.refl w.heap.size _);refine bodyPost_ret (aM rfl _ _ rfl iz t17) rfl ?_;obtain⟨h1,h2⟩:=sr.out (by trivial);subst h1;unfold fE;rw[<-HTA.out];refine⟨rfl,?_,au.upon HA.out Ii.k fF⟩;have e:told π b F es=F:=by
     cases b
     ·rfl
     ·exact zO (abs π) Ii.a.wfF (h2 (by trivial))
    rw[e];exact HA.upon Ii.a fF
   ·go_wp2_with (first
     | (refine Bw (π:=π) rfl _ rfl rfl YK.out D1 ?_)
     | (refine Bi rfl rfl rfl rfl TF.out ?_)
     | (refine Em (π:=π) (P:=fun W=>kT C π T F w wa ic xa W/\W.heap[kE]?=Y (L ka (π.ix 365 356))/\W.heap[wc.heap.size]?=Y (L pa (π.ix 367 358))) rfl _ _ rfl rfl rfl (by exact T1.out) rfl WG YV D8.out ?_
        rintro w2⟨h2,_,sk⟩;change Hid (wpList _ _ _ _ _ _)))
    unfold Hid;have Ii:=hid h2;have Kc:=hid h2.z;have RNG:=hid (Y5.out _ _ sk);have c17:=cell_of sk 17 pJ;have e7:=cell_of h2.o 7 uB;clear h2 sk d6 d7;go_upto_if 32 with fail;go_wp2_with (first
     | (refine MA (π:=π) rfl _ rfl rfl RNG.out t17 ?_)
     | (refine bT (π:=π) rfl _ _ rfl rfl rfl Kc.out rfl t17 t1o ?_))
    have iz:=ao Ii.z (d:=ta) (by rw[t17];rfl);have fF:=aq (b:=w.heap.size+1+1+1) (by omega) ta.toList 0 w2 _ (Below.refl w.heap.size _);refine bodyPost_ret (aM rfl _ _ rfl iz t17) rfl ?_;obtain⟨h1,h2⟩:=sr.out (by trivial);subst h1;unfold fE;rw[<-HTA.out];exact⟨rfl,HA.upon Ii.a fF,au.upon HA.out Ii.k fF⟩
   all_goals
    go_wp2_with (first
     | (refine Bw (π:=π) rfl _ rfl rfl YK.out D1 ?_)
     | (refine Bi rfl rfl rfl rfl TF.out ?_)
     | (refine Em (π:=π) (P:=fun W=>kT C π T F w wa ic xa W/\W.heap[kE]?=Y (L ka (π.ix 365 356))/\W.heap[wc.heap.size]?=Y (L pa (π.ix 367 358))) rfl _ _ rfl rfl rfl (by exact T1.out) rfl WG YV D8.out ?_
        rintro w2⟨h2,e2,sk⟩;change Hid (wpList _ _ _ _ _ _)))
    unfold Hid;have Ii:=hid h2;have QA:=hid h2.o;have J4:=hid h2.s;have E2:=hid e2;have c17:=cell_of sk 17 pJ;have e7:=cell_of h2.o 7 uB;have d0:=cell_of h2.c 0 NU;have d1:=cell_of h2.c 1 D5;have d2:=cell_of h2.c 2 so;have d3:=cell_of h2.c 3 Bz;have d4:=cell_of h2.c 4 uH;clear h2 sk d6 d7 e2;go_upto_if 32 with fail;go_wp2_with (first
     | (refine cj (π:=π) rfl _ rfl rfl (c:=wa) QA.out ef ?_)
     | (refine bu (π:=π) rfl _ rfl rfl (c:=xa) J4.out fu ?_))
    refine(HAR.out w2 Ii.out).mono ?_;rintro r w3⟨rfl,h3,b3⟩;obtain⟨t1,t2,tb⟩:=Hu (π:=π) w3 ua Io;have e3:=b3.aU HA.out (by have:=HL.out;omega) E2.out;have l3:=ad e3;have h4:=h3.call tb;have e4:=(tb.block _ l3).trans e3;have E4:=hid e4;have T4:=hid t1;have T5:=hid t2;have f6:=cell_of h4.o 6 Z3;have f7:=cell_of h4.o 7 uB;obtain⟨W',xL,h5,b5⟩:=Ts.out _ h4;have HPU:=hid xL;have t6:=b5.aU HA.out (by have:=HL.out;omega) t2;have T6:=hid t6;have HZ5:=hid h5.z;have Ee:=hid h5;have hr5:Hid (_=_):=ao h5.z (d:=ua) (by rw[Io];rfl);have BM:Hid (Below w.heap.size W' _):=aq (b:=w.heap.size+1+1+1) (by omega) ua.toList 0 W' _ (Below.refl _ _);clear t1 t2 tb e3 h3 b3 h4 e4 xL h5 b5 t6 d0 d1 d2 d3 d4 c17 e7 QA J4 E2 TF YK Ts HAR Ii D8 Y5;go_wp2_with (first
     | (refine bT (π:=π) rfl _ _ rfl rfl rfl (by exact T4.out) rfl Io Xa ?_)
     | (refine Bw (π:=π) rfl _ rfl rfl (by exact E4.out) D1 ?_)
     | (refine bu (π:=π) rfl _ rfl rfl (by exact T5.out) Io ?_)
     | (refine Sb rfl rfl (by kernel_rfl) (HBP.out _) ?_)
     | (refine Jr rfl rfl rfl rfl rfl (by exact HPU.out) ?_
        change Hid (wpList _ _ _ _ _ _)))
    unfold Hid;go_wp2_with (first
     | (refine bu (π:=π) rfl _ rfl rfl T6.out Io ?_)
     | (refine bT (π:=π) rfl _ _ rfl rfl rfl HZ5.out rfl Io Xa ?_))
    refine bodyPost_ret (aM rfl _ _ rfl hr5.out Io) rfl ?_;unfold fE;rw[<-HUA.out];exact⟨rfl,HA.upon Ee.a BM.out,au.upon HA.out Ee.k BM.out⟩
end
end W
end
section
namespace W
variable {δ : Bool}{π : ar δ}
structure L0(π:ar δ)(wa:Array Value)(c0 c1:Value)(k:Nat)(W:Wd):Prop where
 o:W.heap[k]?=Y (L wa (π.ix 217 200))
 c:W.heap[k+1+1+1]?=Y (L #[c0,c1] 283)
theorem IU(p:Int)(k:Nat)(hk:k<8)(C:Cx)(π:ar δ)(T:eQ)(F:Fd)(b:Bool)(w:Wd)(e:Fin 8->Sp.Iv)(h:aK C π T F w) :
  Calls prog (π.ix 115 112) #[J (π.wk C b),σ 283 (J #[I O p,I O (k:Nat)]),J (π.aI (Y e))] w (fE C π T F b w [] (show ST from Y (hY (Dm π) e k π.dc))):=by
 cases δ
 all_goals
  try dsimp only [ar.ix,ar.kd]at *
  have h1:=Sr (J #[I O p,I O (k:Nat)]);have h2:=SM (J #[I O p,I O (k:Nat)]);obtain⟨k0,k1,k2,k3,kb⟩:=bB (w:=w) (o1:=L (π.wk C b) (π.ix 217 200)) (o2:=L (π.aI (Y e)) (π.ix 220 203)) (o3:=L π.zS (π.ix 220 203)) (o4:=L #[I O p,I O (k:Nat)] 283) (Below.refl _ _);have uG:(k:Int)<8:=by omega
  have jR:=π.jM C b;obtain⟨x0,x1⟩:=π.u9 e ⟨k,hk⟩;have gI:=π.AG e k hk π.dc;have lD:=π.aD (show ST from Y (hY (Dm π) e k π.dc));have BY:=π.aV (show ST from Y (hY (Dm π) e k π.dc));have HD:Hid (∀W,aK C π T F W->Calls _ _ _ W _):=fun W hW=>RU hW.does
  generalize e ⟨k,hk⟩=x at *;simp only at x0 x1;generalize π.wk C b=wa at *;generalize π.aI (Y e)=xa at *;unfold fE;generalize π.aI (show ST from Y (hY (Dm π) e k π.dc))=uu at *;generalize (π.dc:Sp.Iv)=v at *;have Ek:=hid gI;have K1:=hid k1;have K2:=hid k2;have H0:Hid (L0 π wa (I O p) (I O (k:Nat)) w.heap.size ((((w.alloc (L wa (π.ix 217 200))).alloc (L xa (π.ix 220 203))).alloc (L π.zS (π.ix 220 203))).alloc (L #[I O p,I O (k:Nat)] 283)).drew):=⟨k0,k3⟩;have HB:=hid kb.drew;have HA:=hid h;have l1:w.heap.size<=w.heap.size+1:=by omega
  have l2:w.heap.size<=w.heap.size+1+1:=by omega
  clear h k0 k1 k2 k3 kb gI;try dsimp only [ar.ix,ar.kd]
  first | go_enter func115,ntmps115 | go_enter func112,ntmps112
  go_wp2_with fail;generalize (((w.alloc (L wa (π.ix 217 200))).alloc (L xa (π.ix 220 203))).alloc (L π.zS (π.ix 220 203))).alloc (L #[I O p,I O (k:Nat)] 283)=W at *;refine wp_region_held_drew (S:=fun w':Wd=>L0 π wa (I O p) (I O (k:Nat)) w.heap.size w') (by kernel_rfl) H0.out (fun aa=>?_);refine tq 0 (ρ (Y ⟨w.heap.size+1+1+1,1,M⟩)) aa ?_;refine tk 1 (I O (k:Nat)) rfl (fun w' h=>by have d:=cell_of h.c 1 (v:=I O (k:Nat)) rfl;go_simp) aa ?_;refine tq 2 (ρ (Y ⟨w.heap.size,0,M⟩)) aa ?_;refine tk 3 (σ (π.ix 133 128) C.dv) rfl (fun w' h=>by have d:=cell_of h.o 0 jR;go_simp) aa ?_;refine tq 5 (ρ (Y ⟨w.heap.size+1,1,M⟩)) aa ?_;refine bD 4 fun K hK=>?_
  simp only[bp,fB];go_simp;refine(HD.out _ (HA.call HB.out)).mono ?_;rintro r w1⟨rfl,b1⟩;go_wp2_with fail;have Q9:Hid (w1.heap[w.heap.size+1]?=Y (L xa (π.ix 220 203))):=(b1.block _ (ad (show W.drew.heap[w.heap.size+1]?=_ from K1.out))).trans K1.out;have ye:Hid (w1.heap[w.heap.size+1+1]?=Y (L π.eS (π.ix 220 203))):=(b1.block _ (ad (show W.drew.heap[w.heap.size+1+1]?=_ from K2.out))).trans K2.out;have BN:Hid (ω w w1):=HB.trans (b1.mono HB.size);have iC:L0 π wa (I O p) (I O (k:Nat)) w.heap.size w1:=⟨(b1.block _ (ad aa.o)).trans aa.o,(b1.block _ (ad aa.c)).trans aa.c⟩;refine hK.out _ _ iC (fun aa=>?_);clear hK K iC b1;refine tq 6 (ρ (Y ⟨w.heap.size+1,1+k*2,M⟩)) aa ?_;have y0:=cell_of Q9.out _ x0;have y1:=cell_of Q9.out _ x1;have f0:=aw Q9.out (1+k*2);have f1:=aw Q9.out (1+k*2+1);refine bD 7 fun K hK=>?_
  simp only[bp,fB];go_simp;have xM:=ah (ah Q9.out (1+k*2) (I π.kd v.a)) (1+k*2+1) (I π.kd v.b);rw[Ek.out]at xM;have o3:((w1.setCell ⟨w.heap.size+1,1+k*2,M⟩ (I π.kd v.a)).setCell ⟨w.heap.size+1,1+k*2+1,M⟩ (I π.kd v.b)).heap[w.heap.size]?=Y (L wa (π.ix 217 200)):=by rw[Below.heap_setCell _ _ _ _ (show w.heap.size≠(⟨w.heap.size+1,1+k*2+1,M⟩:Addr).block from by show w.heap.size≠w.heap.size+1;omega),Below.heap_setCell _ _ _ _ (show w.heap.size≠(⟨w.heap.size+1,1+k*2,M⟩:Addr).block from by show w.heap.size≠w.heap.size+1;omega)];exact aa.o
  have c3:((w1.setCell ⟨w.heap.size+1,1+k*2,M⟩ (I π.kd v.a)).setCell ⟨w.heap.size+1,1+k*2+1,M⟩ (I π.kd v.b)).heap[w.heap.size+1+1+1]?=Y (L #[I O p,I O (k:Nat)] 283):=by rw[Below.heap_setCell _ _ _ _ (show w.heap.size+1+1+1≠(⟨w.heap.size+1,1+k*2+1,M⟩:Addr).block from by show w.heap.size+1+1+1≠w.heap.size+1;omega),Below.heap_setCell _ _ _ _ (show w.heap.size+1+1+1≠(⟨w.heap.size+1,1+k*2,M⟩:Addr).block from by show w.heap.size+1+1+1≠w.heap.size+1;omega)];exact aa.c
  have z3:((w1.setCell ⟨w.heap.size+1,1+k*2,M⟩ (I π.kd v.a)).setCell ⟨w.heap.size+1,1+k*2+1,M⟩ (I π.kd v.b)).heap[w.heap.size+1+1]?=Y (L π.eS (π.ix 220 203)):=by rw[Below.heap_setCell _ _ _ _ (show w.heap.size+1+1≠(⟨w.heap.size+1,1+k*2+1,M⟩:Addr).block from by show w.heap.size+1+1≠w.heap.size+1;omega),Below.heap_setCell _ _ _ _ (show w.heap.size+1+1≠(⟨w.heap.size+1,1+k*2,M⟩:Addr).block from by show w.heap.size+1+1≠w.heap.size+1;omega)];exact ye.out
  have Ei:=hid xM;have NO:=hid z3;have iz:Hid (_=_):=ao z3 (d:=uu) (by rw[lD];rfl);have fF:Hid (ω w _):=aq (b:=w.heap.size+1+1) l2 uu.toList 0 w _ ((BN.setCell (p:=⟨w.heap.size+1,1+k*2,M⟩) l1 (I π.kd v.a)).setCell (p:=⟨w.heap.size+1,1+k*2+1,M⟩) l1 (I π.kd v.b));refine hK.out _ _ ⟨o3,c3⟩ (fun _=>?_);clear hK K xM o3 c3 z3 y0 y1 f0 f1 aa;refine wpAnyH_done (by kernel_rfl) ?_ _;generalize (w1.setCell ⟨w.heap.size+1,1+k*2,M⟩ (I π.kd v.a)).setCell ⟨w.heap.size+1,1+k*2+1,M⟩ (I π.kd v.b)=w3 at *;go_wp2_with (first
   | (refine bu (π:=π) rfl _ rfl rfl Ei.out lD ?_)
   | (refine bT (π:=π) rfl _ _ rfl rfl rfl NO.out rfl lD BY ?_))
  refine bodyPost_ret (aM rfl _ _ rfl iz.out lD) rfl ⟨rfl,by rw[dV];exact HA.call fF.out,au.aB fF.out HA.le⟩
end W
end
namespace W
theorem kf{x:Sp.Iv}(h:Wv false x):∃c:Sp.Cg,x=uw c/\cr c:=⟨lN x,(po h.1).symm,h.2⟩
theorem Lj(π:ar false)(o:Option Sp.Cg):jG o=π.sF (o.map uw):=by cases o<;>rfl
theorem O1{B:Nat}(π:ar false){w:Wd}(hB:B<=w.heap.size):fL B π (J #[]) w:=by
 refine⟨hB,fun w' _=>⟨fun n h1 h2=>lV n w' h1 h2,DR w',fun hx=>?_,fun {k} hk {x y} hx hy=>?_,fun hx=>?_,fun {x y} hx hy=>?_,fun _ _ {r} hr {x y} hx hy=>?_,fun {r} hr {x y} hx hy=>?_,fun {x y} hx hy=>?_,fun {x y} hx hy=>?_,fun hx=>?_⟩⟩
 ·obtain⟨c,rfl,hc⟩:=kf hx
  exact J0 c w' hc
 ·obtain⟨c,rfl,hc⟩:=kf hx
  obtain⟨d,rfl,hd⟩:=kf hy;have:=DA k hk c d w' hc hd;rw[Lj π]at this;exact this
 ·obtain⟨c,rfl,hc⟩:=kf hx
  have:=Iw c.m c.r w';rw[<-I6 hc]at this;exact this
 ·obtain⟨c,rfl,hc⟩:=kf hx
  obtain⟨d,rfl,hd⟩:=kf hy;exact Pk c d w' (dz hc).1 (dz hc).2 (dz hd).1 (dz hd).2 hc
 ·obtain⟨c,rfl,hc⟩:=kf hx
  obtain⟨d,rfl,hd⟩:=kf hy;exact SC r hr c d w' hc hd
 ·obtain⟨c,rfl,hc⟩:=kf hx
  obtain⟨d,rfl,hd⟩:=kf hy;have:=KO r c d w' hc hd;rw[Lj π]at this;exact this
 ·obtain⟨c,rfl,hc⟩:=kf hx
  obtain⟨d,rfl,hd⟩:=kf hy;exact Mg c.m c.r d.m d.r w'
 ·obtain⟨c,rfl,hc⟩:=kf hx
  obtain⟨d,rfl,hd⟩:=kf hy;exact Jk c.m c.r d.m d.r w'
 ·obtain⟨c,rfl,hc⟩:=kf hx
  exact PH c.m c.r w'
end W
end Go.Proofs.YtiopfihjmkfdmaaGreatDoor
