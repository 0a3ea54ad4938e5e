import Derived.Test.YtiopfihjmkfdmabGreatDoorC25
namespace Go.Proofs.YtiopfihjmkfdmabGreatDoor
open Option renaming none->M,some->Y
open Go.Value renaming slice->Z,agg->J,bool->U,pointer->ρ,int->I,tuple->φ
open Go.Ending renaming returned->υ
open Go.IntKind renaming i64->O
open Go.Obj renaming cells->L
open Go.Proofs.Tryz Sp
set_option maxRecDepth 100000
set_option maxHeartbeats 16000000
section
namespace RG
open Go.RowKit W
theorem Au(b:Nat)(va:Option Addr)(vn vc:Nat)(n:Bool)(w:Wd) :
  Calls prog 102 #[ρ (Y ⟨b,0,M⟩),J #[U true,Z M 0 0],J #[U n,Z va vn vc]] w λr w'=>r=υ (J #[U true,Z M 0 0])/\ω w w':=by
 go_enter func102,ntmps102;go_wp2_with fail;go_returns;exact⟨rfl,by go_grown⟩
end RG
end
section
namespace RG
open Go.RowKit W
variable {E: Bool}
def BG(C:Rc E)(G:aw E)(g cap:Nat)(ns:List aK)(ka:Nat)(cond:dQ):Prop:=∀(F:jg) (s:dT) (sv:Value) (rec:Bool) (w:Wd),bE C F w->dC C.pb g cap ns w->eR E s->dL w sv s->dk rec F (cond s).1 ->
 Calls prog 61 #[ρ (Y ⟨C.b,0,M⟩),I O (ka:Nat),sv,U rec] w λr w'=>∃v1 v2,r=υ (φ #[v1,v2])/\bE C (told G rec F (cond s).1) w'/\RK C w w'/\dL w' v1 (cond s).2.1/\dL w' v2 (cond s).2.2
def sN(C:Rc E)(G:aw E)(g cap:Nat)(ns:List aK)(l:List Int)(kb:Int)(body:dP):Prop:=∀(F:jg) (s:dT) (sv:Value) (rec:Bool) (w:Wd),bE C F w->gw C l w->dC C.pb g cap ns w->eR E s->dL w sv s->dk rec F (body s).1 ->
 Calls prog 29 #[ρ (Y ⟨C.b,0,M⟩),I O kb,sv,U rec] w λr w'=>∃v,r=υ v/\bE C (told G rec F (body s).1) w'/\RK C w w'/\dL w' v (body s).2
section
variable {C: Rc E}{G: aw E}{g cap: Nat}{ns: List aK}{l: List Int}{w: Wd}{k8: Nat}{o: List (Nat×Obj)}{F: jg}{m: List (Nat×dT)}{W: Wd}
section
variable{s t u:dT}
variable{a a':Option Addr}
variable{n c n' c' ka:Nat}
variable{rec:Bool}
theorem bA.box(h:bA C g cap ns l w k8 o F m W)(k:Nat)(s:dT)(hx:(k,s)∈m):∃a n c,W.cell? ⟨k,0,M⟩=Y (U s.isNone)/\W.cell? ⟨k,1,M⟩=Y (Z a n c)/\W.frozen? ⟨k,0,M⟩=false/\W.frozen? ⟨k,1,M⟩=false/\dL W (J #[U s.isNone,Z a n c]) s/\eR E s:=by obtain⟨_,_,ws,a,n,c,hb,hs⟩:=h.st (k,s) hx;obtain⟨s0,s1,f0,f1,_⟩:=aI hb;exact⟨a,n,c,s0,s1,f0,f1,hs,ws⟩
theorem bA.node(h:bA C g cap ns l w k8 o F m W)(k:Nat)(d:aK)(hx:(k,L (oV d) 200)∈o):W.heap[k]?=Y (L (oV d) 200):=(h.ob _ hx).2.1
theorem bA.Mo(π:Gd C g)(h:bA C g cap ns l w k8 o F m W)(hs:dL W (J #[U s.isNone,Z a n c]) s)(ws:eR E s)(ht:dL W (J #[U t.isNone,Z a' n' c']) t)(wt:eR E t) :
  bA C g cap ns l w k8 o F ((W.heap.size+1,t)::(W.heap.size,s)::m) ((W.alloc (L #[U s.isNone,Z a n c] 56)).alloc (L #[U t.isNone,Z a' n' c'] 56)):=by
 have h1:=(h.new π hs ws).new π (ht.below (below_alloc1 W (L #[U s.isNone,Z a n c] 56))) wt;rw[show(W.alloc (L #[U s.isNone,Z a n c] 56)).heap.size=W.heap.size+1 by simp]at h1;exact h1
theorem qN(G:aw E)(π:Gd C g)(h:bA C g cap ns l w k8 o F m W)(p:Int)(hs:dL W (J #[U s.isNone,Z a n c]) s)(ws:eR E s)(hr:dk rec F (vT p s)) :
  Calls prog 30 #[ρ (Y ⟨C.b,0,M⟩),I O p,J #[U s.isNone,Z a n c],U rec] W λr w'=>r=υ (φ #[])/\bA C g cap ns l w k8 o (told G rec F (vT p s)) m w':=
 (yD G C F p s _ rec W h.ra hs ws hr).mono λ_ _ ⟨h1,h2,h3⟩=>⟨h1,h.step π h2 h3⟩
theorem BG.go{cond:dQ}(hA:BG C G g cap ns ka cond)(π:Gd C g)(h:bA C g cap ns l w k8 o F m W){yes no:dT}{te:jt}(hc:cond s=(te,yes,no))(hs:dL W (J #[U s.isNone,Z a n c]) s)(ws:eR E s)(hr:dk rec F te) :
  Calls prog 61 #[ρ (Y ⟨C.b,0,M⟩),I O (ka:Nat),J #[U s.isNone,Z a n c],U rec] W λr w'=>∃a1 n1 c1 a2 n2 c2,r=υ (φ #[J #[U yes.isNone,Z a1 n1 c1],J #[U no.isNone,Z a2 n2 c2]])/\bA C g cap ns l w k8 o (told G rec F te) m w'/\dL w' (J #[U yes.isNone,Z a1 n1 c1]) yes/\dL w' (J #[U no.isNone,Z a2 n2 c2]) no:=by
 have q:=hA F s _ rec W h.ra h.look ws hs (by rw[hc];exact hr);rw[hc]at q;refine q.mono ?_;rintro r w'⟨v1,v2,rfl,h1,h2,h3,h4⟩;have zW:dL w' v1 yes:=h3;have h4':dL w' v2 no:=h4;obtain⟨a1,n1,c1,rfl⟩:=zW.form;obtain⟨a2,n2,c2,rfl⟩:=h4'.form;exact⟨a1,n1,c1,a2,n2,c2,rfl,h.step π h1 h2,zW,h4'⟩
theorem sN.go{kb:Int}{body:dP}(hA:sN C G g cap ns l kb body)(π:Gd C g)(h:bA C g cap ns l w k8 o F m W){te:jt}(hc:body s=(te,t))(hs:dL W (J #[U s.isNone,Z a n c]) s)(ws:eR E s)(hr:dk rec F te) :
  Calls prog 29 #[ρ (Y ⟨C.b,0,M⟩),I O kb,J #[U s.isNone,Z a n c],U rec] W λr w'=>∃a1 n1 c1,r=υ (J #[U t.isNone,Z a1 n1 c1])/\bA C g cap ns l w k8 o (told G rec F te) m w'/\dL w' (J #[U t.isNone,Z a1 n1 c1]) t:=by
 have q:=hA F s _ rec W h.ra h.xD h.look ws hs (by rw[hc];exact hr);rw[hc]at q;refine q.mono ?_;rintro r w'⟨v1,rfl,h1,h2,h3⟩;have zW:dL w' v1 t:=h3;obtain⟨a1,n1,c1,rfl⟩:=zW.form;exact⟨a1,n1,c1,rfl,h.step π h1 h2,zW⟩
theorem qG(π:Gd C g)(h:bA C g cap ns l w k8 o F m W)(hu:xC E s t=u)(hs:dL W (J #[U s.isNone,Z a n c]) s)(ws:eR E s)(ht:dL W (J #[U t.isNone,Z a' n' c']) t)(wt:eR E t) :
  Calls prog 63 #[ρ (Y ⟨C.b,0,M⟩),J #[U s.isNone,Z a n c],J #[U t.isNone,Z a' n' c']] W λr w'=>∃a1 n1 c1,r=υ (J #[U u.isNone,Z a1 n1 c1])/\bA C g cap ns l w k8 o F m w'/\dL w' (J #[U u.isNone,Z a1 n1 c1]) u:=by
 refine(yG C.b W h.ra.ch h.ra.cells.1 hs ht ws wt).mono ?_;rintro r w'⟨v,rfl,h1,h2⟩;rw[hu]at h1;obtain⟨a1,n1,c1,rfl⟩:=h1.form;exact⟨a1,n1,c1,rfl,h.call π h2,h1⟩
theorem Sh(π:Gd C g)(h:bA C g cap ns l w k8 o F m W)(hs:dL W (J #[U s.isNone,Z a n c]) s)(ht:dL W (J #[U t.isNone,Z a' n' c']) t) :
  Calls prog 100 #[J #[U s.isNone,Z a n c],J #[U t.isNone,Z a' n' c']] W λr w'=>r=υ (U (Sq s t))/\bA C g cap ns l w k8 o F m w':=
 (rS W hs ht).mono λ_ _ ⟨h1,h2⟩=>⟨h1,h.call π h2⟩
theorem OF(π:Gd C g)(h:bA C g cap ns l w k8 o F m W){e f:di}(hs:dL W (J #[U (Y e:dT).isNone,Z a n c]) (Y e))(ht:dL W (J #[U (Y f:dT).isNone,Z a' n' c']) (Y f))(hu:u=Y λk=>iB (⟨l⟩:aw E) (e k) (f k)) :
  Calls prog 101 #[ρ (Y ⟨C.b,0,M⟩),J #[U (Y e:dT).isNone,Z a n c],J #[U (Y f:dT).isNone,Z a' n' c']] W λr w'=>∃a1 n1 c1,r=υ (J #[U u.isNone,Z a1 n1 c1])/\bA C g cap ns l w k8 o F m w'/\dL w' (J #[U u.isNone,Z a1 n1 c1]) u:=by
 obtain⟨g1,e1,e2⟩:=hs;obtain⟨g2,f1,f2⟩:=ht;rw[e1,f1];refine(π.wd.widened l F g1 g2 e f W h.ra h.xD e2 f2).mono ?_;rintro r w'⟨v,rfl,h1,h2⟩;rw[<-hu]at h1;obtain⟨a1,n1,c1,rfl⟩:=h1.form;exact⟨a1,n1,c1,rfl,h.call π h2,h1⟩
theorem Ma(π:Gd C g)(h:bA C g cap ns l w k8 o F m W){e f:di}(hs:dL W (J #[U (Y e:dT).isNone,Z a n c]) (Y e))(ht:dL W (J #[U (Y f:dT).isNone,Z a' n' c']) (Y f))(hu:u=Y λk=>kC E (e k) (f k)) :
  Calls prog 102 #[ρ (Y ⟨C.b,0,M⟩),J #[U (Y e:dT).isNone,Z a n c],J #[U (Y f:dT).isNone,Z a' n' c']] W λr w'=>∃a1 n1 c1,r=υ (J #[U u.isNone,Z a1 n1 c1])/\bA C g cap ns l w k8 o F m w'/\dL w' (J #[U u.isNone,Z a1 n1 c1]) u:=by
 obtain⟨g1,e1,e2⟩:=hs;obtain⟨g2,f1,f2⟩:=ht;rw[e1,f1];refine(π.wd.narrowed l F g1 g2 e f W h.ra h.xD e2 f2).mono ?_;rintro r w'⟨v,rfl,h1,h2⟩;rw[<-hu]at h1;obtain⟨a1,n1,c1,rfl⟩:=h1.form;exact⟨a1,n1,c1,rfl,h.call π h2,h1⟩
theorem Ib(π:Gd C g)(h:bA C g cap ns l w k8 o F m W)(Uw:s=M)(hu:u=M)(hs:dL W (J #[U s.isNone,Z a n c]) s) :
  Calls prog 102 #[ρ (Y ⟨C.b,0,M⟩),J #[U s.isNone,Z a n c],J #[U t.isNone,Z a' n' c']] W λr w'=>∃a1 n1 c1,r=υ (J #[U u.isNone,Z a1 n1 c1])/\bA C g cap ns l w k8 o F m w'/\dL w' (J #[U u.isNone,Z a1 n1 c1]) u:=by
 subst Uw hu;have e:Value.agg #[U (M:dT).isNone,Z a n c]=J #[U true,Z M 0 0]:=hs;rw[e];refine(Au C.b a' n' c' t.isNone W).mono ?_;rintro r w'⟨rfl,h2⟩;exact⟨M,0,0,rfl,h.call π h2,rfl⟩
end
end
end RG
end
section
namespace RG
open Go.RowKit W
variable {E: Bool}
theorem lh(G:aw E)(l:List Int)(hπ:G.l=[-32768,32767] ++ l){C:Rc E}{g cap:Nat}{ns:List aK}(π:Gd C g)(hP:C.ao<=4/\C.narrow<=3/\C.aj<=3)(d:aK){ka:Nat}(ha:d.a=(ka:Int)){cond:dQ}{body:dP}(hA:BG C G g cap ns ka cond)(hB:sN C G g cap ns l d.b body)(R:KT G cond body)
  (F:jg) (s:dT) (v:Value) (rec:Bool) (w:Wd) (hR:bE C F w) (hS:gw C l w) (hL:dC C.pb g cap ns w) (ws:eR E s) (hv:dL w v s) (hr:dk rec F (tz G C cond body d.aA s).1):
  Calls prog 64 #[ρ (Y ⟨C.b,0,M⟩),J (oV d),v,U rec] w λr w'=>∃v',r=υ v'/\bE C (told G rec F (tz G C cond body d.aA s).1) w'/\RK C w w'/\dL w' v' (tz G C cond body d.aA s).2:=by
 obtain⟨va,vn,vc,rfl⟩:=hv.form;have HW:=Sn (l:=l) π hR hS hL d hv ws;obtain⟨W,hW⟩:∃W,((w.alloc (L (oV d) 200)).alloc (L #[U s.isNone,Z va vn vc] 56)).alloc (L #[U false,Z M 0 0] 56)=W:=⟨_,rfl⟩;rw[hW]at HW;have H:=hid HW;have HG:=hid π;have HA:=hid hA;have HB:=hid hB;have HR:=hid R;have HDA:=hid ha;have HPI:=hid hπ;obtain⟨ο,hU⟩:∃ο,Yp G cond body d.aA C.aj s=ο:=⟨_,rfl⟩;have HU:=hid hU;have hU0:=LO.start G cond body d.aA C.aj ws;rw[hU]at hU0;have HU0:=hid hU0;have Kk:=hid hr;have HRU:Hid (dk rec F ο.1):=by have q:=CY G C cond body d.aA s (ej:=ο.1) (oj:=ο.2.1) (sj:=ο.2.2) hU rfl;rw[q]at hr;exact dk.left (dk.left (dk.left hr))
 obtain⟨p1,p2,p3⟩:=hP;have p1':((C.ao:Nat):Int)<=4:=À;have p2':((C.narrow:Nat):Int)<=3:=À;have p3':((C.aj:Nat):Int)<=3:=À;unfold oV at hW;unfold oV;clear hR hS hL HW hA hB R ha hπ hU hU0 hr π ws hv;go_enter func64,ntmps64;go_upto_region 1 with fail;try rw[hW]
 obtain⟨k5,e5⟩:∃k,k=w.heap.size:=⟨_,rfl⟩;obtain⟨k6,e6⟩:∃k,k=w.heap.size+1:=⟨_,rfl⟩;obtain⟨k8,e8⟩:∃k,k=w.heap.size+1+1:=⟨_,rfl⟩;rw[<-e8,<-e6,<-e5];rw[<-e8,<-e6,<-e5]at H;clear hW e5 e6 e8;go_wp2_with fail;refine(fO _).mono ?_;rintro r w1⟨rfl,b1⟩;have h1:=(H.call HG.out b1).new HG.out (s:=M) (a:=M) (n:=0) (c:=0) rfl (λ_ q=>by cases q);have H1:Hid (bA C g cap ns l w k8 _ F [(w1.heap.size,M),(k6,s)] (w1.alloc (L #[U true,Z M 0 0] 56))):=h1;clear h1 b1 H;go_upto_region 2 with fail;generalize w1.alloc (L #[U true,Z M 0 0] 56)=W1 at*;generalize w1.heap.size=k9 at*;go_wp2_with fail
 go_loopw [10] (λv10 wr=>∃(j:Nat) (ej:jt) (oj sj:dT),j<=C.aj/\v10=I O j/\Hid (LO G cond body d.aA ο (C.aj-j) ej oj sj)/\Hid (bA C g cap ns l w k8 [(k5,L (oV d) 200)] (told G rec F ej) [(k9,oj),(k6,sj)] wr)) (λv10 _=>C.aj-(intOf v10).toNat)
 case atStart=>exact⟨0,[],M,s,Ì,rfl,HU0,by unfold Hid;rw[eI];exact H1.out⟩
 case round=>
  obtain⟨j,ej,oj,sj,hj,rfl,Ji,hq⟩:=hrel;clear H1 HU0;have m4:=cell_of hq.ra.aV 4 (v:=I O (C.aj:Nat)) rfl;by_cases hju:j<C.aj
  .have wJ:((j:Nat):Int)<((C.aj:Nat):Int):=À
   obtain⟨m,hm⟩:∃m,C.aj-j=m+1:=⟨C.aj-j-1,À⟩;rw[hm]at Ji;have lR:C.aj-(j+1)=m:=À;obtain⟨te,yes,no,hco⟩:∃te yes no,cond sj=(te,yes,no):=⟨_,_,_,rfl⟩;obtain⟨tb,sb,hbo⟩:∃tb sb,body yes=(tb,sb):=⟨_,_,rfl⟩;obtain⟨on,Dp⟩:∃on,xC E oj no=on:=⟨_,rfl⟩;have xt:=HR.c Ji.wf.2;have rr:=Ji.rng HRU.out;have nO:=Ji.on HR.out;rw[hco]at xt rr nO;simp only at xt rr nO;have DM:=HR.b xt.1;rw[hbo]at rr nO DM;simp only at rr nO DM;rw[Dp]at nO;have Xb:=pQ Ji.wf.1 xt.2;rw[Dp]at Xb;have kg:Hid (eR E yes/\eR E no/\eR E sb/\eR E on/\eR E oj):=⟨xt.1,xt.2,DM,Xb,Ji.wf.1⟩;have sK:=hid rr;have MO:=hid nO;have Gg:=hid hco;have TB:=hid hbo;have I2:=hid Dp;clear xt rr nO DM Xb Ji hco hbo Dp
   -- come
   have hn:=hq.node k5 d (List.mem_cons_self ..);have n8:=cell_of hn 8 (v:=I O d.aA) rfl;obtain⟨sa,sn,sc,s0,s1,_,_,kj,sI⟩:=hq.box k6 sj Ä;have HC:=hid (qN G HG.out hq.out d.aA kj sI sK.1);clear hn kj;go_wp2_with fail;refine HC.mono ?_;rintro r w2⟨rfl,h2⟩;have H2:Hid (bA _ _ _ _ _ _ _ _ _ _ w2):=h2;clear h2 HC n8 s0 s1 hq m4
   -- ask
   have hn:=H2.node k5 d (List.mem_cons_self ..);have n1:=cell_of hn 1 (v:=I O (ka:Nat)) (by rw[<-HDA.out];rfl);obtain⟨ta,tn,tc,s0,s1,_,_,kj,_⟩:=H2.box k6 sj Ä;have HC:=hid (HA.go HG.out H2.out Gg.out kj sI sK.2.1);clear hn kj;go_wp2_with fail;refine HC.mono ?_;rintro r w3⟨a1,b1,c1,a2,b2,c2,rfl,h3,hy,hn⟩;have H4:=hid (h3.Mo HG.out hy kg.1 hn kg.2.1);clear h3 hy hn HC n1 s0 s1 H2 sI;go_upto_region 7 with fail;generalize (w3.alloc (L #[U yes.isNone,Z a1 b1 c1] 56)).alloc (L #[U no.isNone,Z a2 b2 c2] 56)=w4 at*;generalize w3.heap.size=xV at*
   -- join
   obtain⟨xa,xn,xc,s0,s1,f0,f1,Y4,_⟩:=H4.box k9 oj Ä;obtain⟨ya,yn,yc,t0,t1,_,_,ht,_⟩:=H4.box (xV+1) no Ä;have HC:=hid (qG HG.out H4.out I2.out Y4 kg.2.2.2.2 ht kg.2.1);clear Y4 ht;go_wp2_with fail;refine HC.mono ?_;rintro r w5⟨a3,b3,c3,rfl,h5,hu⟩;have h6:=(h5.dr.sw.put HG.out hu kg.2.2.2.1);obtain⟨xa,xn,xc,s0,s1,f0,f1,_,_⟩:=h5.box k9 oj Ä;have H6:=hid h6;clear h5 h6 hu HC t0 t1 H4;go_upto_region 8 with fail;generalize (w5.setCell ⟨k9,0,M⟩ (U on.isNone)).setCell ⟨k9,1,M⟩ (Z a3 b3 c3)=w6 at*;clear s0 s1 f0 f1
   -- does
   have hn:=H6.node k5 d (List.mem_cons_self ..);have n2:=cell_of hn 2 (v:=I O d.b) rfl;obtain⟨ya,yn,yc,t0,t1,_,_,ht,_⟩:=H6.box xV yes Ä;have HC:=hid (HB.go HG.out H6.out TB.out ht kg.1 sK.2.2);clear hn ht;go_wp2_with fail;refine HC.mono ?_;rintro r w7⟨a4,b4,c4,rfl,h7,hu⟩;have h8:=h7.sw.dr.sw.put HG.out hu kg.2.2.1;obtain⟨xa,xn,xc,s0,s1,f0,f1,_,_⟩:=h7.box k6 sj Ä;have H8:=hid h8.sw;clear h7 h8 hu HC t0 t1 n2 H6;go_wp2_with fail;refine⟨⟨j+1,ej++vT d.aA sj++te++tb,on,sb,À,by go_num,by rw[lR];exact MO,?_⟩,by simp[intOf];omega⟩;unfold Hid;rw[aH,aH,aH];exact H8.out
  .obtain rfl:j=C.aj:=À
   rw[Nat.sub_self]at Ji;have abc:=Ji.end;subst abc;have wfo:=Ji.wf;have kg:=hid wfo;clear Ji hju hj wfo HRU;obtain⟨sa,sn,sc,s0,s1,_,_,kj,sI⟩:=hq.box k6 sj Ä;have h1:=hq.new HG.out kj sI;obtain⟨F0,hF0⟩:∃F0,told G rec F ej=F0:=⟨_,rfl⟩;rw[hF0]at h1;have HF0:=hid hF0;have H1:=hid h1;clear kj h1 hF0;go_upto_region 10 with fail;generalize wr.alloc (L #[U sj.isNone,Z sa sn sc] 56)=W2 at*;generalize wr.heap.size=oN at*;clear m4 s0 s1 hq;obtain⟨Ux,hUx⟩:∃Ux,P8 G cond body sj C.ao=Ux:=⟨_,rfl⟩;have Xr:=Jn.start HR.out sI C.ao;rw[hUx]at Xr;have aak:=hid Xr;have WG:=LF.start HR.out C sI;rw[hUx]at WG;have WJ:=hid WG;have Jc:=hid sI;clear Xr WG sI hUx;go_wp2_with fail
   go_loopw [14] (λv14 wq=>∃(k f:Nat) (i:dT),v14=I O k/\Hid (Jn G cond body sj C.ao Ux k f i)/\Hid (bA C g cap ns l w k8 [(k5,L (oV d) 200)] F0 [(oN,i),(k9,oj),(k6,sj)] wq)) (λv14 _=>1100001-(intOf v14).toNat)
   case atStart=>exact⟨1,1100000,sj,rfl,aak,H1⟩
   case round=>
    obtain⟨k,f,i,rfl,Zr,hq⟩:=hrel;clear H1 aak;obtain⟨te,yes,no,hco⟩:∃te yes no,cond i=(te,yes,no):=⟨_,_,_,rfl⟩;obtain⟨tb,sb,hbo⟩:∃tb sb,body yes=(tb,sb):=⟨_,_,rfl⟩;obtain⟨nx,fD⟩:∃nx,xC E sj sb=nx:=⟨_,rfl⟩;obtain⟨jj,hjj⟩:∃jj,xC E i nx=jj:=⟨_,rfl⟩;have wi:=Zr.wf;have xt:=HR.c wi;rw[hco]at xt;simp only at xt;have DM:=HR.b xt.1;rw[hbo]at DM;simp only at DM;have Zo:DC E cond body sj i=nx:=by unfold DC;rw[hco];show xC E sj (body yes).2=nx;rw[hbo];exact fD
    have Ui:=pQ Jc.out DM;rw[fD]at Ui;have wjj:=pQ wi Ui;rw[hjj]at wjj;have aaw:=Zr.sum;have kg:Hid (eR E yes/\eR E no/\eR E sb/\eR E nx/\eR E jj/\eR E i/\eR E oj/\eR E sj):=⟨xt.1,xt.2,DM,Ui,wjj,wi,kg.1,kg.2⟩;have HWd:Hid ((Sq i jj=true->i=Ux)/\(Sq i jj=false->∃(e n:di) (f':Nat),i=Y e/\(∀q,Wv E (e q))/\jj=Y n/\(∀q,Wv E (n q))/\f=f'+1/\Jn G cond body sj C.ao Ux (k+1) f' (if C.ao<k then Y λq=>iB G (e q) (n q) else Y n))):=by have q1:=Zr.end;have q2:=Zr.on HR.out Jc.out;rw[Zo,hjj]at q1 q2;exact⟨q1,q2⟩
    have Gg:=hid hco;have TB:=hid hbo;have jX:=hid fD;have HJJ:=hid hjj;clear xt DM Ui wjj wi Zr hco hbo fD hjj Zo
    -- ask
    have hn:=hq.node k5 d (List.mem_cons_self ..);have n1:=cell_of hn 1 (v:=I O (ka:Nat)) (by rw[<-HDA.out];rfl);obtain⟨ta,tn,tc,s0,s1,_,_,kj,_⟩:=hq.box oN i Ä;have HC:=hid (HA.go HG.out hq.out Gg.out kj kg.2.2.2.2.2.1 (kU _ _));clear hn kj;go_wp2_with fail;refine HC.mono ?_;rintro r w3⟨a1,b1,c1,a2,b2,c2,rfl,h3,hy,hn⟩;have H4:Hid (bA C g cap ns l w k8 _ F0 _ _):=h3.Mo HG.out hy kg.1 hn kg.2.1;clear h3 hy hn HC n1 s0 s1 hq;go_upto_region 13 with fail;generalize (w3.alloc (L #[U yes.isNone,Z a1 b1 c1] 56)).alloc (L #[U no.isNone,Z a2 b2 c2] 56)=w4 at*;generalize w3.heap.size=k15 at*
    -- does
    have hn:=H4.node k5 d (List.mem_cons_self ..);have n2:=cell_of hn 2 (v:=I O d.b) rfl;obtain⟨ya,yn,yc,t0,t1,_,_,ht,_⟩:=H4.box k15 yes Ä;have HC:=hid (HB.go HG.out H4.out TB.out ht kg.1 (kU _ _));clear hn ht;go_wp2_with fail;refine HC.mono ?_;rintro r w5⟨a3,b3,c3,rfl,h5,hu⟩;have H5:Hid (bA C g cap ns l w k8 _ F0 _ _):=h5.dr.dr.new HG.out hu kg.2.2.1;clear h5 hu HC t0 t1 n2 H4;go_upto_region 14 with fail;generalize w5.alloc (L #[U sb.isNone,Z a3 b3 c3] 56)=w6 at*;generalize w5.heap.size=k17 at*
    -- next
    obtain⟨xa,xn,xc,s0,s1,_,_,hs,_⟩:=H5.box k6 sj Ä;obtain⟨ya,yn,yc,t0,t1,_,_,ht,_⟩:=H5.box k17 sb Ä;have HC:=hid (qG HG.out H5.out jX.out hs Jc.out ht kg.2.2.1);clear hs ht;go_wp2_with fail;refine HC.mono ?_;rintro r w7⟨a4,b4,c4,rfl,h7,hu⟩;have H7:Hid (bA C g cap ns l w k8 _ F0 _ _):=h7.dr.new HG.out hu kg.2.2.2.1;clear h7 hu HC s0 s1 t0 t1 H5;go_upto_region 15 with fail;generalize w7.alloc (L #[U nx.isNone,Z a4 b4 c4] 56)=w8 at*;generalize w7.heap.size=IZ at*
    -- j
    obtain⟨xa,xn,xc,s0,s1,_,_,hs,_⟩:=H7.box oN i Ä;obtain⟨ya,yn,yc,t0,t1,_,_,ht,_⟩:=H7.box IZ nx Ä;have HC:=hid (qG HG.out H7.out HJJ.out hs kg.2.2.2.2.2.1 ht kg.2.2.2.1);clear hs ht;go_wp2_with fail;refine HC.mono ?_;rintro r w9⟨a5,b5,c5,rfl,h9,hu⟩;have H9:Hid (bA C g cap ns l w k8 _ F0 _ _):=h9.dr.new HG.out hu kg.2.2.2.2.1;clear h9 hu HC s0 s1 t0 t1 H7;go_upto_region 16 with fail;generalize w9.alloc (L #[U jj.isNone,Z a5 b5 c5] 56)=w10 at*;generalize w9.heap.size=k19 at*
    -- same
    obtain⟨xa,xn,xc,s0,s1,_,_,hs,_⟩:=H9.box oN i Ä;obtain⟨ya,yn,yc,t0,t1,_,_,ht,_⟩:=H9.box k19 jj Ä;have HC:=hid (Sh HG.out H9.out hs ht);clear hs ht;go_wp2_with fail;refine HC.mono ?_;rintro r w11⟨rfl,wD⟩;have Td:=hid wD;clear wD HC s0 s1 t0 t1 H9;cases he:Sq i jj with
    |false=>
     obtain⟨e,n,f',rfl,we,rfl,wn,hf,hW1⟩:=HWd.2 he;have Gs:=hid hW1;have m2:=cell_of Td.ra.aV 2 (v:=I O (C.ao:Nat)) rfl;clear hW1 HWd he HJJ Gg;obtain⟨xa,xn,xc,s0,s1,sf0,sf1,hs,_⟩:=Td.box oN (Y e) Ä;obtain⟨ya,yn,yc,t0,t1,_,_,ht,wt⟩:=Td.box k19 (Y n) Ä;by_cases hd:C.ao<k
     .have X7:¬((k:Nat):Int)<=((C.ao:Nat):Int):=À
      rw[Á hd]at Gs;obtain⟨u,hu⟩:∃u:dT,u=Y λq=>iB (⟨l⟩:aw E) (e q) (n q):=⟨_,rfl⟩
      have Q6:(Y λq=>iB G (e q) (n q):dT)=u:=by rw[hu];exact Ë Y (funext λq=>DQ G l HPI.out (we q))
      rw[Q6]at Gs;have HC:=hid (OF HG.out Td.out hs ht hu);have QX:=hid Gs.wf;clear hs ht we wn wt hd hu Q6;go_wp2_with fail;refine HC.mono ?_;rintro r w12⟨a6,b6,c6,rfl,ud,hu⟩;have H12:Hid (bA C g cap ns l w k8 _ F0 _ _):=ud.dr.put HG.out hu QX.out;clear s0 s1 sf0 sf1;obtain⟨xa,xn,xc,s0,s1,sf0,sf1,_,_⟩:=ud.box oN (Y e) Ä;clear ud hu HC Td t0 t1 m2;go_wp2_with fail;exact⟨⟨k+1,f',u,by go_num,Gs,H12⟩,by simp[intOf];omega⟩
     .have X7:((k:Nat):Int)<=((C.ao:Nat):Int):=À
      rw[Â hd]at Gs;have H12:Hid (bA C g cap ns l w k8 _ F0 _ _):=Td.dr.put HG.out ht wt;clear hs ht we wn wt hd Td;go_wp2_with fail;exact⟨⟨k+1,f',Y n,by go_num,Gs,H12⟩,by simp[intOf];omega⟩
    |true=>
     obtain rfl:=HWd.1 he;have H1:Hid (bA C g cap ns l w k8 _ F0 _ _):=Td.dr;clear he HWd Td jX HJJ Gg TB aaw;obtain⟨Un,Ji⟩:∃Un,II G C cond body sj=Un:=⟨_,rfl⟩;rw[Ji]at WJ;have HUn:=hid Ji;clear Ji;go_wp2_with fail
     go_loopw [21] (λv21 wp=>∃(j:Nat) (i:dT),j<=C.narrow/\v21=I O j/\Hid (LF G cond body sj Un (C.narrow-j) i)/\Hid (bA C g cap ns l w k8 [(k5,L (oV d) 200)] F0 [(oN,i),(k9,oj),(k6,sj)] wp)) (λv21 _=>C.narrow-(intOf v21).toNat)
     case atStart=>exact⟨0,i,Ì,rfl,WJ,H1⟩
     case round=>
      obtain⟨j,i,hj,rfl,Xx,hq⟩:=hrel;clear H1 WJ;have m3:=cell_of hq.ra.aV 3 (v:=I O (C.narrow:Nat)) rfl;obtain⟨te,yes,no,hco⟩:∃te yes no,cond i=(te,yes,no):=⟨_,_,_,rfl⟩;obtain⟨tb,sb,hbo⟩:∃tb sb,body yes=(tb,sb):=⟨_,_,rfl⟩;have wi:=Xx.wf';have xt:=HR.c wi;rw[hco]at xt;simp only at xt;have DM:=HR.b xt.1;rw[hbo]at DM;simp only at DM;by_cases Uo:j<C.narrow
      .have wJ:((j:Nat):Int)<((C.narrow:Nat):Int):=À
       obtain⟨m,hm⟩:∃m,C.narrow-j=m+1:=⟨C.narrow-j-1,À⟩;rw[hm]at Xx;have lR:C.narrow-(j+1)=m:=À;obtain⟨nx,fD⟩:∃nx,xC E sj sb=nx:=⟨_,rfl⟩;have Zo:DC E cond body sj i=nx:=by unfold DC;rw[hco];show xC E sj (body yes).2=nx;rw[hbo];exact fD
       have Dp:=Xx.on HR.out Jc.out;rw[Zo]at Dp;have I2:=hid Dp;have Ui:=pQ Jc.out DM;rw[fD]at Ui;have kg:Hid (eR E yes/\eR E no/\eR E sb/\eR E nx/\eR E i/\eR E oj/\eR E sj):=⟨xt.1,xt.2,DM,Ui,wi,kg.2.2.2.2.2.2.1,Jc.out⟩;have Gg:=hid hco;have TB:=hid hbo;have jX:=hid fD;clear xt DM Ui wi Xx hco hbo fD Zo Dp
       -- ask
       have hn:=hq.node k5 d (List.mem_cons_self ..);have n1:=cell_of hn 1 (v:=I O (ka:Nat)) (by rw[<-HDA.out];rfl);obtain⟨ta,tn,tc,s0,s1,_,_,kj,_⟩:=hq.box oN i Ä;have HC:=hid (HA.go HG.out hq.out Gg.out kj kg.2.2.2.2.1 (kU _ _));clear hn kj;go_wp2_with fail;refine HC.mono ?_;rintro r w3⟨a1,b1,c1,a2,b2,c2,rfl,h3,hy,hn⟩;have H4:Hid (bA C g cap ns l w k8 _ F0 _ _):=h3.Mo HG.out hy kg.1 hn kg.2.1;clear h3 hy hn HC n1 s0 s1 hq m3;go_upto_region 25 with fail;generalize (w3.alloc (L #[U yes.isNone,Z a1 b1 c1] 56)).alloc (L #[U no.isNone,Z a2 b2 c2] 56)=w4 at*;generalize w3.heap.size=k15 at*
       -- does
       have hn:=H4.node k5 d (List.mem_cons_self ..);have n2:=cell_of hn 2 (v:=I O d.b) rfl;obtain⟨ya,yn,yc,t0,t1,_,_,ht,_⟩:=H4.box k15 yes Ä;have HC:=hid (HB.go HG.out H4.out TB.out ht kg.1 (kU _ _));clear hn ht;go_wp2_with fail;refine HC.mono ?_;rintro r w5⟨a3,b3,c3,rfl,h5,hu⟩;have H5:Hid (bA C g cap ns l w k8 _ F0 _ _):=h5.dr.dr.new HG.out hu kg.2.2.1;clear h5 hu HC t0 t1 n2 H4;go_upto_region 26 with fail;generalize w5.alloc (L #[U sb.isNone,Z a3 b3 c3] 56)=w6 at*;generalize w5.heap.size=k17 at*
       -- next
       obtain⟨xa,xn,xc,s0,s1,_,_,hs,_⟩:=H5.box k6 sj Ä;obtain⟨ya,yn,yc,t0,t1,_,_,ht,_⟩:=H5.box k17 sb Ä;have HC:=hid (qG HG.out H5.out jX.out hs Jc.out ht kg.2.2.1);clear hs ht;go_wp2_with fail;refine HC.mono ?_;rintro r w7⟨a4,b4,c4,rfl,h7,hu⟩;have H7:Hid (bA C g cap ns l w k8 _ F0 _ _):=h7.dr.new HG.out hu kg.2.2.2.1;clear h7 hu HC s0 s1 t0 t1 H5;go_upto_region 27 with fail;generalize w7.alloc (L #[U nx.isNone,Z a4 b4 c4] 56)=w8 at*;generalize w7.heap.size=IZ at*
       -- narrowed
       obtain⟨u,Yh,Nr⟩:∃u:dT,Hid (LF G cond body sj Un m u)/\∀(a:Option Addr) (n c:Nat) (a':Option Addr) (n' c':Nat),dL w8 (J #[U i.isNone,Z a n c]) i->dL w8 (J #[U nx.isNone,Z a' n' c']) nx->Calls prog 102 #[ρ (Y ⟨C.b,0,M⟩),J #[U i.isNone,Z a n c],J #[U nx.isNone,Z a' n' c']] w8 λr w'=>∃a1 n1 c1,r=υ (J #[U u.isNone,Z a1 n1 c1])/\bA C g cap ns l w k8 [(k5,L (oV d) 200)] F0 [(IZ,nx),(oN,i),(k9,oj),(k6,sj)] w'/\dL w' (J #[U u.isNone,Z a1 n1 c1]) u:=by
        rcases I2.out with⟨rfl,h⟩|⟨e,e',rfl,rfl,_,_,h⟩
        .exact⟨M,h,λa n c a' n' c' h1 h2=>Ib HG.out H7.out rfl rfl h1⟩
        .exact⟨_,h,λa n c a' n' c' h1 h2=>Ma HG.out H7.out h1 h2 rfl⟩
       obtain⟨xa,xn,xc,s0,s1,_,_,hs,_⟩:=H7.box oN i Ä;obtain⟨ya,yn,yc,t0,t1,_,_,ht,_⟩:=H7.box IZ nx Ä;have HC:=hid (Nr _ _ _ _ _ _ hs ht);clear hs ht Nr I2 jX Gg TB;go_wp2_with fail;refine HC.mono ?_;rintro r w9⟨a5,b5,c5,rfl,h9,hu⟩;have H9:Hid (bA C g cap ns l w k8 _ F0 _ _):=h9.dr.put HG.out hu Yh.wf';clear s0 s1;obtain⟨xa,xn,xc,s0,s1,sf0,sf1,_,_⟩:=h9.box oN i Ä;clear h9 hu HC t0 t1 H7;go_wp2_with fail;exact⟨⟨j+1,u,À,by go_num,by rw[lR];exact Yh,H9⟩,by simp[intOf];omega⟩
      .obtain rfl:j=C.narrow:=À
       rw[Nat.sub_self]at Xx;obtain rfl:=Xx.end;obtain⟨on,Dp⟩:∃on,xC E oj no=on:=⟨_,rfl⟩;have Xc:=CY G C cond body d.aA s HU.out HUn.out;rw[hco]at Xc;simp only at Xc;rw[hbo,Dp]at Xc;simp only at Xc;have hr:=Kk.out;rw[Xc]at hr;have Zb:=hid Xc;have r3:=dk.right (G:=G) hr;have r2:=dk.right (G:=G) (dk.left hr);have r1:=dk.right (G:=G) (dk.left (dk.left hr));rw[aH,aH,HF0.out]at r3;rw[aH,HF0.out]at r2;rw[HF0.out]at r1;have sK:=hid (And.intro r1 (And.intro r2 r3));have Xb:=pQ kg.2.2.2.2.2.2.1 xt.2;rw[Dp]at Xb;have kg:Hid (eR E yes/\eR E no/\eR E sb/\eR E on/\eR E i/\eR E oj):=⟨xt.1,xt.2,DM,Xb,wi,kg.2.2.2.2.2.2.1⟩;have Gg:=hid hco;have TB:=hid hbo;have I2:=hid Dp;clear r1 r2 r3 hr Xc xt DM Xb wi Xx hco hbo Dp Uo hj
       -- come
       have hn:=hq.node k5 d (List.mem_cons_self ..);have n8:=cell_of hn 8 (v:=I O d.aA) rfl;obtain⟨sa,sn,sc,s0,s1,_,_,kj,_⟩:=hq.box oN i Ä;have HC:=hid (qN G HG.out hq.out d.aA kj kg.2.2.2.2.1 sK.1);clear hn kj;go_wp2_with fail;refine HC.mono ?_;rintro r w2⟨rfl,h2⟩;have H2:Hid (bA _ _ _ _ _ _ _ _ _ _ w2):=h2;clear h2 HC n8 s0 s1 hq m3
       -- ask
       have hn:=H2.node k5 d (List.mem_cons_self ..);have n1:=cell_of hn 1 (v:=I O (ka:Nat)) (by rw[<-HDA.out];rfl);obtain⟨ta,tn,tc,s0,s1,_,_,kj,_⟩:=H2.box oN i Ä;have HC:=hid (HA.go HG.out H2.out Gg.out kj kg.2.2.2.2.1 sK.2.1);clear hn kj;go_wp2_with fail;refine HC.mono ?_;rintro r w3⟨a1,b1,c1,a2,b2,c2,rfl,h3,hy,hn⟩;have H4:=hid (h3.Mo HG.out hy kg.1 hn kg.2.1);clear h3 hy hn HC n1 s0 s1 H2;go_upto_region 30 with fail;generalize (w3.alloc (L #[U yes.isNone,Z a1 b1 c1] 56)).alloc (L #[U no.isNone,Z a2 b2 c2] 56)=w4 at*;generalize w3.heap.size=k26 at*
       -- does
       have hn:=H4.node k5 d (List.mem_cons_self ..);have n2:=cell_of hn 2 (v:=I O d.b) rfl;obtain⟨ya,yn,yc,t0,t1,_,_,ht,_⟩:=H4.box k26 yes Ä;have HC:=hid (HB.go HG.out H4.out TB.out ht kg.1 sK.2.2);clear hn ht;go_wp2_with fail;refine HC.mono ?_;rintro r w5⟨a3,b3,c3,rfl,h5,_⟩;have H5:=hid h5;clear h5 HC t0 t1 n2 H4
       -- join
       obtain⟨xa,xn,xc,s0,s1,_,_,hs,_⟩:=H5.box k9 oj Ä;obtain⟨ya,yn,yc,t0,t1,_,_,ht,_⟩:=H5.box (k26+1) no Ä;have HC:=hid (qG HG.out H5.out I2.out hs kg.2.2.2.2.2 ht kg.2.1);clear hs ht;go_wp2_with fail;refine HC.mono ?_;rintro r w6⟨a4,b4,c4,rfl,h6,hu⟩;have HT:=hid (h6.ret hu);obtain⟨z0,z1,xe,xo,_⟩:=aI h6.res;clear h6 hu HC s0 s1 t0 t1 H5;go_wp2_with fail;refine Ç (v:=J #[U on.isNone,Z a4 b4 c4]) (by simp[results,results64,go_sem,HT.2.2.2.1,HT.2.2.2.2]) rfl ⟨_,rfl,?_,HT.2.1,?_⟩
       .rw[Zb.out]
        simp only;rw[aH,aH,aH,HF0.out];exact HT.1
       .rw[Zb.out]
        exact HT.2.2.1
end RG
end
end Go.Proofs.YtiopfihjmkfdmabGreatDoor
