import Derived.Test.YtiopfihjmkfdmaaGreatDoorR8
namespace Go.Proofs.YtiopfihjmkfdmaaGreatDoor
open Option renaming some→Y,none→M
open Go.Value renaming int→I,pointer→ρ,iface→σ,slice→Z,bool→U,string→χ,agg→J,tuple→φ
open Go.IntKind renaming i64→O
open Go.Obj renaming cells→L
open Go.Ending renaming returned→υ
open Go.Proofs.Tryz Sp
open Go.RowKit
set_option maxRecDepth 100000
set_option maxHeartbeats 16000000
section
variable{A:eR}
variable{l t:Sp.Bs}
variable{k b m1 m2 o lo hi N:Nat}
variable{ct aX:Int × Int}
variable{w w':Wd}
variable{v x y bv cv:Value}
variable{p:Int}
variable{he:Bool}
def qw{Rp:mR A}(Rt:jY A Rp)(b:Nat)(s:ByteArray)(m1 m2 o:Nat)(ct:Int × Int)(w:Wd)(r:Sp.R A.T):Ending->Wd->Prop :=
 ml (fun ct w' v x aX=>Rt.T ct w.heap.size w'.heap.size w' v x aX) b s m1 m2 o ct w r
theorem xC(h:aQ l=Y k):k<8:=by obtain⟨c,_,_,h1,h2,rfl⟩:=dD h;omega
theorem rf(h:Sp.tok l=t):Sp.take t l=.ok (Sp.next l):=by unfold Sp.take;rw[if_pos h]
theorem vi(h:¬ Sp.tok l=t):Sp.take t l=.error (2,l.length):=by unfold Sp.take;rw[if_neg h];rfl
theorem tI(h:aQ l=M):dG l=.error (2,l.length):=by unfold dG;rw[h];rfl
theorem uo(h:aQ l=Y k):dG l=.ok (k,Sp.next l):=by unfold dG;rw[h]
theorem mS{Rp:mR A}(Rt:jY A Rp)(b:Nat)(s:ByteArray)(m1 m2 o:Nat)(ho:o<=12)(l:Sp.Bs)(ct:Int × Int)(w:Wd)(h:Rd b s m1 m2 l o (aA ct) w)(hE:Env b m1 m2 w) :
  Calls prog 168 #[ρ (Y ⟨b,0,M⟩),I O ct.1] w (qw Rt b s m1 m2 o ct w (cu A o l)):=by
 cases hn:aQ l with
 | none =>
  have aS:Hid (cu A o l=.error (2,l.length)):=by unfold Hid cu;rw[tI hn]
  go_enter func168,ntmps168;go_wp2_with fail;refine(vU h hn).mono ?_;rintro e w1⟨N,rfl,hf⟩;exact⟨rfl,bS aS.out ⟨N,rfl,hf⟩⟩
 | some k =>
  have hk:=xC hn;have e1:=uo hn;by_cases ht:Sp.tok (Sp.next l)=[61]
  ·have e2:=rf ht
   cases hr:Sp.pS A o (Sp.next (Sp.next l)) with
   | error er =>
    have aS:Hid (cu A o l=.error er):=by unfold Hid cu;rw[e1];simp only;rw[e2];simp only;rw[hr]
    clear e1 e2;go_enter func168,ntmps168;go_wp2_with fail;refine(nj h hn).mono ?_;rintro e w1⟨rfl,h1,x1⟩;go_wp2_with fail;refine(di h1 [61] ht).mono ?_;rintro e w2⟨rfl,h2,x2⟩;go_wp2_with fail;refine(gl Rp b s m1 m2 o ho _ (aA ct) w2 h2 ((hE.ext x1).ext x2)).mono ?_;intro e w3 hp;rw[hr]at hp;obtain⟨N,rfl,hf⟩:=hp;exact⟨rfl,bS aS.out (bC.ahead (x1.trans x2) ⟨N,rfl,hf⟩)⟩
   | ok xl =>
    obtain⟨x,l3⟩:=xl;by_cases hs:Sp.tok l3=[59]
    ·have aS:Hid (cu A o l=.ok (A.assign k x,Sp.next l3)):=by unfold Hid cu;rw[e1];simp only;rw[e2];simp only;rw[hr];simp only;rw[rf hs]
     clear e1 e2;go_enter func168,ntmps168;go_wp2_with fail;refine(nj h hn).mono ?_;rintro e w1⟨rfl,h1,x1⟩;go_wp2_with fail;refine(di h1 [61] ht).mono ?_;rintro e w2⟨rfl,h2,x2⟩;go_wp2_with fail;refine(gl Rp b s m1 m2 o ho _ (aA ct) w2 h2 ((hE.ext x1).ext x2)).mono ?_;intro e w3 hp;rw[hr]at hp;obtain⟨v,rfl,ct1,hv,h3,x3⟩:=hp;obtain⟨tv,uv,rfl⟩:=Rp.iface _ _ _ _ hv;have HV:=hid hv;clear hv hr;go_wp2_with fail;refine(di h3 [59] hs).mono ?_;rintro e w4⟨rfl,h4,x4⟩;go_wp2_with fail;go_ret;exact fl aS.out (Rt.assign ct _ _ _ k _ _ ct1 hk HV.out) h4 (((x1.trans x2).trans x3).trans x4)
    ·have aS:Hid (cu A o l=.error (2,l3.length)):=by unfold Hid cu;rw[e1];simp only;rw[e2];simp only;rw[hr];simp only;rw[vi hs]
     clear e1 e2;go_enter func168,ntmps168;go_wp2_with fail;refine(nj h hn).mono ?_;rintro e w1⟨rfl,h1,x1⟩;go_wp2_with fail;refine(di h1 [61] ht).mono ?_;rintro e w2⟨rfl,h2,x2⟩;go_wp2_with fail;refine(gl Rp b s m1 m2 o ho _ (aA ct) w2 h2 ((hE.ext x1).ext x2)).mono ?_;intro e w3 hp;rw[hr]at hp;obtain⟨v,rfl,ct1,hv,h3,x3⟩:=hp;clear hv hr;go_wp2_with fail;refine(mw h3 [59] hs).mono ?_;rintro e w4⟨N,rfl,hf⟩;exact⟨rfl,bS aS.out (bC.ahead ((x1.trans x2).trans x3) ⟨N,rfl,hf⟩)⟩
  ·have aS:Hid (cu A o l=.error (2,(Sp.next l).length)):=by unfold Hid cu;rw[e1];simp only;rw[vi ht]
   clear e1;go_enter func168,ntmps168;go_wp2_with fail;refine(nj h hn).mono ?_;rintro e w1⟨rfl,h1,x1⟩;go_wp2_with fail;refine(mw h1 [61] ht).mono ?_;rintro e w2⟨N,rfl,hf⟩;exact⟨rfl,bS aS.out (bC.ahead x1 ⟨N,rfl,hf⟩)⟩
theorem FT{Rp:mR A}(Rt:jY A Rp)(b:Nat)(s:ByteArray)(m1 m2 o:Nat)(l:Sp.Bs)(ct:Int × Int)(w:Wd)(h:Rd b s m1 m2 l o (aA ct) w)(ht:Sp.tok l=uj) :
  Calls prog 164 #[ρ (Y ⟨b,0,M⟩),I O ct.1] w (qw Rt b s m1 m2 o ct w (gG A l)):=by
 cases hn:aQ (Sp.next l) with
 | none =>
  have aS:Hid (gG A l=.error (2,(Sp.next l).length)):=by unfold Hid gG;rw[tI hn]
  go_enter func164,ntmps164;go_wp2_with fail;refine(di h [114,101,97,100] ht).mono ?_;rintro e w1⟨rfl,h1,x1⟩;go_wp2_with fail;refine(vU h1 hn).mono ?_;rintro e w2⟨N,rfl,hf⟩;exact⟨rfl,bS aS.out (bC.ahead x1 ⟨N,rfl,hf⟩)⟩
 | some k =>
  have hk:=xC hn;have e1:=uo hn;by_cases hs:Sp.tok (Sp.next (Sp.next l))=[59]
  ·have aS:Hid (gG A l=.ok (A.read k,Sp.next (Sp.next (Sp.next l)))):=by unfold Hid gG;rw[e1];simp only;rw[rf hs]
   clear e1;go_enter func164,ntmps164;go_wp2_with fail;refine(di h [114,101,97,100] ht).mono ?_;rintro e w1⟨rfl,h1,x1⟩;go_wp2_with fail;refine(nj h1 hn).mono ?_;rintro e w2⟨rfl,h2,x2⟩;go_wp2_with fail;refine(di h2 [59] hs).mono ?_;rintro e w3⟨rfl,h3,x3⟩;go_wp2_with fail;go_ret;exact fl aS.out (Rt.read ct _ _ _ k hk) h3 ((x1.trans x2).trans x3)
  ·have aS:Hid (gG A l=.error (2,(Sp.next (Sp.next l)).length)):=by unfold Hid gG;rw[e1];simp only;rw[vi hs]
   clear e1;go_enter func164,ntmps164;go_wp2_with fail;refine(di h [114,101,97,100] ht).mono ?_;rintro e w1⟨rfl,h1,x1⟩;go_wp2_with fail;refine(nj h1 hn).mono ?_;rintro e w2⟨rfl,h2,x2⟩;go_wp2_with fail;refine(mw h2 [59] hs).mono ?_;rintro e w3⟨N,rfl,hf⟩;exact⟨rfl,bS aS.out (bC.ahead (x1.trans x2) ⟨N,rfl,hf⟩)⟩
theorem nh{Rp:mR A}(Rt:jY A Rp)(b:Nat)(s:ByteArray)(m1 m2 o:Nat)(ho:o<=12)(l:Sp.Bs)(ct:Int × Int)(w:Wd)(h:Rd b s m1 m2 l o (aA ct) w)(hE:Env b m1 m2 w)(ht:Sp.tok l=kW) :
  Calls prog 165 #[ρ (Y ⟨b,0,M⟩),I O ct.1] w (qw Rt b s m1 m2 o ct w (cY A o l)):=by
 have cR:=h.lt;cases hr:bh A o (Sp.next l) with
 | error er =>
  have aS:Hid (cY A o l=.error er):=by unfold Hid cY;rw[hr]
  go_enter func165,ntmps165;go_wp2_with fail;refine(di h [97,115,115,101,114,116] ht).mono ?_;rintro e w1⟨rfl,h1,x1⟩;go_wp2_with fail;refine(fR h1).mono ?_;rintro e Xn⟨rfl,WB,Rj⟩;go_wp2_with fail;refine(gh Rp b s m1 m2 o ho _ (aJ (aA ct)) Xn WB ((hE.ext x1).ext Rj)).mono ?_;intro e w2 hp;rw[hr]at hp;obtain⟨N,rfl,hf⟩:=hp;exact⟨rfl,bS aS.out (bC.ahead (x1.trans Rj) ⟨N,rfl,hf⟩)⟩
 | ok cl =>
  obtain⟨⟨k,x,y⟩,l1⟩:=cl;by_cases hs:Sp.tok l1=[59]
  ·have aS:Hid (cY A o l=.ok (A.assert k x y,Sp.next l1)):=by unfold Hid cY;rw[hr];simp only;rw[rf hs]
   go_enter func165,ntmps165;go_wp2_with fail;refine(di h [97,115,115,101,114,116] ht).mono ?_;rintro e w1⟨rfl,h1,x1⟩;go_wp2_with fail;refine(fR h1).mono ?_;rintro e Xn⟨rfl,WB,Rj⟩;go_wp2_with fail;refine(gh Rp b s m1 m2 o ho _ (aJ (aA ct)) Xn WB ((hE.ext x1).ext Rj)).mono ?_;intro e w2 hp;rw[hr]at hp;obtain⟨v,rfl,ct2,⟨tl,ul,tr,ur,ct1,rfl,hk,hl,yM⟩,h2,x2⟩:=hp;have HL:=hid hl;have qV:=hid yM;have Ib:k<6:=hk;clear hr hl yM hk;have H2:Hid (Rd b s m1 m2 l1 o ct2 (w2.alloc (L #[I O (k:Nat),σ tl ul,σ tr ur] 285))):=h2.ext _;go_wp2_with fail;refine(di H2.out [59] hs).mono ?_;rintro e w3⟨rfl,h3,x3⟩;have eg:=lU x3 h2.lt;have k0:=cell_of eg 0 (v:=I O (k:Nat)) rfl;have k1:=cell_of eg 1 (v:=σ tl ul) rfl;have k2:=cell_of eg 2 (v:=σ tr ur) rfl;have X:Hid (Ext b w w3):=(((x1.trans Rj).trans x2).alloc _).trans x3;clear eg x3;go_wp2_with fail;go_ret;exact fl aS.out (Rt.assert ct _ _ _ k _ _ ct1 _ _ ct2 Ib HL.out qV.out) h3 X.out
  ·have aS:Hid (cY A o l=.error (2,l1.length)):=by unfold Hid cY;rw[hr];simp only;rw[vi hs]
   go_enter func165,ntmps165;go_wp2_with fail;refine(di h [97,115,115,101,114,116] ht).mono ?_;rintro e w1⟨rfl,h1,x1⟩;go_wp2_with fail;refine(fR h1).mono ?_;rintro e Xn⟨rfl,WB,Rj⟩;go_wp2_with fail;refine(gh Rp b s m1 m2 o ho _ (aJ (aA ct)) Xn WB ((hE.ext x1).ext Rj)).mono ?_;intro e w2 hp;rw[hr]at hp;obtain⟨v,rfl,ct2,⟨tl,ul,tr,ur,ct1,rfl,hk,hl,yM⟩,h2,x2⟩:=hp;clear hr hl yM hk;have H2:Hid (Rd b s m1 m2 l1 o ct2 (w2.alloc (L #[I O (k:Nat),σ tl ul,σ tr ur] 285))):=h2.ext _;go_wp2_with fail;refine(mw H2.out [59] hs).mono ?_;rintro e w3⟨N,rfl,hf⟩;exact⟨rfl,bS aS.out (bC.ahead (((x1.trans Rj).trans x2).alloc _) ⟨N,rfl,hf⟩)⟩
def rO{Rp:mR A}(Rt:jY A Rp)(b:Nat)(s:ByteArray)(m1 m2 o n:Nat)(aT:Sp.Bs->Sp.R (List A.T)):Prop :=
 ∀l ct w,l.length<n->Rd b s m1 m2 l o ct w->Env b m1 m2 w->Calls prog 206 #[ρ (Y ⟨b,0,M⟩)] w (ml (fun ct w' v xs aX=>ng Rt.T ct w.heap.size w'.heap.size w' v xs aX) b s m1 m2 o ct w (aT l))
theorem DB{Rp:mR A}(Rt:jY A Rp)(b:Nat)(s:ByteArray)(m1 m2 o n:Nat)(ho:o<=12)(st:Sp.Bs->Sp.R A.T)(cQ:∀l x l1,st l=.ok (x,l1)->l1.length<l.length)
  (gI:o<12->rm Rt 122 b s m1 m2 (o+1) n st):rO Rt b s m1 m2 o (n+1) (aO A st o):=by
 intro l ct w hl h hE;have cR:=h.lt;by_cases ht:Sp.tok l=[123]
 ·by_cases sl:o=12
  ·subst sl
   have hr:Hid (aO A st 12 l=.error (3,l.length)):=by unfold Hid aO Sp.enter;rw[if_pos ht,if_pos rfl];rfl
   go_enter func206,ntmps206;go_wp2_with fail;refine(qg h [123] ht).mono ?_;rintro e w1⟨N,rfl,hf⟩;exact⟨rfl,bS hr.out ⟨N,rfl,hf⟩⟩
  ·have Ot:Sp.enter [123] o l=.ok (Sp.next l):=by unfold Sp.enter;rw[if_pos ht,if_neg sl]
   have Tb:=aG ht (by simp);have hs:=gI (by omega);cases hr:cX A st ((Sp.next l).length+1) [] (Sp.next l) with
   | error er =>
    have aS:Hid (aO A st o l=.error er):=by unfold Hid aO;rw[Ot];simp only;rw[hr]
    go_enter func206,ntmps206;go_wp2_with fail;refine(je h (by omega) [123] ht).mono ?_;rintro e w1⟨rfl,h1,x1⟩;go_wp2_with fail;refine(gk Rt b s m1 m2 (o+1) n st cQ hs (Sp.next l) ct w1 (by omega) h1 (hE.ext x1)).mono ?_;intro e w2 hp;rw[hr]at hp;obtain⟨N,rfl,hf⟩:=hp;exact⟨rfl,bS aS.out (bC.ahead x1 ⟨N,rfl,hf⟩)⟩
   | ok xl =>
    obtain⟨xs,l2⟩:=xl;by_cases BU:Sp.tok l2=[125]
    ·have aS:Hid (aO A st o l=.ok (xs,Sp.next l2)):=by unfold Hid aO;rw[Ot];simp only;rw[hr];simp only;unfold Sp.take;rw[if_pos BU]
     go_enter func206,ntmps206;go_wp2_with fail;refine(je h (by omega) [123] ht).mono ?_;rintro e w1⟨rfl,h1,x1⟩;go_wp2_with fail;refine(gk Rt b s m1 m2 (o+1) n st cQ hs (Sp.next l) ct w1 (by omega) h1 (hE.ext x1)).mono ?_;intro e w2 hp;rw[hr]at hp;obtain⟨v,rfl,ct1,hv,h2,x2⟩:=hp;have HV:=hid hv;clear hv hr;go_wp2_with fail;refine(di h2 [125] BU).mono ?_;rintro e w3⟨rfl,h3,x3⟩;have c4:w3.cell? ⟨b,4,M⟩=Y (I O ((o:Int)+1)):=h3.c4;have f4:=h3.fz 4;have BU:=u5 h3 o (o:Int) rfl;have HS:=hid BU;clear BU;have HB:Hid (ng Rt.T ct w.heap.size (w3.setCell ⟨b,4,M⟩ (I O (o:Int))).heap.size (w3.setCell ⟨b,4,M⟩ (I O (o:Int))) v xs ct1) :=
      ng.mono Rt HV.out x1.size (by have:=x3.size;simp[World.setCell];omega) ((x3.trans HS.2).FL (Nat.le_refl _) (.inl (by have:=x1.size;omega)))
     go_wp2_with fail;go_ret;exact fl aS.out HB HS.1 (((x1.trans x2).trans x3).trans HS.2)
    ·have aS:Hid (aO A st o l=.error (2,l2.length)):=by unfold Hid aO;rw[Ot];simp only;rw[hr];simp only;unfold Sp.take;rw[if_neg BU];rfl
     go_enter func206,ntmps206;go_wp2_with fail;refine(je h (by omega) [123] ht).mono ?_;rintro e w1⟨rfl,h1,x1⟩;go_wp2_with fail;refine(gk Rt b s m1 m2 (o+1) n st cQ hs (Sp.next l) ct w1 (by omega) h1 (hE.ext x1)).mono ?_;intro e w2 hp;rw[hr]at hp;obtain⟨v,rfl,ct1,hv,h2,x2⟩:=hp;clear hv hr;go_wp2_with fail;refine(mw h2 [125] BU).mono ?_;rintro e w3⟨N,rfl,hf⟩;exact⟨rfl,bS aS.out (bC.ahead (x1.trans x2) ⟨N,rfl,hf⟩)⟩
 ·have hr:Hid (aO A st o l=.error (2,l.length)):=by
   unfold Hid aO Sp.enter;rw[if_neg ht];rfl
  go_enter func206,ntmps206;go_wp2_with fail;refine(zk h [123] ht).mono ?_;rintro e w1⟨N,rfl,hf⟩;exact⟨rfl,bS hr.out ⟨N,rfl,hf⟩⟩
theorem Rd.drew{s:ByteArray}(h:Rd b s m1 m2 l o ct w):Rd b s m1 m2 l o ct w.drew:=h.bF rfl (fun _ _ _ _=>rfl)
theorem eM{τ:Type}{T:Int × Int->Nat->Nat->Wd->Value->τ->Int × Int->Prop}{xs:List τ}(h:ng T ct lo hi w v xs aX):∃a n c,v=Z a n c:=by
 obtain⟨vs,f,h1,_⟩:=h
 rcases h1.2 with⟨rfl,_⟩ | ⟨g,cap,cur,rfl,_⟩
 ·exact⟨M,0,0,rfl⟩
 ·exact⟨_,_,_,rfl⟩
theorem kG{Rp:mR A}(Rt:jY A Rp)(b:Nat)(s:ByteArray)(m1 m2 o n:Nat)(ho:o<=12)(aT:Sp.Bs->Sp.R (List A.T))(gT:rO Rt b s m1 m2 o n aT)
  (l:Sp.Bs) (ct:Int × Int) (w:Wd) (hl:l.length<=n) (h:Rd b s m1 m2 l o (aA ct) w) (hE:Env b m1 m2 w) (ht:Sp.tok l=oH) (Ih:∀c l1,bh A o (Sp.next l)=.ok (c,l1)->l1.length<l.length) :
  Calls prog 167 #[ρ (Y ⟨b,0,M⟩),I O ct.1] w (qw Rt b s m1 m2 o ct w (eA A aT o l)):=by
 have cR:=h.lt;cases hr:bh A o (Sp.next l) with
 | error er =>
  have aS:Hid (eA A aT o l=.error er):=by unfold Hid eA;rw[hr]
  go_enter func167,ntmps167;go_wp2_with fail;refine(di h [119,104,105,108,101] ht).mono ?_;rintro e w1⟨rfl,h1,x1⟩;go_wp2_with fail;refine(gh Rp b s m1 m2 o ho _ (aA ct) w1 h1 (hE.ext x1)).mono ?_;intro e w2 hp;rw[hr]at hp;obtain⟨N,rfl,hf⟩:=hp;exact⟨rfl,bS aS.out (bC.ahead x1 ⟨N,rfl,hf⟩)⟩
 | ok cl =>
  obtain⟨⟨k,x,y⟩,l1⟩:=cl;have yd:=Ih _ _ hr;cases hb:aT l1 with
  | error er =>
   have aS:Hid (eA A aT o l=.error er):=by unfold Hid eA;rw[hr];simp only;rw[hb]
   go_enter func167,ntmps167;go_wp2_with fail;refine(di h [119,104,105,108,101] ht).mono ?_;rintro e w1⟨rfl,h1,x1⟩;go_wp2_with fail;refine(gh Rp b s m1 m2 o ho _ (aA ct) w1 h1 (hE.ext x1)).mono ?_;intro e w2 hp;rw[hr]at hp;obtain⟨v,rfl,ct2,⟨tl,ul,tr,ur,ct1,rfl,hk,Ip,yM⟩,h2,x2⟩:=hp;have H2:Hid (Rd b s m1 m2 l1 o ct2 (w2.alloc (L #[I O (k:Nat),σ tl ul,σ tr ur] 285)).drew):=(h2.ext _).drew;have HE:Hid (Env b m1 m2 (w2.alloc (L #[I O (k:Nat),σ tl ul,σ tr ur] 285)).drew):=((hE.ext x1).ext x2).ext ((Ext.refl b w2).alloc _).drew;have Qj:=h2.lt;clear hr Ip yM hk Ih;go_wp2_with fail;have hc:=gT l1 ct2 _ (by omega) H2.out HE.out;rw[hb]at hc
   go_region_dies
   all_goals
    refine hc.mono ?_;rintro e w3⟨N,rfl,hf⟩;exact⟨rfl,bS aS.out (bC.ahead ((x1.trans x2).alloc _).drew ⟨N,rfl,hf⟩)⟩
  | ok bl =>
   obtain⟨xs,l2⟩:=bl;have aS:Hid (eA A aT o l=.ok (A.loop k x y xs,l2)):=by unfold Hid eA;rw[hr];simp only;rw[hb]
   go_enter func167,ntmps167;go_wp2_with fail;refine(di h [119,104,105,108,101] ht).mono ?_;rintro e w1⟨rfl,h1,x1⟩;go_wp2_with fail;refine(gh Rp b s m1 m2 o ho _ (aA ct) w1 h1 (hE.ext x1)).mono ?_;intro e w2 hp;rw[hr]at hp;obtain⟨v,rfl,ct2,⟨tl,ul,tr,ur,ct1,rfl,hk,Ip,yM⟩,h2,x2⟩:=hp;have HL:=hid Ip;have qV:=hid yM;have Ib:k<6:=hk;have H2:Hid (Rd b s m1 m2 l1 o ct2 (w2.alloc (L #[I O (k:Nat),σ tl ul,σ tr ur] 285)).drew):=(h2.ext _).drew;have HE:Hid (Env b m1 m2 (w2.alloc (L #[I O (k:Nat),σ tl ul,σ tr ur] 285)).drew):=((hE.ext x1).ext x2).ext ((Ext.refl b w2).alloc _).drew;have Qj:=h2.lt;clear hr Ip yM hk Ih;go_wp2_with fail;have hc:=gT l1 ct2 _ (by omega) H2.out HE.out;rw[hb]at hc
   go_region_with (go_at_call 206;go_must (refine hc.mono ?_);rintro e w3 ⟨vb,rfl,mJ,TP,h3,x3⟩;obtain⟨a3,n3,c3,rfl⟩:=eM TP;have eg:=lU (c:=#[I O (k:Nat),σ tl ul,σ tr ur]) (t:=285) (f:=(0,0)) (w:=w2) (w':=w3) ⟨x3.os,x3.tape,x3.output,x3.size,x3.block⟩ Qj;have k0:=cell_of eg 0 (v:=I O (k:Nat)) rfl;have k1:=cell_of eg 1 (v:=σ tl ul) rfl;have k2:=cell_of eg 2 (v:=σ tr ur) rfl)
   all_goals
    have HB:Hid (ng Rt.T ct2 w.heap.size w3.heap.size w3 (Z a3 n3 c3) xs mJ):=ng.mono Rt TP (by have:=x1.size;have:=x2.size;show w.heap.size<=(w2.alloc _).heap.size;simp;omega) (Nat.le_refl _) (eu.refl _ _ _);have X:Hid (Ext b w w3):=(((x1.trans x2).alloc _).drew).trans x3;clear TP x3 hc k0 k1 k2 eg;go_wp2_with fail;go_ret;exact fl aS.out (Rt.loop ct _ _ _ k _ _ ct1 _ _ ct2 _ _ mJ Ib HL.out qV.out HB.out) h3 X.out
theorem eu.setCell(h:eu lo hi w w'){p:Addr}(hp:p.block<lo∨hi<=p.block)(u:Value):eu lo hi w (w'.setCell p u) :=
 fun k h1 h2 hn=>by rw[Below.heap_setCell _ _ _ _ (by omega)];exact h k h1 h2 hn
def jN(p:Int)(k:Nat)(x y bv cv:Value)(he:Bool):Array Value:=#[I O p,I O (k:Nat),x,y,bv,cv,U he]
theorem PX(h:Bk w N (jN p k x y bv cv he) 290)(v:Value):(w.setCell ⟨N,4,M⟩ v).heap[N]?=Y (L (jN p k x y v cv he) 290):=by rw[ah h 4 v];rfl
theorem PB(h:Bk w N (jN p k x y bv cv he) 290)(v:Value):(w.setCell ⟨N,5,M⟩ v).heap[N]?=Y (L (jN p k x y bv v he) 290):=by rw[ah h 5 v];rfl
theorem PT(h:Bk w N (jN p k x y bv cv he) 290)(x9:Bool):(w.setCell ⟨N,6,M⟩ (U x9)).heap[N]?=Y (L (jN p k x y bv cv x9) 290):=by rw[ah h 6 (U x9)];rfl
theorem jK{Rp:mR A}(Rt:jY A Rp)(b:Nat)(s:ByteArray)(m1 m2 o n:Nat)(ho:o<=12)(aT:Sp.Bs->Sp.R (List A.T))(gT:rO Rt b s m1 m2 o n aT)(KH:∀l x l1,aT l=.ok (x,l1)->l1.length<=l.length)
  (l:Sp.Bs) (ct:Int × Int) (w:Wd) (hl:l.length<=n) (h:Rd b s m1 m2 l o (aA ct) w) (hE:Env b m1 m2 w) (ht:Sp.tok l=QG) (Ih:∀c l1,bh A o (Sp.next l)=.ok (c,l1)->l1.length<l.length) :
  Calls prog 166 #[ρ (Y ⟨b,0,M⟩),I O ct.1] w (qw Rt b s m1 m2 o ct w (qR A aT o l)):=by
 have cR:=h.lt;cases hr:bh A o (Sp.next l) with
 | error er =>
  have aS:Hid (qR A aT o l=.error er):=by unfold Hid qR;rw[hr]
  go_enter func166,ntmps166;go_wp2_with fail;refine(di h [105,102] ht).mono ?_;rintro e w1⟨rfl,h1,x1⟩;go_wp2_with fail;refine(gh Rp b s m1 m2 o ho _ (aA ct) w1 h1 (hE.ext x1)).mono ?_;intro e w2 hp;rw[hr]at hp;obtain⟨N,rfl,hf⟩:=hp;exact⟨rfl,bS aS.out (bC.ahead x1 ⟨N,rfl,hf⟩)⟩
 | ok cl =>
  obtain⟨⟨k,x,y⟩,l1⟩:=cl;have yd:=Ih _ _ hr;clear Ih;go_enter func166,ntmps166;go_wp2_with fail;refine(di h [105,102] ht).mono ?_;rintro e w1⟨rfl,h1,x1⟩;go_wp2_with fail;refine(gh Rp b s m1 m2 o ho _ (aA ct) w1 h1 (hE.ext x1)).mono ?_;intro e w2 hp;rw[hr]at hp;obtain⟨v,rfl,ct2,⟨tl,ul,tr,ur,ct1,rfl,hk,Ip,yM⟩,h2,x2⟩:=hp;have HL:=hid Ip;have qV:=hid yM;have Ib:k<6:=hk;have H2:Hid (Rd b s m1 m2 l1 o ct2 (w2.alloc (L #[I O ct.1,I O (k:Nat),σ tl ul,σ tr ur,Z M 0 0,Z M 0 0,U false] 290))):=h2.ext _;have HX:Hid (Ext b w (w2.alloc (L #[I O ct.1,I O (k:Nat),σ tl ul,σ tr ur,Z M 0 0,Z M 0 0,U false] 290))):=(x1.trans x2).alloc _;have Qj:=h2.lt;have OG:w.heap.size<=w2.heap.size:=by have:=x1.size;have:=x2.size;omega
  have HR:=hid hr;clear Ip yM hk hr;go_wp2_with fail;have hc:=gT l1 ct2 _ (by omega) H2.out (hE.ext HX.out);cases hb:aT l1 with
  | error er =>
   have aS:Hid (qR A aT o l=.error er):=by unfold Hid qR;rw[HR.out];simp only;rw[hb]
   rw[hb]at hc;refine hc.mono ?_;rintro e w3⟨N,rfl,hf⟩;exact⟨rfl,bS aS.out (bC.ahead HX.out ⟨N,rfl,hf⟩)⟩
  | ok bl =>
   obtain⟨xs,l2⟩:=bl;rw[hb]at hc;refine hc.mono ?_;rintro e w3⟨vb,rfl,mJ,TP,h3,x3⟩;obtain⟨a3,n3,c3,rfl⟩:=eM TP;have eg:w3.heap[w2.heap.size]?=Y (L (jN ct.1 k (σ tl ul) (σ tr ur) (Z M 0 0) (Z M 0 0) false) 290):=lU x3 Qj;have k3:=cell_of eg 4 (v:=Z M 0 0) rfl;have f3:=aw eg 4;have yN:=PX eg (Z a3 n3 c3);have H4:Hid (Rd b s m1 m2 l2 o mJ (w3.setCell ⟨w2.heap.size,4,M⟩ (Z a3 n3 c3))):=h3.dU (p:=⟨w2.heap.size,4,M⟩) (by show w2.heap.size≠b;omega) (ld eg (by decide)) _;have X4:Hid (Ext b w (w3.setCell ⟨w2.heap.size,4,M⟩ (Z a3 n3 c3))):=(HX.trans x3).setCell (p:=⟨w2.heap.size,4,M⟩) (.inr OG) _;have Ec:Hid (ng Rt.T ct2 (w2.heap.size+1) w3.heap.size (w3.setCell ⟨w2.heap.size,4,M⟩ (Z a3 n3 c3)) (Z a3 n3 c3) xs mJ):=ng.mono Rt TP (by simp) (Nat.le_refl _) ((eu.refl _ _ _).setCell (p:=⟨w2.heap.size,4,M⟩) (.inl (by show w2.heap.size<(w2.alloc _).heap.size;simp)) _);have ZT:w2.heap.size<w3.heap.size:=ad eg;have hdb:=KH _ _ _ hb;have Kz:=hid hb;have cc3:(w3.setCell ⟨w2.heap.size,4,M⟩ (Z a3 n3 c3)).cell? ⟨b,3,M⟩=Y (χ ⟨(Sp.tok l2).toArray⟩):=H4.c3;clear TP hb hc x3 h3 eg;by_cases Kq:Sp.tok l2=kt
   ·have aar:(w3.setCell ⟨w2.heap.size,4,M⟩ (Z a3 n3 c3)).cell? ⟨b,3,M⟩=Y (χ ⟨#[101,108,115,101]⟩):=by rw[cc3,Kq];rfl
    clear cc3;have HEL:Hid (Sp.tok l2=[101,108,115,101]):=Kq;go_wp2_with fail;clear k3 f3 aar;have Wk:w3.heap.size=(w3.setCell ⟨w2.heap.size,4,M⟩ (Z a3 n3 c3)).heap.size:=by simp[World.setCell]
    rw[Wk]at Ec ZT;clear Wk;generalize w3.setCell ⟨w2.heap.size,4,M⟩ (Z a3 n3 c3)=w4 at *;refine(di H4.out [101,108,115,101] HEL.out).mono ?_;rintro e w5⟨rfl,h5,x5⟩;have NG:w5.heap[w2.heap.size]?=Y (L (jN ct.1 k (σ tl ul) (σ tr ur) (Z a3 n3 c3) (Z M 0 0) false) 290):=by exact x5.bF yN (by omega) (eW (by decide))
    have k5:=cell_of NG 6 (v:=U false) rfl;have f5:=aw NG 6;have Xy:=PT NG true;have H6:Hid (Rd b s m1 m2 (Sp.next l2) o mJ (w5.setCell ⟨w2.heap.size,6,M⟩ (U true))):=h5.dU (p:=⟨w2.heap.size,6,M⟩) (by show w2.heap.size≠b;omega) (ld NG (by decide)) _;have X6:Hid (Ext b w (w5.setCell ⟨w2.heap.size,6,M⟩ (U true))):=(X4.trans x5).setCell (p:=⟨w2.heap.size,6,M⟩) (.inr OG) _;have HB6:Hid (ng Rt.T ct2 (w2.heap.size+1) w4.heap.size (w5.setCell ⟨w2.heap.size,6,M⟩ (U true)) (Z a3 n3 c3) xs mJ):=ng.mono Rt Ec.out (Nat.le_refl _) (Nat.le_refl _) ((x5.FL (lo:=w2.heap.size+1) (Nat.le_refl _) (.inl (by omega))).setCell (p:=⟨w2.heap.size,6,M⟩) (.inl (Nat.lt_succ_self _)) _);have aaj:w4.heap.size<=(w5.setCell ⟨w2.heap.size,6,M⟩ (U true)).heap.size:=by have:=x5.size;simp[World.setCell];omega
    have Tb:=aG HEL.out (by simp);clear NG h5 x5 Ec H4 X4 yN;go_wp2_with fail;clear k5 f5;generalize w5.setCell ⟨w2.heap.size,6,M⟩ (U true)=w6 at *;have hc:=gT (Sp.next l2) mJ w6 (by omega) H6.out (hE.ext X6.out);cases hb:aT (Sp.next l2) with
    | error er =>
     have aS:Hid (qR A aT o l=.error er):=by unfold Hid qR;rw[HR.out];simp only;rw[Kz.out];simp only;rw[if_pos Kq,hb]
     rw[hb]at hc;refine hc.mono ?_;rintro e w7⟨N,rfl,hf⟩;exact⟨rfl,bS aS.out (bC.ahead X6.out ⟨N,rfl,hf⟩)⟩
    | ok cl =>
     obtain⟨ys,l3⟩:=cl;have aS:Hid (qR A aT o l=.ok (A.ite k x y xs (Y ys),l3)):=by unfold Hid qR;rw[HR.out];simp only;rw[Kz.out];simp only;rw[if_pos Kq,hb]
     rw[hb]at hc;refine hc.mono ?_;rintro e w7⟨vc,rfl,tB,hvc,h7,x7⟩;obtain⟨a7,n7,c7,rfl⟩:=eM hvc;have aaL:=ad Xy;have Oi:w7.heap[w2.heap.size]?=Y (L (jN ct.1 k (σ tl ul) (σ tr ur) (Z a3 n3 c3) (Z M 0 0) true) 290):=by exact x7.bF Xy (by omega) (eW (by decide))
     have k7:=cell_of Oi 5 (v:=Z M 0 0) rfl;have f7:=aw Oi 5;have D6:=PB Oi (Z a7 n7 c7);have q0:=cell_of D6 0 (v:=I O ct.1) rfl;have q1:=cell_of D6 1 (v:=I O (k:Nat)) rfl;have q2:=cell_of D6 2 (v:=σ tl ul) rfl;have q3:=cell_of D6 3 (v:=σ tr ur) rfl;have q4:=cell_of D6 4 (v:=Z a3 n3 c3) rfl;have q5:=cell_of D6 5 (v:=Z a7 n7 c7) rfl;have q6:=cell_of D6 6 (v:=U true) rfl;have H8:Hid (Rd b s m1 m2 l3 o tB (w7.setCell ⟨w2.heap.size,5,M⟩ (Z a7 n7 c7))):=h7.dU (p:=⟨w2.heap.size,5,M⟩) (by show w2.heap.size≠b;omega) (ld Oi (by decide)) _;have X8:Hid (Ext b w (w7.setCell ⟨w2.heap.size,5,M⟩ (Z a7 n7 c7))):=(X6.trans x7).setCell (p:=⟨w2.heap.size,5,M⟩) (.inr OG) _;have aag:w7.heap.size<=(w7.setCell ⟨w2.heap.size,5,M⟩ (Z a7 n7 c7)).heap.size:=by simp[World.setCell]
     have T7:Hid (ng Rt.T ct2 w.heap.size (w7.setCell ⟨w2.heap.size,5,M⟩ (Z a7 n7 c7)).heap.size (w7.setCell ⟨w2.heap.size,5,M⟩ (Z a7 n7 c7)) (Z a3 n3 c3) xs mJ) :=
      ng.mono Rt HB6.out (by omega) (by have:=x7.size;omega) ((x7.FL (lo:=w2.heap.size+1) aaj (.inl (by omega))).setCell (p:=⟨w2.heap.size,5,M⟩) (.inl (Nat.lt_succ_self _)) _)
     have HC8:Hid (ng Rt.T mJ w.heap.size (w7.setCell ⟨w2.heap.size,5,M⟩ (Z a7 n7 c7)).heap.size (w7.setCell ⟨w2.heap.size,5,M⟩ (Z a7 n7 c7)) (Z a7 n7 c7) ys tB) :=
      ng.mono Rt hvc (by omega) aag ((eu.refl _ _ _).setCell (p:=⟨w2.heap.size,5,M⟩) (.inl (by show w2.heap.size<w6.heap.size;omega)) _)
     clear hvc hb hc D6 Oi h7 x7 HB6;go_wp2_with fail;go_ret;exact fl aS.out (Rt.iteElse ct _ _ _ k _ _ ct1 _ _ ct2 _ _ mJ _ _ tB Ib HL.out qV.out T7.out HC8.out) H8.out X8.out
   ·have aS:Hid (qR A aT o l=.ok (A.ite k x y xs M,l2)):=by unfold Hid qR;rw[HR.out];simp only;rw[Kz.out];simp only;rw[if_neg Kq]
    have dF:(Sp.tok l2 == [101,108,115,101])=false:=gM Kq;have q0:=cell_of yN 0 (v:=I O ct.1) rfl;have q1:=cell_of yN 1 (v:=I O (k:Nat)) rfl;have q2:=cell_of yN 2 (v:=σ tl ul) rfl;have q3:=cell_of yN 3 (v:=σ tr ur) rfl;have q4:=cell_of yN 4 (v:=Z a3 n3 c3) rfl;have q5:=cell_of yN 5 (v:=Z M 0 0) rfl;have q6:=cell_of yN 6 (v:=U false) rfl;have T7:Hid (ng Rt.T ct2 w.heap.size (w3.setCell ⟨w2.heap.size,4,M⟩ (Z a3 n3 c3)).heap.size (w3.setCell ⟨w2.heap.size,4,M⟩ (Z a3 n3 c3)) (Z a3 n3 c3) xs mJ) :=
     ng.mono Rt Ec.out (by omega) (by simp[World.setCell]) (eu.refl _ _ _)
    clear yN Ec Kq;go_wp2_with fail;go_ret;exact fl aS.out (Rt.ite ct _ _ _ k _ _ ct1 _ _ ct2 _ _ mJ Ib HL.out qV.out T7.out) H4.out X4.out
end
namespace Sp
section
variable{A:eR}
variable{o k:Nat}
variable{l l1:Bs}
theorem Lb{x:A.S}(h:pS A o l=.ok (x,l1)):l1.length<l.length :=
 GB (iK _ _) l x l1 h
theorem kg{c:Nat × A.S × A.S}(h:bh A o l=.ok (c,l1)):l1.length<l.length:=by
 unfold bh at h;split at h
 ·rename_i x l2 hr
  have h1:=Lb hr;split at h
  ·split at h
   ·rename_i y l3 od
    have h2:=Lb od;have h3:=bZ l2;cases h;omega
   ·cases h
  ·cases h
 ·cases h
theorem Cw(h:dG l=.ok (k,l1)):l1.length<l.length:=by obtain⟨hk,rfl⟩:=ir h;exact gm (dP (.inl (ff hk)))
theorem rT{t:Bs}(h:take t l=.ok l1):l1.length<=l.length:=by obtain⟨_,rfl⟩:=cd h;exact bZ l
theorem CI{st:Bs->R A.T}(hs:∀l x l1,st l=.ok (x,l1)->l1.length<l.length):∀(m:Nat) (xs:List A.T) (l:Bs) (ys:List A.T) (l1:Bs),cX A st m xs l=.ok (ys,l1)->l1.length<=l.length
 | 0,xs,l,ys,l1,h=>by unfold cX at h;cases h;exact Nat.le_refl _
 | m+1,xs,l,ys,l1,h=>by
  unfold cX at h;split at h
  ·split at h
   ·rename_i x l2 hr
    have:=hs _ _ _ hr;have:=CI hs m _ _ _ _ h;omega
   ·cases h
  ·cases h;exact Nat.le_refl _
theorem sW{st:Bs->R A.T}(hs:∀l x l1,st l=.ok (x,l1)->l1.length<l.length){xs:List A.T}(h:aO A st o l=.ok (xs,l1)):l1.length<l.length:=by
 unfold aO at h;split at h
 ·rename_i l2 hr
  obtain⟨ht,_,rfl⟩:=cN hr;have:=aG ht (by simp);split at h
  ·rename_i ys l3 od
   have:=CI hs _ _ _ _ _ od;split at h
   ·rename_i l4 Gl
    have:=rT Gl;cases h;omega
   ·cases h
  ·cases h
 ·cases h
theorem kH:∀(n o:Nat) (l:Bs) (x:A.T) (l1:Bs),bN A n o l=.ok (x,l1)->l1.length<l.length
 | 0,o,l,x,l1,h=>by unfold bN bad at h;cases h
 | n+1,o,l,x,l1,h=>by
  have hb:∀l xs l1,aO A (bN A n (o+1)) o l=.ok (xs,l1)->l1.length<l.length:=fun l xs l1 h=>sW (kH n (o+1)) h
  have hn:=bZ l;unfold bN at h;split at h
  ·unfold gG at h
   split at h
   ·rename_i k l2 hr
    have:=Cw hr;split at h
    ·rename_i l3 od
     have:=rT od;cases h;omega
    ·cases h
   ·cases h
  ·split at h
   ·unfold cY at h
    split at h
    ·rename_i k x y l2 hr
     have:=kg hr;split at h
     ·rename_i l3 od
      have:=rT od;cases h;omega
     ·cases h
    ·cases h
   ·split at h
    ·unfold qR at h
     split at h
     ·rename_i k x y l2 hr
      have:=kg hr;split at h
      ·rename_i xs l3 od
       have:=hb _ _ _ od;split at h
       ·split at h
        ·rename_i ys l4 Gl
         have:=hb _ _ _ Gl;have:=bZ l3;cases h;omega
        ·cases h
       ·cases h;omega
      ·cases h
     ·cases h
    ·split at h
     ·unfold eA at h
      split at h
      ·rename_i k x y l2 hr
       have:=kg hr;split at h
       ·rename_i xs l3 od
        have:=hb _ _ _ od;cases h;omega
       ·cases h
      ·cases h
     ·unfold cu at h
      split at h
      ·rename_i k l2 hr
       have:=Cw hr;split at h
       ·rename_i l3 od
        have:=rT od;split at h
        ·rename_i x l4 Gl
         have:=Lb Gl;split at h
         ·rename_i l5 qN
          have:=rT qN;cases h;omega
         ·cases h
        ·cases h
       ·cases h
      ·cases h
end
end Sp
section
variable{A:eR}
variable{b base sz n QT B k:Nat}
variable{s:ByteArray}
variable{w wa wb wc w':Wd}
variable{v0 v nv:Value}
variable{vs:List Value}
theorem kD{Rp:mR A}(Rt:jY A Rp){m1 m2 o:Nat}{ct:Int × Int}{r:Sp.R A.T}(e:Ending)(w':Wd)
  (h:qw Rt b s m1 m2 o ct (w.setCell ⟨b,5,M⟩ v0) r e w'):ml (fun ct w' v x aX=>Rt.T ct w.heap.size w'.heap.size w' v x aX) b s m1 m2 o ct w r e w':=by
 have x:Ext b w (w.setCell ⟨b,5,M⟩ v0):=(Ext.refl b w).setCell (p:=⟨b,5,M⟩) (.inl rfl) _;have hs:(w.setCell ⟨b,5,M⟩ v0).heap.size=w.heap.size:=by simp[World.setCell]
 unfold qw at h;cases r with
 | error er=>exact bC.ahead x h
 | ok xl =>obtain⟨v,rfl,aX,hv,h1,x1⟩:=h;exact⟨v,rfl,aX,by rw[hs]at hv;exact hv,h1,x.trans x1⟩
theorem wD{Rp:mR A}(Rt:jY A Rp)(b:Nat)(s:ByteArray)(m1 m2 o n:Nat)(ho:o<=12)
  (ih:o<12->rm Rt 122 b s m1 m2 (o+1) n (bN A n (o+1))):rm Rt 122 b s m1 m2 o (n+1) (bN A (n+1) o):=by
 intro l ct w hl h hE;have gT:rO Rt b s m1 m2 o (n+1) (aO A (bN A n (o+1)) o):=DB Rt b s m1 m2 o n ho _ (kH n (o+1)) ih;have KH:∀l x l1,aO A (bN A n (o+1)) o l=.ok (x,l1)->l1.length<=l.length:=fun l x l1 h=>Nat.le_of_lt (sW (kH n (o+1)) h)
 have Ih:∀c l1,bh A o (Sp.next l)=.ok (c,l1)->l1.length<l.length:=fun c l1 h=>by have:=kg h;have:=bZ l;omega
 have h5:=h.c5;have f5:=h.fz 5;obtain⟨hp,xp⟩:=Lo h (RowKit.wrap64 (ct.1+1));have HP:=hid hp;have c3:=hp.c3;have Y0:=hE.ext xp;clear hp;unfold bN;by_cases t1:Sp.tok l=uj
 ·rw[if_pos t1]
  have Wn:(w.setCell ⟨b,5,M⟩ (I O (RowKit.wrap64 (ct.1+1)))).cell? ⟨b,3,M⟩=Y (χ ⟨#[114,101,97,100]⟩):=by rw[c3,t1];rfl
  have hc:Calls prog 164 #[ρ (Y ⟨b,0,M⟩),I O ct.1] (w.setCell ⟨b,5,M⟩ (I O (RowKit.wrap64 (ct.1+1)))) (ml (fun ct w' v x aX=>Rt.T ct w.heap.size w'.heap.size w' v x aX) b s m1 m2 o ct w (gG A l)):=(FT Rt b s m1 m2 o l ct _ HP.out t1).mono (kD Rt);clear c3 ih gT KH Ih;generalize gG A l=r at hc ⊢;cases r with
  | error er =>go_enter func122,ntmps122;go_wp2_with fail;refine hc.mono ?_;rintro e w1⟨N,rfl,hf⟩;exact⟨rfl,N,rfl,hf⟩
  | ok xl =>obtain⟨x,l1⟩:=xl;go_enter func122,ntmps122;go_wp2_with fail;refine hc.mono ?_;rintro e w1⟨v,rfl,ct1,hv,h1,x1⟩;go_wp2_with fail;go_ret;exact⟨v,rfl,ct1,hv,h1,x1⟩
 ·rw[if_neg t1]
  have b1:(Sp.tok l == [114,101,97,100])=false:=gM t1;by_cases t2:Sp.tok l=kW
  ·rw[if_pos t2]
   have Wn:(w.setCell ⟨b,5,M⟩ (I O (RowKit.wrap64 (ct.1+1)))).cell? ⟨b,3,M⟩=Y (χ ⟨#[97,115,115,101,114,116]⟩):=by rw[c3,t2];rfl
   have hc:Calls prog 165 #[ρ (Y ⟨b,0,M⟩),I O ct.1] (w.setCell ⟨b,5,M⟩ (I O (RowKit.wrap64 (ct.1+1)))) (ml (fun ct w' v x aX=>Rt.T ct w.heap.size w'.heap.size w' v x aX) b s m1 m2 o ct w (cY A o l)):=(nh Rt b s m1 m2 o ho l ct _ HP.out Y0 t2).mono (kD Rt);clear c3 ih gT KH Ih b1;generalize cY A o l=r at hc ⊢;cases r with
   | error er =>go_enter func122,ntmps122;go_wp2_with fail;refine hc.mono ?_;rintro e w1⟨N,rfl,hf⟩;exact⟨rfl,N,rfl,hf⟩
   | ok xl =>obtain⟨x,l1⟩:=xl;go_enter func122,ntmps122;go_wp2_with fail;refine hc.mono ?_;rintro e w1⟨v,rfl,ct1,hv,h1,x1⟩;go_wp2_with fail;go_ret;exact⟨v,rfl,ct1,hv,h1,x1⟩
  ·rw[if_neg t2]
   have b2:(Sp.tok l == [97,115,115,101,114,116])=false:=gM t2;by_cases t3:Sp.tok l=QG
   ·rw[if_pos t3]
    have Wn:(w.setCell ⟨b,5,M⟩ (I O (RowKit.wrap64 (ct.1+1)))).cell? ⟨b,3,M⟩=Y (χ ⟨#[105,102]⟩):=by rw[c3,t3];rfl
    have hc:Calls prog 166 #[ρ (Y ⟨b,0,M⟩),I O ct.1] (w.setCell ⟨b,5,M⟩ (I O (RowKit.wrap64 (ct.1+1)))) (ml (fun ct w' v x aX=>Rt.T ct w.heap.size w'.heap.size w' v x aX) b s m1 m2 o ct w (qR A (fun l=>aO A (bN A n (o+1)) o l) o l)):=(jK Rt b s m1 m2 o (n+1) ho _ gT KH l ct _ (by omega) HP.out Y0 t3 Ih).mono (kD Rt);clear c3 ih gT KH Ih b1 b2;generalize qR A (fun l=>aO A (bN A n (o+1)) o l) o l=r at hc ⊢;cases r with
    | error er =>go_enter func122,ntmps122;go_wp2_with fail;refine hc.mono ?_;rintro e w1⟨N,rfl,hf⟩;exact⟨rfl,N,rfl,hf⟩
    | ok xl =>obtain⟨x,l1⟩:=xl;go_enter func122,ntmps122;go_wp2_with fail;refine hc.mono ?_;rintro e w1⟨v,rfl,ct1,hv,h1,x1⟩;go_wp2_with fail;go_ret;exact⟨v,rfl,ct1,hv,h1,x1⟩
   ·rw[if_neg t3]
    have b3:(Sp.tok l == [105,102])=false:=gM t3;by_cases t4:Sp.tok l=oH
    ·rw[if_pos t4]
     have Wn:(w.setCell ⟨b,5,M⟩ (I O (RowKit.wrap64 (ct.1+1)))).cell? ⟨b,3,M⟩=Y (χ ⟨#[119,104,105,108,101]⟩):=by rw[c3,t4];rfl
     have hc:Calls prog 167 #[ρ (Y ⟨b,0,M⟩),I O ct.1] (w.setCell ⟨b,5,M⟩ (I O (RowKit.wrap64 (ct.1+1)))) (ml (fun ct w' v x aX=>Rt.T ct w.heap.size w'.heap.size w' v x aX) b s m1 m2 o ct w (eA A (fun l=>aO A (bN A n (o+1)) o l) o l)):=(kG Rt b s m1 m2 o (n+1) ho _ gT l ct _ (by omega) HP.out Y0 t4 Ih).mono (kD Rt);clear c3 ih gT KH Ih b1 b2 b3;generalize eA A (fun l=>aO A (bN A n (o+1)) o l) o l=r at hc ⊢;cases r with
     | error er =>go_enter func122,ntmps122;go_wp2_with fail;refine hc.mono ?_;rintro e w1⟨N,rfl,hf⟩;exact⟨rfl,N,rfl,hf⟩
     | ok xl =>obtain⟨x,l1⟩:=xl;go_enter func122,ntmps122;go_wp2_with fail;refine hc.mono ?_;rintro e w1⟨v,rfl,ct1,hv,h1,x1⟩;go_wp2_with fail;go_ret;exact⟨v,rfl,ct1,hv,h1,x1⟩
    ·rw[if_neg t4]
     have b4:(Sp.tok l == [119,104,105,108,101])=false:=gM t4;have hc:Calls prog 168 #[ρ (Y ⟨b,0,M⟩),I O ct.1] (w.setCell ⟨b,5,M⟩ (I O (RowKit.wrap64 (ct.1+1)))) (ml (fun ct w' v x aX=>Rt.T ct w.heap.size w'.heap.size w' v x aX) b s m1 m2 o ct w (cu A o l)):=(mS Rt b s m1 m2 o ho l ct _ HP.out Y0).mono (kD Rt);clear ih gT KH Ih t1 t2 t3 t4;generalize cu A o l=r at hc ⊢;cases r with
     | error er =>go_enter func122,ntmps122;go_wp2_with fail;refine hc.mono ?_;rintro e w1⟨N,rfl,hf⟩;exact⟨rfl,N,rfl,hf⟩
     | ok xl =>obtain⟨x,l1⟩:=xl;go_enter func122,ntmps122;go_wp2_with fail;refine hc.mono ?_;rintro e w1⟨v,rfl,ct1,hv,h1,x1⟩;go_wp2_with fail;go_ret;exact⟨v,rfl,ct1,hv,h1,x1⟩
theorem nV{Rp:mR A}(Rt:jY A Rp)(b:Nat)(s:ByteArray)(m1 m2:Nat):∀(n o:Nat),o<=12->rm Rt 122 b s m1 m2 o n (bN A n o)
 | 0,_,_=>fun l _ _ hl _ _=>absurd hl (Nat.not_lt_zero _)
 | n+1,o,ho=>wD Rt b s m1 m2 o n ho (fun h=>nV Rt b s m1 m2 n (o+1) (by omega))
theorem ug{l:Sp.Bs}:aC l=1↔l=[]:=by
 cases l with
 | nil=>simp[aC]
 | cons c r =>
  rw[bU];constructor
  ·intro h
   split at h
   ·omega
   ·split at h
    ·omega
    ·split at h<;>omega
  ·intro h;cases h
theorem mQ{e:TypeId}(h:w.ownsRow base e sz v n vs):∃a m c,v=Z a m c:=by
 rcases h.2 with⟨rfl,_⟩ | ⟨g,cap,cur,rfl,_⟩
 ·exact⟨_,_,_,rfl⟩
 ·exact⟨_,_,_,rfl⟩
theorem yq{Rp:mR A}(Rt:jY A Rp)(b:Nat)(s:ByteArray)(m1 m2:Nat)(l:Sp.Bs)(ct:Int × Int)(w:Wd)(h:Rd b s m1 m2 l 0 ct w)(hE:Env b m1 m2 w) :
  Calls prog 58 #[ρ (Y ⟨b,0,M⟩)] w fun e w'=>match pO A l with
   | .ok xs=>∃v aX nv ns,e=υ (J #[v,I O aX.1,I O aX.2,nv])/\ng Rt.T ct w.heap.size w'.heap.size w' v xs aX/\Ext b w w'/\w'.ownsRow (b+1) 226 1 nv ns.length (iW ns)/\qD (Sp.skip s.data.toList) [] ns
   | .error er=>bC s b w er e w':=by
 have cR:=h.lt;have uS:Ext b w (w.alloc (L #[Z M 0 0,I O 0,I O 0,Z M 0 0] 86)):=(Ext.refl b w).alloc _;have hc:=gk Rt b s m1 m2 0 (l.length+1) (bN A (l.length+1) 0) (kH _ _) (nV Rt b s m1 m2 (l.length+1) 0 (by omega)) l ct (w.alloc (L #[Z M 0 0,I O 0,I O 0,Z M 0 0] 86)) (Nat.lt_succ_self _) (h.ext _) (hE.ext uS);unfold pO;cases hr:cX A (bN A (l.length+1) 0) (l.length+1) [] l with
 | error er =>rw[hr]at hc;go_enter func58,ntmps58;go_wp2_with fail;refine hc.mono ?_;rintro e w1⟨N,rfl,hf⟩;exact⟨rfl,bC.ahead uS ⟨N,rfl,hf⟩⟩
 | ok xl =>
  obtain⟨xs,l1⟩:=xl;rw[hr]at hc;simp only;by_cases he:l1=[]
  ·rw[if_pos he]
   have hk:=ug.2 he;go_enter func58,ntmps58;go_wp2_with fail;refine hc.mono ?_;rintro e w1⟨v,rfl,ct1,hv,h1,x1⟩;have c2:w1.cell? ⟨b,2,M⟩=Y (I O 1):=by rw[h1.c2,hk];rfl
   obtain⟨a1,n1,c1,rfl⟩:=eM hv;have eg:=lU x1 cR;have k0:=cell_of eg 0 (v:=Z M 0 0) rfl;have k1:=cell_of eg 1 (v:=I O 0) rfl;have k2:=cell_of eg 2 (v:=I O 0) rfl;have k3:=cell_of eg 3 (v:=Z M 0 0) rfl;have f0:=aw eg 0;have f1:=aw eg 1;have f2:=aw eg 2;have f3:=aw eg 3;have c5:=h1.c5;have c6:=h1.c6;obtain⟨nv,ns,hN,hL⟩:=h1;obtain⟨an,nn,cn,rfl⟩:=mQ hN.row;have c7:w1.cell? ⟨b,7,M⟩=Y (Z an nn cn):=cell_of hN.aT 7 rfl;have hW:=ah (ah (ah (ah eg 0 (Z a1 n1 c1)) 1 (I O ct1.1)) 2 (I O ct1.2)) 3 (Z an nn cn);have q0:=cell_of hW 0 (v:=Z a1 n1 c1) rfl;have q1:=cell_of hW 1 (v:=I O ct1.1) rfl;have q2:=cell_of hW 2 (v:=I O ct1.2) rfl;have q3:=cell_of hW 3 (v:=Z an nn cn) rfl;have HX:Hid (Ext b w ((((w1.setCell ⟨w.heap.size,0,M⟩ (Z a1 n1 c1)).setCell ⟨w.heap.size,1,M⟩ (I O ct1.1)).setCell ⟨w.heap.size,2,M⟩ (I O ct1.2)).setCell ⟨w.heap.size,3,M⟩ (Z an nn cn)).drew) :=
    (((((uS.trans x1).setCell (p:=⟨w.heap.size,0,M⟩) (.inr (Nat.le_refl _)) _).setCell (p:=⟨w.heap.size,1,M⟩) (.inr (Nat.le_refl _)) _).setCell (p:=⟨w.heap.size,2,M⟩) (.inr (Nat.le_refl _)) _).setCell (p:=⟨w.heap.size,3,M⟩) (.inr (Nat.le_refl _)) _).drew
   have HV:Hid (ng Rt.T ct w.heap.size ((((w1.setCell ⟨w.heap.size,0,M⟩ (Z a1 n1 c1)).setCell ⟨w.heap.size,1,M⟩ (I O ct1.1)).setCell ⟨w.heap.size,2,M⟩ (I O ct1.2)).setCell ⟨w.heap.size,3,M⟩ (Z an nn cn)).drew.heap.size ((((w1.setCell ⟨w.heap.size,0,M⟩ (Z a1 n1 c1)).setCell ⟨w.heap.size,1,M⟩ (I O ct1.1)).setCell ⟨w.heap.size,2,M⟩ (I O ct1.2)).setCell ⟨w.heap.size,3,M⟩ (Z an nn cn)).drew (Z a1 n1 c1) xs ct1) :=
    ng.mono Rt hv (by simp) (by simp[World.setCell]) (((((eu.refl _ _ _).setCell (p:=⟨w.heap.size,0,M⟩) (.inl (by show w.heap.size<(w.alloc _).heap.size;simp)) _).setCell (p:=⟨w.heap.size,1,M⟩) (.inl (by show w.heap.size<(w.alloc _).heap.size;simp)) _).setCell (p:=⟨w.heap.size,2,M⟩) (.inl (by show w.heap.size<(w.alloc _).heap.size;simp)) _).setCell (p:=⟨w.heap.size,3,M⟩) (.inl (by show w.heap.size<(w.alloc _).heap.size;simp)) _)
   have XC:∀k,om w1.heap[k]?->k≠w.heap.size:=fun k hk e=>by rw[e,eg]at hk;exact eW (by decide) hk
   have HR:Hid (((((w1.setCell ⟨w.heap.size,0,M⟩ (Z a1 n1 c1)).setCell ⟨w.heap.size,1,M⟩ (I O ct1.1)).setCell ⟨w.heap.size,2,M⟩ (I O ct1.2)).setCell ⟨w.heap.size,3,M⟩ (Z an nn cn)).drew.ownsRow (b+1) 226 1 (Z an nn cn) ns.length (iW ns)) :=
    mi hN.row (fun k _ _ ZY=>by have:=XC k ZY;show((((w1.setCell ⟨w.heap.size,0,M⟩ (Z a1 n1 c1)).setCell ⟨w.heap.size,1,M⟩ (I O ct1.1)).setCell ⟨w.heap.size,2,M⟩ (I O ct1.2)).setCell ⟨w.heap.size,3,M⟩ (Z an nn cn)).heap[k]?=_;rw[Below.heap_setCell _ _ _ _ this,Below.heap_setCell _ _ _ _ this,Below.heap_setCell _ _ _ _ this,Below.heap_setCell _ _ _ _ this])
   have HL:Hid (qD (Sp.skip s.data.toList) [] ns):=by rw[he]at hL;exact hL
   have Q0:=hid q0;have Q1:=hid q1;have Q2:=hid q2;have Q3:=hid q3;have Ir:b≠w.heap.size:=by omega
   have C5:(w1.setCell ⟨w.heap.size,0,M⟩ (Z a1 n1 c1)).cell? ⟨b,5,M⟩=Y (I O ct1.1):=by rw[World.cell?_of_block (w:=w1) (by rw[Below.heap_setCell _ _ _ _ Ir])];exact c5
   have C6:((w1.setCell ⟨w.heap.size,0,M⟩ (Z a1 n1 c1)).setCell ⟨w.heap.size,1,M⟩ (I O ct1.1)).cell? ⟨b,6,M⟩=Y (I O ct1.2):=by rw[World.cell?_of_block (w:=w1) (by rw[Below.heap_setCell _ _ _ _ Ir,Below.heap_setCell _ _ _ _ Ir])];exact c6
   have C7:(((w1.setCell ⟨w.heap.size,0,M⟩ (Z a1 n1 c1)).setCell ⟨w.heap.size,1,M⟩ (I O ct1.1)).setCell ⟨w.heap.size,2,M⟩ (I O ct1.2)).cell? ⟨b,7,M⟩=Y (Z an nn cn):=by rw[World.cell?_of_block (w:=w1) (by rw[Below.heap_setCell _ _ _ _ Ir,Below.heap_setCell _ _ _ _ Ir,Below.heap_setCell _ _ _ _ Ir])];exact c7
   clear hv q0 q1 q2 q3 hW eg hN hL XC;go_wp2_with fail
   go_region_with (fail)
   all_goals
    go_wp2_with fail;exact bodyPost_ret (v:=J #[Z a1 n1 c1,I O ct1.1,I O ct1.2,Z an nn cn]) (by simp[results,results58,go_sem,Q0.out,Q1.out,Q2.out,Q3.out]) rfl ⟨_,ct1,_,ns,rfl,HV.out,HX.out,HR.out,HL.out⟩
  ·rw[if_neg he,show(Sp.bad 2 l1:Except (Nat × Nat) (List A.T))=.error (2,l1.length) from rfl]
   have hk:¬ aC l1=1:=fun h=>he (ug.1 h)
   go_enter func58,ntmps58;go_wp2_with fail;refine hc.mono ?_;rintro e w1⟨v,rfl,ct1,hv,h1,x1⟩;have c2:=h1.c2;have n1:¬ (((aC l1:Nat):Int)=1):=by omega
   have b1:(((aC l1:Nat):Int) == 1)=false:=by simpa using n1
   clear hv hk;generalize aC l1=kd at c2 n1 b1;go_wp2_with fail;refine(dZ h1 2).mono ?_;rintro e w2⟨rfl,rfl⟩;go_wp2_with fail;exact⟨rfl,bC.ahead (uS.trans x1) (gp h1 2 2 rfl)⟩
def kj(w:Wd)(B:Nat)(v:Value)(er:Nat × Nat):Prop :=
 (v=σ 26 (I O 1)/\er=(1,0))∨∃N,B<=N/\v=σ 90 (ρ (Y ⟨N,0,M⟩))/\w.heap[N]?=Y (L #[I O er.2,I O er.1] 96)
theorem makes(fn:Fn)(first cap:Array Value)(w:Wd):(Instr.makeFunc fn first cap).run prog w=.ok (.func fn first cap) w:=rfl
theorem Ay(s:ByteArray)(w:Wd)(hs:400<s.size) :
  Calls prog 36 #[χ s] w fun e w'=>e=υ (φ #[J #[Z M 0 0,I O 0,I O 0,Z M 0 0],σ 26 (I O 1)])/\ω w w':=by
 have hmf:=makes
 go_enter_defers func36,ntmps36
 go_wp2_with fail;simp[bodyPostD,Leaves,results,results36,go_sem];exact((Below.refl _ _).alloc (Nat.le_refl _) _).alloc (by simp) _
def ui(s:ByteArray)(m1 m2:Nat)(l:Sp.Bs):Obj :=
 L #[χ s,I O ((s.size - l.length:Nat):Int),I O (aC l),χ ⟨(Sp.tok l).toArray⟩,I O 0,I O 0,I O 0,Z M 0 0,.map (Y m1),.map (Y m2)] 147
theorem O8(l:Sp.Bs)(hl:l=Sp.skip s.data.toList)(hL:Laid wa)(hs:s.size<=400)(ho:jt wa.heap.size wb)(Kv:ω wa wb)(hr:gL wb.heap.size wc)(BJ:ω wb wc) :
  Rd wc.heap.size s wa.heap.size wb.heap.size l 0 (0,0) (wc.alloc (ui s wa.heap.size wb.heap.size l)) /\
  Env wc.heap.size wa.heap.size wb.heap.size (wc.alloc (ui s wa.heap.size wb.heap.size l)) /\
  ω wa (wc.alloc (ui s wa.heap.size wb.heap.size l))/\wa.heap.size<wc.heap.size:=by
 have h9:=hL.size;have aaN:wa.heap.size<wb.heap.size:=by obtain⟨es,ck,hh,_⟩:=ho;exact ad hh
 have DX:wb.heap.size<wc.heap.size:=by obtain⟨es,ck,hh,_⟩:=hr;exact ad hh
 have b3:ω wa wc:=Kv.trans (BJ.mono (by omega));have b4:=b3.alloc (by omega) (ui s wa.heap.size wb.heap.size l);refine⟨⟨Z M 0 0,[],⟨heap_alloc_new _ _,by rw[hl];exact ly _,hs,World.ownsRow_nil _ _ _ _⟩,by rw[hl];exact .nil⟩,⟨hL.below b4 (by omega),?_,?_,by omega,by omega,by omega⟩,b4,by omega⟩
 ·have x:Ext wc.heap.size wb (wc.alloc (ui s wa.heap.size wb.heap.size l)):=(Ext.aB BJ).alloc _
  exact ho.ext x (by omega)
 ·have x:Ext wc.heap.size wc (wc.alloc (ui s wa.heap.size wb.heap.size l)):=(Ext.refl _ _).alloc _
  exact hr.ext x (by omega)
theorem OL{e:TypeId}(h:w.ownsRow base e sz v n vs)(hb:QT<=base):w.ownsRow QT e sz v n vs:=by
 obtain⟨h1,h2⟩:=h;refine⟨h1,?_⟩
 rcases h2 with h2 | ⟨g,cap,cur,e,hg,r⟩
 ·exact .inl h2
 ·exact .inr ⟨g,cap,cur,e,Nat.le_trans hb hg,r⟩
theorem lu{ob:Obj}(h:Below B w w')(hk:k<B)(hb:w.heap[k]?=Y ob):w'.heap[k]?=Y ob:=by rw[h.block k hk];exact hb
def iw{Rp:mR A}(Rt:jY A Rp)(s:ByteArray)(w:Wd):Except (Nat × Nat) (List A.T)->Ending->Wd->Prop
 | .ok xs,e,w'=>∃v aX nv ns,e=υ (φ #[J #[v,I O aX.1,I O aX.2,nv],.nilIface])/\ng Rt.T (0,0) w.heap.size w'.heap.size w' v xs aX/\ω w w'/\w'.ownsRow w.heap.size 226 1 nv ns.length (iW ns)/\qD (Sp.skip s.data.toList) [] ns
 | .error er,e,w'=>∃v,e=υ (φ #[J #[Z M 0 0,I O 0,I O 0,Z M 0 0],v])/\kj w' w.heap.size v er/\ω w w'
theorem iw.Zs{Rp:mR A}{Rt:jY A Rp}{r:Except (Nat × Nat) (List A.T)}{xs:List A.T}{aX:Int × Int}{ns:List Nat}(hr:r=.ok xs)(h:ng Rt.T (0,0) w.heap.size w'.heap.size w' v xs aX)(hb:ω w w')(hn:w'.ownsRow w.heap.size 226 1 nv ns.length (iW ns)/\qD (Sp.skip s.data.toList) [] ns):iw Rt s w r (υ (φ #[J #[v,I O aX.1,I O aX.2,nv],.nilIface])) w':=by rw[hr];exact⟨v,aX,nv,ns,rfl,h,hb,hn⟩
theorem iw.bad{Rp:mR A}{Rt:jY A Rp}{r:Except (Nat × Nat) (List A.T)}{er:Nat × Nat}(hr:r=.error er)(h:kj w' w.heap.size v er)(hb:ω w w'):iw Rt s w r (υ (φ #[J #[Z M 0 0,I O 0,I O 0,Z M 0 0],v])) w':=by rw[hr];exact⟨v,rfl,h,hb⟩
theorem yt{Rp:mR A}(Rt:jY A Rp)(s:ByteArray)(w:Wd)(hs:s.size<=400)(hL:Laid w) :
  Calls prog 36 #[χ s] w (iw Rt s w (Sp.parse A s.data.toList)):=by
 have hmf:=makes;have h9:=hL.size;have df:¬ (400:Int)<(s.size:Int):=by omega
 have OG:ω w ((w.alloc (L #[Z M 0 0,I O 0,I O 0,Z M 0 0] 86)).alloc (L #[.nilIface] 23)):=((Below.refl _ _).alloc (Nat.le_refl _) _).alloc (by simp) _;have z0:((w.alloc (L #[Z M 0 0,I O 0,I O 0,Z M 0 0] 86)).alloc (L #[.nilIface] 23)).heap[w.heap.size]?=Y (L #[Z M 0 0,I O 0,I O 0,Z M 0 0] 86):=heap_alloc_old (heap_alloc_new _ _);have z1:((w.alloc (L #[Z M 0 0,I O 0,I O 0,Z M 0 0] 86)).alloc (L #[.nilIface] 23)).heap[w.heap.size+1]?=Y (L #[.nilIface] 23):=by have:=heap_alloc_new (w.alloc (L #[Z M 0 0,I O 0,I O 0,Z M 0 0] 86)) (L #[.nilIface] 23);simpa using this
 have hsc:Calls prog 55 #[χ s,I O 0] ((w.alloc (L #[Z M 0 0,I O 0,I O 0,Z M 0 0] 86)).alloc (L #[.nilIface] 23)) fun e w'=>e=υ (J (mP s (Sp.skip s.data.toList)))/\Below ((w.alloc (L #[Z M 0 0,I O 0,I O 0,Z M 0 0] 86)).alloc (L #[.nilIface] 23)).heap.size ((w.alloc (L #[Z M 0 0,I O 0,I O 0,Z M 0 0] 86)).alloc (L #[.nilIface] 23)) w' :=
  vP s 0 _ (Nat.zero_le _) hs
 have XW:((w.alloc (L #[Z M 0 0,I O 0,I O 0,Z M 0 0] 86)).alloc (L #[.nilIface] 23)).heap.size=w.heap.size+2:=by simp
 have Z0:=hid z0;have Z1:=hid z1;have uV:=hid XW;clear z0 z1 XW
 go_enter_defers func36,ntmps36
 go_wp2_with fail;generalize (w.alloc (L #[Z M 0 0,I O 0,I O 0,Z M 0 0] 86)).alloc (L #[.nilIface] 23)=w2 at *;refine hsc.mono ?_;rintro e wa⟨rfl,ba⟩;rw[zA];have YG:Laid wa:=hL.below (OG.trans (ba.mono (by rw[uV.out];omega))) h9;go_wp2_with fail;refine(IY wa YG).mono ?_;rintro e wb⟨rfl,hob,bb⟩;have hLb:Laid wb:=YG.below bb (by have:=YG.size;omega);go_wp2_with fail;refine(EP wb hLb).mono ?_;rintro e wc⟨rfl,hrc,bc⟩;obtain⟨h5,hE5,b5,aaE⟩:=O8 (Sp.skip s.data.toList) rfl YG hs hob bb hrc bc;have hpr:=yq Rt wc.heap.size s wa.heap.size wb.heap.size (Sp.skip s.data.toList) (0,0) _ h5 hE5;have uT:w.heap.size+2<=wa.heap.size:=by have:=ba.size;rw[uV.out]at this;exact this
 have b25:Below (w.heap.size+2) w2 (wc.alloc (ui s wa.heap.size wb.heap.size (Sp.skip s.data.toList))):=(ba.mono (by rw[uV.out];omega)).trans (b5.mono uT);clear h5 hE5 hob hrc hsc;generalize hO:ui s wa.heap.size wb.heap.size (Sp.skip s.data.toList)=ob at *;have HO:=hid hO;clear hO;go_wp2_with fail;rw[show Obj.cells #[χ s,I O ((s.size - (Sp.skip s.data.toList).length:Nat):Int),I O (aC (Sp.skip s.data.toList)),χ ⟨(Sp.tok (Sp.skip s.data.toList)).toArray⟩,I O 0,I O 0,I O 0,Z M 0 0,.map (Y wa.heap.size),.map (Y wb.heap.size)] 147=ob from HO.out];refine hpr.mono ?_;intro e w6 hp;clear hpr;cases hr:pO A (Sp.skip s.data.toList) with
 | error er =>
  rw[hr]at hp;obtain⟨N,rfl,hN,x6,Uw,hNs⟩:=hp;have b6:Below (w.heap.size+2) w2 w6:=b25.trans (x6.below (by omega) (by simp;omega));have y0:=lu b6 (by omega) Z0.out;have y1:=lu b6 (by omega) Z1.out;refine leaves_cons (f:=54) (args:=#[ρ (Y ⟨w.heap.size,0,M⟩),ρ (Y ⟨w.heap.size+1,0,M⟩)]) (by simp) (by simp[go_sem]) ?_;refine(uL w.heap.size (w.heap.size+1) ⟨N,0,M⟩ w6 _ _ _ _ _ (cell_of y0 0 rfl) (cell_of y0 1 rfl) (cell_of y0 2 rfl) (cell_of y0 3 rfl) (aw y0 0) (aw y0 1) (aw y0 2) (aw y0 3) (cell_of y1 0 rfl) (aw y1 0) (by omega)).mono ?_;rintro e u' w7⟨rfl,rfl,rfl⟩;have v0:=ah (ah (ah (ah y0 0 (Z M 0 0)) 1 (I O 0)) 2 (I O 0)) 3 (Z M 0 0);have v1:((((w6.setCell ⟨w.heap.size,0,M⟩ (Z M 0 0)).setCell ⟨w.heap.size,1,M⟩ (I O 0)).setCell ⟨w.heap.size,2,M⟩ (I O 0)).setCell ⟨w.heap.size,3,M⟩ (Z M 0 0)).heap[w.heap.size+1]?=Y (L #[.nilIface] 23):=by rw[Below.heap_setCell _ _ _ _ (by show w.heap.size+1≠w.heap.size;omega),Below.heap_setCell _ _ _ _ (by show w.heap.size+1≠w.heap.size;omega),Below.heap_setCell _ _ _ _ (by show w.heap.size+1≠w.heap.size;omega),Below.heap_setCell _ _ _ _ (by show w.heap.size+1≠w.heap.size;omega)];exact y1
  have u1:=ah v1 0 (σ 90 (ρ (Y ⟨N,0,M⟩)));have u0:(((((w6.setCell ⟨w.heap.size,0,M⟩ (Z M 0 0)).setCell ⟨w.heap.size,1,M⟩ (I O 0)).setCell ⟨w.heap.size,2,M⟩ (I O 0)).setCell ⟨w.heap.size,3,M⟩ (Z M 0 0)).setCell ⟨w.heap.size+1,0,M⟩ (σ 90 (ρ (Y ⟨N,0,M⟩)))).heap[w.heap.size]?=Y (L #[Z M 0 0,I O 0,I O 0,Z M 0 0] 86):=by rw[Below.heap_setCell _ _ _ _ (by show w.heap.size≠w.heap.size+1;omega)];exact v0
  have uN:(((((w6.setCell ⟨w.heap.size,0,M⟩ (Z M 0 0)).setCell ⟨w.heap.size,1,M⟩ (I O 0)).setCell ⟨w.heap.size,2,M⟩ (I O 0)).setCell ⟨w.heap.size,3,M⟩ (Z M 0 0)).setCell ⟨w.heap.size+1,0,M⟩ (σ 90 (ρ (Y ⟨N,0,M⟩)))).heap[N]?=Y (L #[I O ((s.size - er.2:Nat):Int),I O er.1] 96):=by
   have:w.heap.size+2<=N:=by have h1:=hNs;simp at h1;omega
   rw[Below.heap_setCell _ _ _ _ (by show N≠w.heap.size+1;omega),Below.heap_setCell _ _ _ _ (by show N≠w.heap.size;omega),Below.heap_setCell _ _ _ _ (by show N≠w.heap.size;omega),Below.heap_setCell _ _ _ _ (by show N≠w.heap.size;omega),Below.heap_setCell _ _ _ _ (by show N≠w.heap.size;omega)];exact hN
  have q0:(((((w6.setCell ⟨w.heap.size,0,M⟩ (Z M 0 0)).setCell ⟨w.heap.size,1,M⟩ (I O 0)).setCell ⟨w.heap.size,2,M⟩ (I O 0)).setCell ⟨w.heap.size,3,M⟩ (Z M 0 0)).setCell ⟨w.heap.size+1,0,M⟩ (σ 90 (ρ (Y ⟨N,0,M⟩)))).cell? ⟨w.heap.size,0,M⟩=Y (Z M 0 0):=cell_of u0 0 rfl;have Ym:(((((w6.setCell ⟨w.heap.size,0,M⟩ (Z M 0 0)).setCell ⟨w.heap.size,1,M⟩ (I O 0)).setCell ⟨w.heap.size,2,M⟩ (I O 0)).setCell ⟨w.heap.size,3,M⟩ (Z M 0 0)).setCell ⟨w.heap.size+1,0,M⟩ (σ 90 (ρ (Y ⟨N,0,M⟩)))).cell? ⟨w.heap.size,1,M⟩=Y (I O 0):=cell_of u0 1 rfl;have q2:(((((w6.setCell ⟨w.heap.size,0,M⟩ (Z M 0 0)).setCell ⟨w.heap.size,1,M⟩ (I O 0)).setCell ⟨w.heap.size,2,M⟩ (I O 0)).setCell ⟨w.heap.size,3,M⟩ (Z M 0 0)).setCell ⟨w.heap.size+1,0,M⟩ (σ 90 (ρ (Y ⟨N,0,M⟩)))).cell? ⟨w.heap.size,2,M⟩=Y (I O 0):=cell_of u0 2 rfl;have q3:(((((w6.setCell ⟨w.heap.size,0,M⟩ (Z M 0 0)).setCell ⟨w.heap.size,1,M⟩ (I O 0)).setCell ⟨w.heap.size,2,M⟩ (I O 0)).setCell ⟨w.heap.size,3,M⟩ (Z M 0 0)).setCell ⟨w.heap.size+1,0,M⟩ (σ 90 (ρ (Y ⟨N,0,M⟩)))).cell? ⟨w.heap.size,3,M⟩=Y (Z M 0 0):=cell_of u0 3 rfl;have q1:(((((w6.setCell ⟨w.heap.size,0,M⟩ (Z M 0 0)).setCell ⟨w.heap.size,1,M⟩ (I O 0)).setCell ⟨w.heap.size,2,M⟩ (I O 0)).setCell ⟨w.heap.size,3,M⟩ (Z M 0 0)).setCell ⟨w.heap.size+1,0,M⟩ (σ 90 (ρ (Y ⟨N,0,M⟩)))).cell? ⟨w.heap.size+1,0,M⟩=Y (σ 90 (ρ (Y ⟨N,0,M⟩))):=cell_of u1 0 rfl;have b7:ω w (((((w6.setCell ⟨w.heap.size,0,M⟩ (Z M 0 0)).setCell ⟨w.heap.size,1,M⟩ (I O 0)).setCell ⟨w.heap.size,2,M⟩ (I O 0)).setCell ⟨w.heap.size,3,M⟩ (Z M 0 0)).setCell ⟨w.heap.size+1,0,M⟩ (σ 90 (ρ (Y ⟨N,0,M⟩)))) :=
   (((((OG.trans (b6.mono (by omega))).setCell (p:=⟨w.heap.size,0,M⟩) (Nat.le_refl _) _).setCell (p:=⟨w.heap.size,1,M⟩) (Nat.le_refl _) _).setCell (p:=⟨w.heap.size,2,M⟩) (Nat.le_refl _) _).setCell (p:=⟨w.heap.size,3,M⟩) (Nat.le_refl _) _).setCell (p:=⟨w.heap.size+1,0,M⟩) (Nat.le_succ _) _
  have hNw:w.heap.size<=N:=by have h1:=hNs;simp at h1;omega
  clear u0 u1 v0 v1 hN y0 y1;generalize ((((w6.setCell ⟨w.heap.size,0,M⟩ (Z M 0 0)).setCell ⟨w.heap.size,1,M⟩ (I O 0)).setCell ⟨w.heap.size,2,M⟩ (I O 0)).setCell ⟨w.heap.size,3,M⟩ (Z M 0 0)).setCell ⟨w.heap.size+1,0,M⟩ (σ 90 (ρ (Y ⟨N,0,M⟩)))=W at *;have aS:Sp.parse A s.data.toList=.error (er.1,s.size - er.2):=by unfold Sp.parse;rw[if_neg (by simp;omega),hr];simp
  simp[Leaves,settle,results,results36,go_sem,q0,Ym,q2,q3,q1];exact iw.bad aS (.inr ⟨N,hNw,rfl,uN⟩) b7
 | ok xs =>
  rw[hr]at hp;obtain⟨v,oB,nvv,ns6,rfl,hv,x6,nM,Ig⟩:=hp;obtain⟨av,nv,cv,rfl⟩:=eM hv;obtain⟨ax,nx,cx,rfl⟩:=mQ nM;have b6:Below (w.heap.size+2) w2 w6:=b25.trans (x6.below (by omega) (by simp;omega));have y0:=lu b6 (by omega) Z0.out;have y1:=lu b6 (by omega) Z1.out;have k0:=cell_of y0 0 (v:=Z M 0 0) rfl;have f0:=aw y0 0;have k0':=cell_of y0 1 (v:=I O 0) rfl;have f0':=aw y0 1;have k2:=cell_of y0 2 (v:=I O 0) rfl;have f2:=aw y0 2;have k3:=cell_of y0 3 (v:=Z M 0 0) rfl;have f3:=aw y0 3;have v0:=ah (ah (ah (ah y0 0 (Z av nv cv)) 1 (I O oB.1)) 2 (I O oB.2)) 3 (Z ax nx cx);have v1:((((w6.setCell ⟨w.heap.size,0,M⟩ (Z av nv cv)).setCell ⟨w.heap.size,1,M⟩ (I O oB.1)).setCell ⟨w.heap.size,2,M⟩ (I O oB.2)).setCell ⟨w.heap.size,3,M⟩ (Z ax nx cx)).heap[w.heap.size+1]?=Y (L #[.nilIface] 23):=by rw[Below.heap_setCell _ _ _ _ (by show w.heap.size+1≠w.heap.size;omega),Below.heap_setCell _ _ _ _ (by show w.heap.size+1≠w.heap.size;omega),Below.heap_setCell _ _ _ _ (by show w.heap.size+1≠w.heap.size;omega),Below.heap_setCell _ _ _ _ (by show w.heap.size+1≠w.heap.size;omega)];exact y1
  have k1:=cell_of v1 0 (v:=.nilIface) rfl;have f1:=aw v1 0;have u1:=ah v1 0 .nilIface;have u0:(((((w6.setCell ⟨w.heap.size,0,M⟩ (Z av nv cv)).setCell ⟨w.heap.size,1,M⟩ (I O oB.1)).setCell ⟨w.heap.size,2,M⟩ (I O oB.2)).setCell ⟨w.heap.size,3,M⟩ (Z ax nx cx)).setCell ⟨w.heap.size+1,0,M⟩ .nilIface).heap[w.heap.size]?=Y (L #[Z av nv cv,I O oB.1,I O oB.2,Z ax nx cx] 86):=by rw[Below.heap_setCell _ _ _ _ (by show w.heap.size≠w.heap.size+1;omega)];exact v0
  have q0:(((((w6.setCell ⟨w.heap.size,0,M⟩ (Z av nv cv)).setCell ⟨w.heap.size,1,M⟩ (I O oB.1)).setCell ⟨w.heap.size,2,M⟩ (I O oB.2)).setCell ⟨w.heap.size,3,M⟩ (Z ax nx cx)).setCell ⟨w.heap.size+1,0,M⟩ .nilIface).cell? ⟨w.heap.size,0,M⟩=Y (Z av nv cv):=cell_of u0 0 rfl;have Ym:(((((w6.setCell ⟨w.heap.size,0,M⟩ (Z av nv cv)).setCell ⟨w.heap.size,1,M⟩ (I O oB.1)).setCell ⟨w.heap.size,2,M⟩ (I O oB.2)).setCell ⟨w.heap.size,3,M⟩ (Z ax nx cx)).setCell ⟨w.heap.size+1,0,M⟩ .nilIface).cell? ⟨w.heap.size,1,M⟩=Y (I O oB.1):=cell_of u0 1 rfl;have q2:(((((w6.setCell ⟨w.heap.size,0,M⟩ (Z av nv cv)).setCell ⟨w.heap.size,1,M⟩ (I O oB.1)).setCell ⟨w.heap.size,2,M⟩ (I O oB.2)).setCell ⟨w.heap.size,3,M⟩ (Z ax nx cx)).setCell ⟨w.heap.size+1,0,M⟩ .nilIface).cell? ⟨w.heap.size,2,M⟩=Y (I O oB.2):=cell_of u0 2 rfl;have q3:(((((w6.setCell ⟨w.heap.size,0,M⟩ (Z av nv cv)).setCell ⟨w.heap.size,1,M⟩ (I O oB.1)).setCell ⟨w.heap.size,2,M⟩ (I O oB.2)).setCell ⟨w.heap.size,3,M⟩ (Z ax nx cx)).setCell ⟨w.heap.size+1,0,M⟩ .nilIface).cell? ⟨w.heap.size,3,M⟩=Y (Z ax nx cx):=cell_of u0 3 rfl;have q1:(((((w6.setCell ⟨w.heap.size,0,M⟩ (Z av nv cv)).setCell ⟨w.heap.size,1,M⟩ (I O oB.1)).setCell ⟨w.heap.size,2,M⟩ (I O oB.2)).setCell ⟨w.heap.size,3,M⟩ (Z ax nx cx)).setCell ⟨w.heap.size+1,0,M⟩ .nilIface).cell? ⟨w.heap.size+1,0,M⟩=Y .nilIface:=cell_of u1 0 rfl;have b7:ω w (((((w6.setCell ⟨w.heap.size,0,M⟩ (Z av nv cv)).setCell ⟨w.heap.size,1,M⟩ (I O oB.1)).setCell ⟨w.heap.size,2,M⟩ (I O oB.2)).setCell ⟨w.heap.size,3,M⟩ (Z ax nx cx)).setCell ⟨w.heap.size+1,0,M⟩ .nilIface) :=
   (((((OG.trans (b6.mono (by omega))).setCell (p:=⟨w.heap.size,0,M⟩) (Nat.le_refl _) _).setCell (p:=⟨w.heap.size,1,M⟩) (Nat.le_refl _) _).setCell (p:=⟨w.heap.size,2,M⟩) (Nat.le_refl _) _).setCell (p:=⟨w.heap.size,3,M⟩) (Nat.le_refl _) _).setCell (p:=⟨w.heap.size+1,0,M⟩) (Nat.le_succ _) _
  have HB:ng Rt.T (0,0) w.heap.size (((((w6.setCell ⟨w.heap.size,0,M⟩ (Z av nv cv)).setCell ⟨w.heap.size,1,M⟩ (I O oB.1)).setCell ⟨w.heap.size,2,M⟩ (I O oB.2)).setCell ⟨w.heap.size,3,M⟩ (Z ax nx cx)).setCell ⟨w.heap.size+1,0,M⟩ .nilIface).heap.size (((((w6.setCell ⟨w.heap.size,0,M⟩ (Z av nv cv)).setCell ⟨w.heap.size,1,M⟩ (I O oB.1)).setCell ⟨w.heap.size,2,M⟩ (I O oB.2)).setCell ⟨w.heap.size,3,M⟩ (Z ax nx cx)).setCell ⟨w.heap.size+1,0,M⟩ .nilIface) (Z av nv cv) xs oB :=
   ng.mono Rt hv (by simp;omega) (by simp[World.setCell]) ((((((eu.refl _ _ _).setCell (p:=⟨w.heap.size,0,M⟩) (.inl (by show w.heap.size<(wc.alloc ob).heap.size;simp;omega)) _).setCell (p:=⟨w.heap.size,1,M⟩) (.inl (by show w.heap.size<(wc.alloc ob).heap.size;simp;omega)) _).setCell (p:=⟨w.heap.size,2,M⟩) (.inl (by show w.heap.size<(wc.alloc ob).heap.size;simp;omega)) _).setCell (p:=⟨w.heap.size,3,M⟩) (.inl (by show w.heap.size<(wc.alloc ob).heap.size;simp;omega)) _).setCell (p:=⟨w.heap.size+1,0,M⟩) (.inl (by show w.heap.size+1<(wc.alloc ob).heap.size;simp;omega)) _)
  have XC:∀k,om w6.heap[k]?->k≠w.heap.size/\k≠w.heap.size+1:=fun k hk=>by
   constructor
   ·intro e;rw[e,y0]at hk;exact eW (by decide) hk
   ·intro e;rw[e,y1]at hk;exact eW (by decide) hk
  have HN:Hid ((((((w6.setCell ⟨w.heap.size,0,M⟩ (Z av nv cv)).setCell ⟨w.heap.size,1,M⟩ (I O oB.1)).setCell ⟨w.heap.size,2,M⟩ (I O oB.2)).setCell ⟨w.heap.size,3,M⟩ (Z ax nx cx)).setCell ⟨w.heap.size+1,0,M⟩ .nilIface).ownsRow w.heap.size 226 1 (Z ax nx cx) ns6.length (iW ns6)/\qD (Sp.skip s.data.toList) [] ns6):=by refine⟨OL (mi nM (fun k _ _ ZY=>?_)) (by omega),Ig⟩;obtain⟨h1,h2⟩:=XC k ZY;rw[Below.heap_setCell _ _ _ _ h2,Below.heap_setCell _ _ _ _ h1,Below.heap_setCell _ _ _ _ h1,Below.heap_setCell _ _ _ _ h1,Below.heap_setCell _ _ _ _ h1]
  have Q0:=hid q0;have Q0':Hid (_=_):=Ym;have Q2:=hid q2;have Q3:=hid q3;have Q1:=hid q1;have HB':Hid (ng Rt.T (0,0) w.heap.size (((((w6.setCell ⟨w.heap.size,0,M⟩ (Z av nv cv)).setCell ⟨w.heap.size,1,M⟩ (I O oB.1)).setCell ⟨w.heap.size,2,M⟩ (I O oB.2)).setCell ⟨w.heap.size,3,M⟩ (Z ax nx cx)).setCell ⟨w.heap.size+1,0,M⟩ .nilIface).heap.size (((((w6.setCell ⟨w.heap.size,0,M⟩ (Z av nv cv)).setCell ⟨w.heap.size,1,M⟩ (I O oB.1)).setCell ⟨w.heap.size,2,M⟩ (I O oB.2)).setCell ⟨w.heap.size,3,M⟩ (Z ax nx cx)).setCell ⟨w.heap.size+1,0,M⟩ .nilIface) (Z av nv cv) xs oB):=HB;have HR:=hid hr;clear q0 Ym q1 q2 q3 u0 u1 v0 v1 hv HB hr y0 y1 XC nM Ig;go_wp2_with fail;refine leaves_cons (f:=54) (args:=#[ρ (Y ⟨w.heap.size,0,M⟩),ρ (Y ⟨w.heap.size+1,0,M⟩)]) (by simp) (by simp[go_sem]) ?_;refine(ED ⟨w.heap.size,0,M⟩ ⟨w.heap.size+1,0,M⟩ _).mono ?_;rintro e u' w7⟨rfl,rfl,rfl⟩;clear k0 k0' k1 k2 k3 f0 f0' f1 f2 f3;generalize ((((w6.setCell ⟨w.heap.size,0,M⟩ (Z av nv cv)).setCell ⟨w.heap.size,1,M⟩ (I O oB.1)).setCell ⟨w.heap.size,2,M⟩ (I O oB.2)).setCell ⟨w.heap.size,3,M⟩ (Z ax nx cx)).setCell ⟨w.heap.size+1,0,M⟩ .nilIface=W at *;have aS:Sp.parse A s.data.toList=.ok xs:=by unfold Sp.parse;rw[if_neg (by simp;omega),HR.out]
  simp[Leaves,settle,results,results36,go_sem,Q0.out,Q0'.out,Q2.out,Q3.out,Q1.out];exact iw.Zs aS HB'.out b7 HN.out
theorem lK{Rp:mR A}(Rt:jY A Rp)(s:ByteArray)(w:Wd)(hs:s.size<=1048576)(hL:Laid w) :
  Calls prog 36 #[χ s] w (iw Rt s w (Sp.parse A s.data.toList)):=by
 by_cases h:s.size<=400
 ·exact yt Rt s w h hL
 ·refine(Ay s w (by omega)).mono ?_
  rintro e w'⟨rfl,hb⟩;have aS:Sp.parse A s.data.toList=.error (1,0):=by unfold Sp.parse;rw[if_pos (by simp;omega)]
  exact iw.bad aS (.inl ⟨rfl,rfl⟩) hb
end
end Go.Proofs.YtiopfihjmkfdmaaGreatDoor
