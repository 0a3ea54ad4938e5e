import Derived.Test.YtiopfihjmkfdmabGreatDoorC34
namespace Go.Proofs.YtiopfihjmkfdmabGreatDoor
open Go.Value renaming int->I,pointer->ρ,string->χ,bool->U,slice->Z,tuple->φ
open Go.IntKind renaming i64->O
open Option renaming none->M,some->Y
open Go.Ending renaming returned->υ
open Go.Obj renaming cells->L
open Go.Proofs.Tryz Sp
open Go.RowKit
set_option maxRecDepth 100000
set_option maxHeartbeats 16000000
section
theorem Ah(base b pb:Nat)(s:ByteArray)(o:Nat)(ho:o<=12)(l:Sp.Bs)(p:FP)(w:Wd)(h:FR base b pb s l (o:Int) p w)(hlim:fu p l)(hv:aS l≠M) :
  Calls prog 91 #[ρ (Y ⟨b,0,M⟩)] w (oB base b pb s o p l w (cC Tr o l)):=by
 obtain⟨c6,c3,ea,xP⟩:=h.asks;have c4:=cell_of h.aV 4 (v:=ρ (Y ⟨pb,0,M⟩)) rfl;have d2:=cell_of h.prog.aV 2 (v:=I O p.ct.1) rfl;have HV:=hid hv;have jX:Hid (∀l2,(left (dN l)).bind (Sp.take [61])=.ok l2->l2.length<l.length):=by
  intro l2 e;cases hq:aS l with
  |none=>exact absurd hq hv
  |some kk=>have h1:(Sp.next l).length<l.length:=gl (dj (.inl (fL hq)));rw[jC hq]at e;have e':Sp.take [61] (Sp.next l)=.ok l2:=e;obtain⟨_,h2⟩:=cd e';have:=cr (Sp.next l);rw[h2];omega
 obtain⟨t,HT,n1,n2,n3,n4⟩:∃t:ByteArray,Hid (t=⟨(Sp.tok l).toArray⟩)/\(t.toList==[114,101,97,100])=false/\(t.toList==[97,115,115,101,114,116])=false/\(t.toList==[105,102])=false/\(t.toList==[119,104,105,108,101])=false:=by
  cases hq:aS l with
  |none=>exact absurd hq hv
  |some kk=>obtain⟨c,ht,_⟩:=dY hq;refine⟨⟨(Sp.tok l).toArray⟩,gj _,?_,?_,?_,?_⟩<;>(rw[ByteArray.toList_eq];simp[ht])
 have nO:p.ns.length+1<=1000000:=by have:=hlim.1;omega
 clear ea hv;go_enter func91,ntmps91;go_wp2_with fail;refine(eU (r:=.ok l) h {aA:=p.ct.1,next:=-1,c:=-1} nO).mono ?_;rintro e w1⟨rfl,v,h1,k1⟩;have o8:FR base b pb s l (o:Int) _ w1:=h1;have c4:=cell_of o8.aV 4 (v:=ρ (Y ⟨pb,0,M⟩)) rfl;have d2:=cell_of o8.prog.aV 2 (v:=I O p.ct.1) rfl;have f2:=ay o8.prog.aV 2;go_wp2_with fail
 go_cut [] from 6 (λwc=>wc=(w1.setCell ⟨pb,2,M⟩ (I O (RowKit.wrap64 (p.ct.1+1)))).drew)
 case first=>
  go_region_with (fail)
  all_goals
   go_wp2_with fail;go_meet;rw[IntWalk.i64_left]
 case rest=>
  obtain⟨jW,gN⟩:=FX.jU (r:=.ok l) (p':={p with ns:=p.ns++[{aA:=p.ct.1,next:=-1,c:=-1}],nv:=v,ct:=Sp.aD p.ct}) h1 2 (I O (RowKit.wrap64 (p.ct.1+1))) (mX h1.prog.aV _) rfl rfl rfl rfl;obtain⟨p1,tV,hp1q,hp1c,hx,hk⟩:∃p1:FP,Hid (p1.ns=p.ns++[{aA:=p.ct.1,next:=-1,c:=-1}])/\Hid (p1.qs=p.qs)/\p1.ct=Sp.aD p.ct/\FX base b pb s (.ok l) (o:Int) p1 wc/\FK b pb p p1 w wc:=⟨{p with ns:=p.ns++[{aA:=p.ct.1,next:=-1,c:=-1}],nv:=v,ct:=Sp.aD p.ct},gj _,gj _,rfl,by rw[hcut];exact jW.drew,by rw[hcut];exact k1.trans gN.drew⟩;clear hcut jW gN h1 k1 o8 c4 d2 f2 c3 c6;have fg:FR base b pb s l (o:Int) _ wc:=hx;have c4:=cell_of fg.aV 4 (v:=ρ (Y ⟨pb,0,M⟩)) rfl;have d2:=cell_of fg.prog.aV 2 (v:=I O (RowKit.wrap64 (p.ct.1+1))) (by rw[show(RowKit.wrap64 (p.ct.1+1))=p1.ct.1 by rw[hp1c];rfl];rfl);have c3:=cell_of fg.aV 3 (v:=χ ⟨(Sp.tok l).toArray⟩) rfl;rw[<-HT.out]at c3;have qX:RowKit.wrap64 (RowKit.wrap64 (p.ct.1+1)-1)=p.ct.1:=by obtain⟨_,_,a1,a2⟩:=hlim;unfold RowKit.wrap64;omega
  have zX:b<wc.heap.size:=ah fg.aV;have Te:pb<wc.heap.size:=ah fg.prog.aV;have Dn:=hid hp1c;have ri:Hid (∀l1:Sp.Bs,l1.length<l.length->fu p1 l1):=λl1 xS=>qP hlim tV.out hp1q.out (by rw[hp1c];exact fW _) xS
  have M0:Hid (iI base b pb wc.heap.size s _ _ _ _ _ _ _):=iI.start {kind:=6,c:=-1,next:=-1,aA:=p.ct.1} hx hk;clear hx hk hp1c hlim;go_wp2_with fail;refine(Fx (FR.AO M0.fx)).mono ?_;rintro e w3⟨k,rfl,h3,k3,Q7⟩;have HN3:=hid Q7;clear Q7;have M2:=M0.call h3 k3;obtain⟨e4,f4⟩:=M2.box.cell 4 rfl;have M3:=hid (M2.set 4 (I O k) (n':={kind:=6,c:=-1,next:=-1,aA:=p.ct.1,n:=k}) rfl);clear M2 M0 h3 k3;go_wp2_with fail;refine(tF M3.fx [61]).mono ?_;rintro e w4⟨rfl,h4,k4⟩;have M4:=hid (M3.call h4 k4);clear M3 h4 k4;go_wp2_with fail;refine(zw (o:=o) (n:=l.length) (u:=Sp.pS Tr o) (λl1 e1=>⟨λl p w _ h hl=>xY ho h hl,jX.out l1 e1,ri.out l1 (jX.out l1 e1)⟩) (E5 base b pb s) M4.fx).mono ?_;rintro e w5⟨ka,p3,rfl,h5,k5,g5,e5⟩;have G5:=hid (And.intro g5 e5);have HD:Hid (p3.ns[p.ns.length]?=Y {aA:=p.ct.1,next:=-1,c:=-1}):=mT tV.out (zm (λl1 e1=>YE (g5 l1 e1)) e5);have M5:=M4.call h5 k5;obtain⟨e1,f1⟩:=M5.box.cell 1 rfl;have M6:=hid (M5.set 1 (I O ka) (n':={kind:=6,c:=-1,next:=-1,aA:=p.ct.1,n:=k,a:=ka}) rfl);clear M5 M4 h5 k5 g5 e5;go_wp2_with fail;refine(tF M6.fx [59]).mono ?_;rintro e w4⟨rfl,h4,k4⟩;have M4:=M6.call h4 k4;obtain⟨g,cap,hv,nH,hmax,lX,hj,a4,a0,⟨n0,n1,n2,n3,n4,n5,n6,n7,n8,n9⟩,⟨r0,r1,r2,r3,r4,r5,r6,r7,r8,r9⟩,q0,q1,q2,q3,q4,q5,q6,q7,q8,q9⟩:=M4.facts (j:=p.ns.length) (d:={aA:=p.ct.1,next:=-1,c:=-1}) HD.out;have M5:=hid M4;clear M6 M4 h4 k4;go_wp2_with fail
  go_cut [] from 6 (λwc=>wc=(tP w4 g (p.ns.length*10) {kind:=6,c:=-1,next:=-1,aA:=p.ct.1,n:=k,a:=ka}).drew)
  case first=>
   clear M5 HT HD G5 ri HN3 jX HV
   go_region_with (fail)
   all_goals
    go_wp2_with fail;go_meet;exact rfl
  case rest=>
   obtain⟨h6,k6⟩:=lC M5.fx {kind:=6,c:=-1,next:=-1,aA:=p.ct.1,n:=k,a:=ka} hv (j:=p.ns.length) (d:={aA:=p.ct.1,next:=-1,c:=-1}) HD.out;go_wp2_with fail;go_ret;have G6:=GI (n:={kind:=6,c:=-1,next:=-1,aA:=p.ct.1,n:=k,a:=ka}) (k:=k) (ka:=ka) tV.out hp1q.out Dn.out HN3.out HV.out G5.1 G5.2 rfl rfl rfl rfl rfl;rw[hcut];exact mQ (B8 o l) h6.drew (M5.fk.trans k6).drew G6
end
section
section
variable{base b pb o n:Nat}
variable{s:ByteArray}
variable{w:Wd}
theorem wX(base b pb:Nat)(s:ByteArray):A9 56 base b pb s (-1):=by
 intro er p w h;obtain⟨q,t,c6,hz,ff,c3⟩:=h.asks;go_enter func56,ntmps56;go_wp2_with fail
 go_loopw [3,4] (λa c wr=>a=I O (-1)/\c=I O (-1)/\wr=w) (λ_ _ _=>0)
 case atStart=>exact⟨rfl,rfl,rfl⟩
 case round=>
  obtain⟨rfl,rfl,rfl⟩:=hrel;go_wp2_with fail;go_ret;exact⟨rfl,rfl⟩
def Ri(base b pb:Nat)(s:ByteArray)(o:Nat)(p:FP)(l:Sp.Bs)(w:Wd)(st:Sp.Bs->Sp.R (Bl->Bl))(fin:Sp.R (List (Bl->Bl)))(first last:Int)(wr:Wd):Prop:=
 ∃(cur:Sp.R (List (Bl->Bl))) (pc:FP),FX base b pb s (left cur) (o:Int) pc wr/\FK b pb p pc w wr/\Hc p pc l first last cur/\yf st fin cur
theorem qI{fs:List (Bl->Bl)}{r:Sp.R (Bl->Bl)}{o:Int}{p:FP}(h:FX base b pb s (left r) o p w):FX base b pb s (left (oC fs r)) o p w:=by rcases r with e|⟨y,l⟩<;>exact h
theorem mo(base b pb:Nat)(s:ByteArray)(o n:Nat)(st:Sp.Bs->Sp.R (Bl->Bl))(da:∀l f l1,st l=.ok (f,l1)->l1.length<l.length)(hr:oM base b pb s o n st)
  (l:Sp.Bs) (p:FP) (w:Wd) (hl:l.length<n) (h:FR base b pb s l (o:Int) p w) (hlim:fu p l) (m:Nat) (hm:l.length<m):
  Calls prog 56 #[ρ (Y ⟨b,0,M⟩)] w (De base b pb s o p l w (dt Tr st m [] l)):=by
 have HR:=hid hr;have HD:Hid (∀l f l1,st l=.ok (f,l1)->l1.length<l.length):=da;have HC:Hid (Ri base b pb s o p l w st (dt Tr st m [] l) (-1) (-1) w):=⟨.ok ([],l),p,h,FK.refl _ _ _ _,⟨bV.z8 È,⟨[],Ä,λrest=>rfl⟩,.inl ⟨rfl,rfl,rfl,rfl,rfl⟩⟩,⟨m,hm,rfl⟩⟩;clear hr da h;go_enter func56,ntmps56;go_wp2_with fail
 go_loopw [3,4] (λa c wr=>∃fi la:Int,a=I O fi/\c=I O la/\Hid (Ri base b pb s o p l w st (dt Tr st m [] l) fi la wr)) (λ_ _ wr=>oX b s wr)
 case atStart=>exact⟨-1,-1,rfl,rfl,HC⟩
 case round=>
  obtain⟨fi,la,rfl,rfl,nK⟩:=hrel;obtain⟨cur,pc,hx,hk,hg,wM⟩:=nK.out
  rcases cur with er|⟨fs,lc⟩
  .obtain⟨q,t,c6,hz,ff,c3⟩:=FE.asks (show FE base b pb s er pc wr from hx)
   have HF:Hid (De base b pb s o p l w (dt Tr st m [] l) (υ (I O fi)) wr):=by unfold Hid;rw[show dt Tr st m [] l=.error er from wM];exact⟨fi,pc,rfl,hx,hk,D2 hg⟩
   clear hx hk hg wM nK HC;go_wp2_with fail;go_ret;exact HF.out
  .have fg:FR base b pb s lc (o:Int) pc wr:=hx
   obtain⟨c6,c3,ea,xP⟩:=fg.asks;have HN:Hid (∀w,Calls prog 90 #[χ ⟨(Sp.tok lc).toArray⟩] w λe w'=>e=υ (U (cU lc))/\w'=w):=Av lc xP;cases Xq:cU lc with
   |false=>
    have HF:Hid (De base b pb s o p l w (dt Tr st m [] l) (υ (I O fi)) wr):=by unfold Hid;rw[Fv wM Xq];exact⟨fi,pc,rfl,hx,hk,D2 hg⟩
    rw[Xq]at HN;generalize (⟨(Sp.tok lc).toArray⟩:ByteArray)=t at*;clear hx hk hg wM nK HC fg Xq;go_wp2_with fail;refine(HN.out _).mono ?_;rintro e w1⟨rfl,rfl⟩;go_wp2_with fail;go_ret;exact HF.out
   |true=>
    rw[Xq]at HN;have hlc:lc.length<=l.length:=by have:=hg.1.nl;have:=hg.1.len;omega
    have HL:Hid (fu pc lc):=hg.1.Gf hlim;have HW:=hid fg.rest;have HG:Hid (Hc p pc l fi la (.ok (fs,lc))/\cU lc=true/\yf st (dt Tr st m [] l) (oC fs (st lc))/\FK b pb p pc w wr):=⟨hg,Xq,Fi wM Xq HD.out,hk⟩;have BR:∀{first last:Int} {p':FP} {w':Wd},FX base b pb s (left (oC fs (st lc))) (o:Int) p' w'->oX b s w'<=lc.length:=λhf=>hf.qu (λfs' l' e=>by
     rcases hs:st lc with er|⟨f,l1⟩
     .rw[hs]at e;cases e
     .rw[hs]at e;cases e;exact HD.out _ _ _ hs)
    have HDR:Hid (∀{p':FP} {w':Wd},FX base b pb s (left (oC fs (st lc))) (o:Int) p' w'->oX b s w'<=lc.length):=λhf=>BR (first:=0) (last:=0) hf
    generalize (⟨(Sp.tok lc).toArray⟩:ByteArray)=t at*;clear hx hk hg wM nK HC Xq BR;by_cases hfi:fi<0
    .go_wp2_with fail
     refine(HN.out _).mono ?_;rintro e w1⟨rfl,rfl⟩;go_wp2_with fail;refine(HR.out lc pc _ À fg HL.out HG.2.1).mono ?_;rintro e w2⟨p',rfl,h2,k2,g2⟩;have xx:Hid (Ri base b pb s o p l w st (dt Tr st m [] l) (pc.ns.length:Nat) (pc.ns.length:Nat) w2/\oX b s w2<=lc.length):=⟨⟨_,p',qI h2,HG.2.2.2.trans k2,Gt HG.1 hfi g2,HG.2.2.1⟩,HDR.out (qI h2)⟩;clear h2 k2 g2;go_wp2_with fail;exact⟨⟨_,_,rfl,rfl,xx.1⟩,by rw[HW.out];have:=xx.2;omega⟩
    .obtain⟨j,hj,dZ⟩:∃j:Nat,la=(j:Int)/\j<pc.ns.length:=by
      obtain⟨_,_,hc⟩:=HG.1
      rcases hc with⟨_,h1,_⟩|⟨_,j,d,e1,_,e2,_⟩
      .omega
      .exact⟨j,e1,e2⟩
     subst hj;go_wp2_with fail;refine(HN.out _).mono ?_;rintro e w1⟨rfl,rfl⟩;go_wp2_with fail;refine(HR.out lc pc _ À fg HL.out HG.2.1).mono ?_;rintro e w2⟨p',rfl,h2,k2,g2⟩;have hlen:pc.ns.length<=p'.ns.length:=by
      rcases hs:st lc with er|⟨f,l1⟩
      .rw[hs]at g2;exact dD.len g2
      .rw[hs]at g2;exact g2.1.len
     have aaV:j<p'.ns.length:=À;obtain⟨dl,Ye⟩:∃dl,p'.ns[j]?=Y dl:=⟨_,Î aaV⟩;obtain⟨g,cap,hv,nH,hmax⟩:=h2.prog.slice À;obtain⟨i',a',t',o',er',Gm⟩:=h2.OS;have d4:=cell_of Gm 4 (v:=ρ (Y ⟨pb,0,M⟩)) rfl;have d0:=cell_of h2.prog.aV 0 (v:=p'.nv) rfl;rw[hv]at d0;obtain⟨e5,f5⟩:=h2.prog.cells (c:=5) (u:=I O dl.next) hv Ye À rfl;obtain⟨h3,k3⟩:=h2.yU (c:=5) (u:=I O (pc.ns.length:Nat)) (d':={dl with next:=(pc.ns.length:Int)}) hv Ye À rfl;have xx:Hid (Ri base b pb s o p l w st (dt Tr st m [] l) fi (pc.ns.length:Nat) (w2.setCell ⟨g,j*10+5,M⟩ (I O (pc.ns.length:Nat)))/\oX b s (w2.setCell ⟨g,j*10+5,M⟩ (I O (pc.ns.length:Nat)))<=lc.length):=⟨⟨_,_,qI h3,(HG.2.2.2.trans k2).trans k3,KE HG.1 À g2 Ye,HG.2.2.1⟩,HDR.out (qI h3)⟩;have h5:p'.ns.length<=1000000:=h2.prog.n5;clear h2 k2 g2 h3 k3 Gm;go_wp2_with fail;exact⟨⟨_,_,rfl,rfl,xx.1⟩,by rw[HW.out];have:=xx.2;omega⟩
theorem Ak{o:Nat}{st:Sp.Bs->Sp.R (Bl->Bl)}(da:∀l f l1,st l=.ok (f,l1)->l1.length<l.length){r:Except (Nat × Nat) Sp.Bs}{p:FP}(hr:∀l,r=.ok l->oM base b pb s o n st/\l.length<n/\fu p l)(h:FX base b pb s r (o:Int) p w) :
  Calls prog 56 #[ρ (Y ⟨b,0,M⟩)] w λe w'=>∃(k:Int) (p':FP),e=υ (I O k)/\FX base b pb s (r.bind λl=>left (dt Tr st (l.length+1) [] l)) (o:Int) p' w'/\FK b pb p p' w w'/\(∀l,r=.ok l->o7 p p' l k (dt Tr st (l.length+1) [] l))/\(∀e,r=.error e->p'=p):=by
 cases r with
 |ok l=>obtain⟨h1,h2,h3⟩:=hr l rfl;refine(mo base b pb s o n st da h1 l p w h2 h h3 (l.length+1) À).mono ?_;rintro e w'⟨k,p',rfl,h1,k1,g1⟩;exact⟨k,p',rfl,h1,k1,λl' hl=>by cases hl;exact g1,λ_ hl=>nomatch hl⟩
 |error e=>refine(wX base b pb s e p w h).mono ?_;rintro e' w'⟨rfl,rfl⟩;exact⟨-1,p,rfl,h,FK.refl _ _ _ _,(λ_ hl=>nomatch hl),λ_ _=>rfl⟩
theorem yH{o:Nat}(ho:o<=12){st:Sp.Bs->Sp.R (Bl->Bl)}(da:∀l f l1,st l=.ok (f,l1)->l1.length<l.length){r:Except (Nat × Nat) Sp.Bs}{p:FP}(hr:o<12->oM base b pb s (o+1) n st)(hl:∀l,r=.ok l->l.length<n+1/\fu p l)(h:FX base b pb s r (o:Int) p w) :
  Calls prog 129 #[ρ (Y ⟨b,0,M⟩)] w λe w'=>∃(k:Int) (p':FP),e=υ (I O k)/\FX base b pb s (r.bind λl=>left (bI Tr st o l)) (o:Int) p' w'/\FK b pb p p' w w'/\(∀l,r=.ok l->o7 p p' l k (bI Tr st o l))/\(∀e,r=.error e->p'=p):=by
 have H:=hid h;have HR:=hid hr;have HD:Hid (∀l f l1,st l=.ok (f,l1)->l1.length<l.length):=da;have HL:Hid (∀l1,r.bind (Sp.enter [123] o)=.ok l1->∃l,r=.ok l/\Sp.enter [123] o l=.ok l1/\l1.length<n/\fu p l1/\l1.length<l.length/\o<12):=by
  intro l1 e
  rcases r with er|l
  .cases e
  .have e':Sp.enter [123] o l=.ok l1:=e
   obtain⟨ht,ud,rfl⟩:=cI e';have:=aJ ht Ä;obtain⟨a1,a2⟩:=hl l rfl;exact⟨l,rfl,e',À,(bV.z8 À).Gf a2,this,À⟩
 clear h hr da hl;go_enter func129,ntmps129;go_wp2_with fail;refine(Rj ho H.out [123]).mono ?_;rintro e w1⟨rfl,h1,k1⟩;go_wp2_with fail;refine(Ak HD.out (n:=n) (λl1 e1=>by obtain⟨l,_,_,a3,a4,_,a6⟩:=HL.out l1 e1;exact⟨HR.out a6,a3,a4⟩) h1).mono ?_;rintro e w2⟨k,p',rfl,h2,k2,g2,e2⟩;have G2:=hid (And.intro g2 e2);clear g2 e2;go_wp2_with fail;refine(JU À h2 [125]).mono ?_;rintro e w3⟨rfl,h3,k3⟩;go_wp2_with fail;go_ret;refine⟨k,p',rfl,?_,(k1.trans k2).trans k3,?_,?_⟩
 .rcases r with er|l
  .exact h3
  .have zW:FX base b pb s (((Sp.enter [123] o l).bind λl=>left (dt Tr st (l.length+1) [] l)).bind (Sp.take [125])) (o:Int) p' w3:=h3
   show FX base b pb s (left (bI Tr st o l)) (o:Int) p' w3;unfold bI;cases he:Sp.enter [123] o l with
   |error e=>rw[he]at zW;exact zW
   |ok l1=>
    rw[he]at zW;simp only[Except.bind]at zW⊢
    rcases hm:dt Tr st (l1.length+1) [] l1 with e|⟨fs,l2⟩
    .rw[hm]at zW;exact zW
    .rw[hm]at zW
     simp only[left]at zW⊢;cases Dr:Sp.take [125] l2 with
     |error e=>rw[Dr]at zW;exact zW
     |ok l3=>rw[Dr]at zW;exact zW
 .intro l hr
  subst hr;unfold bI;cases he:Sp.enter [123] o l with
  |error e=>have:=G2.2 e (by show Sp.enter [123] o l=_;exact he);subst this;exact dD.refl _ _
  |ok l1=>
   obtain⟨l',e1,_,_,_,a5,_⟩:=HL.out l1 he;cases e1
   have g:=G2.1 l1 he;simp only
   rcases hm:dt Tr st (l1.length+1) [] l1 with e|⟨fs,l2⟩
   .rw[hm]at g
    exact dD.more (l1:=l1) g À
   .rw[hm]at g
    obtain⟨m1,g2,g3⟩:=g;have tZ:bV p p' l l2:=(bV.z8 À).trans m1;simp only;cases Dr:Sp.take [125] l2 with
    |error e=>exact dD.tD tZ
    |ok l3=>obtain⟨_,h3⟩:=cd Dr;exact⟨tZ.trans (bV.z8 (by rw[h3];exact cr _)),g2,g3⟩
 .intro e hr
  subst hr;exact G2.2 e rfl
end
end
section
theorem Me(base b pb:Nat)(s:ByteArray)(o n:Nat)(ho:o<=12)(st:Sp.Bs->Sp.R (Bl->Bl))(da:∀l f l1,st l=.ok (f,l1)->l1.length<l.length)(hr:o<12->oM base b pb s (o+1) n st)(Qr:∀l,aR Tr st o l=bI Tr st o l)(l:Sp.Bs)(p:FP)(w:Wd)(hn:l.length<n+1)(h:FR base b pb s l (o:Int) p w)(hlim:fu p l)(ht:Sp.tok l=TO) :
  Calls prog 91 #[ρ (Y ⟨b,0,M⟩)] w (oB base b pb s o p l w (Sp.Ð Tr (λl=>aR Tr st o l) o l)):=by
 have HR:=hid hr;have Dq:=hid da;have AD:=hid Qr;clear hr da Qr;obtain⟨c6,c3,ea,xP⟩:=h.asks;have c4:=cell_of h.aV 4 (v:=ρ (Y ⟨pb,0,M⟩)) rfl;have d2:=cell_of h.prog.aV 2 (v:=I O p.ct.1) rfl;have HT:=hid ht;have jX:Hid ((Sp.next l).length<l.length):=aJ ht É;have nO:p.ns.length+1<=1000000:=by have:=hlim.1;omega
 clear ea ht;go_enter func91,ntmps91;go_wp2_with fail;refine(eU (r:=.ok l) h {aA:=p.ct.1,next:=-1,c:=-1} nO).mono ?_;rintro e w1⟨rfl,v,h1,k1⟩;have o8:FR base b pb s l (o:Int) _ w1:=h1;have c4:=cell_of o8.aV 4 (v:=ρ (Y ⟨pb,0,M⟩)) rfl;have d2:=cell_of o8.prog.aV 2 (v:=I O p.ct.1) rfl;have f2:=ay o8.prog.aV 2;go_wp2_with fail
 go_cut [] from 6 (λwc=>wc=(w1.setCell ⟨pb,2,M⟩ (I O (RowKit.wrap64 (p.ct.1+1)))).drew)
 case first=>
  go_region_with (fail)
  all_goals
   go_wp2_with fail;go_meet;rw[IntWalk.i64_left]
 case rest=>
  obtain⟨jW,gN⟩:=FX.jU (r:=.ok l) (p':={p with ns:=p.ns++[{aA:=p.ct.1,next:=-1,c:=-1}],nv:=v,ct:=Sp.aD p.ct}) h1 2 (I O (RowKit.wrap64 (p.ct.1+1))) (mX h1.prog.aV _) rfl rfl rfl rfl;obtain⟨p1,tV,hp1q,hp1c,hx,hk⟩:∃p1:FP,Hid (p1.ns=p.ns++[{aA:=p.ct.1,next:=-1,c:=-1}])/\Hid (p1.qs=p.qs)/\p1.ct=Sp.aD p.ct/\FX base b pb s (.ok l) (o:Int) p1 wc/\FK b pb p p1 w wc:=⟨{p with ns:=p.ns++[{aA:=p.ct.1,next:=-1,c:=-1}],nv:=v,ct:=Sp.aD p.ct},gj _,gj _,rfl,by rw[hcut];exact jW.drew,by rw[hcut];exact k1.trans gN.drew⟩;clear hcut jW gN h1 k1 o8 c4 d2 f2 c3 c6;have fg:FR base b pb s l (o:Int) _ wc:=hx;have c4:=cell_of fg.aV 4 (v:=ρ (Y ⟨pb,0,M⟩)) rfl;have d2:=cell_of fg.prog.aV 2 (v:=I O (RowKit.wrap64 (p.ct.1+1))) (by rw[show(RowKit.wrap64 (p.ct.1+1))=p1.ct.1 by rw[hp1c];rfl];rfl);have c3:=cell_of fg.aV 3 (v:=χ ⟨(Sp.tok l).toArray⟩) rfl;rw[HT.out]at c3;have qX:RowKit.wrap64 (RowKit.wrap64 (p.ct.1+1)-1)=p.ct.1:=by obtain⟨_,_,a1,a2⟩:=hlim;unfold RowKit.wrap64;omega
  have zX:b<wc.heap.size:=ah fg.aV;have Te:pb<wc.heap.size:=ah fg.prog.aV;have Dn:=hid hp1c;have ri:Hid (∀l1:Sp.Bs,l1.length<l.length->fu p1 l1):=λl1 xS=>qP hlim tV.out hp1q.out (by rw[hp1c];exact fW _) xS
  have M0:Hid (iI base b pb wc.heap.size s _ _ _ _ _ _ _):=iI.start {kind:=9,c:=-1,next:=-1,aA:=p.ct.1} hx hk;clear hx hk hp1c hlim;go_wp2_with fail;refine(ek (FR.AO M0.fx)).mono ?_;rintro e w2⟨rfl,h2,k2⟩;have M3:=hid (M0.call (r':=.ok (Sp.next l)) h2 k2);have H2:Hid (FR base b pb s (Sp.next l) (o:Int) p1 w2):=h2;clear M0 h2 k2 fg;go_wp2_with fail;refine(pG ho H2.out (ri.out _ jX.out)).mono ?_;rintro e w3⟨kc,p3,rfl,h3,k3,g3⟩;have HD3:Hid (∃ex,p3.ns=p1.ns++ex):=OX g3;have G3:=hid g3;have WB:Hid (∀l1,left (bo Tr o (Sp.next l))=.ok l1->l1.length<n+1/\fu p3 l1):=by
   intro l1 e1;have a1:=jX.out;have a2:=ri.out _ jX.out
   rcases hC:bo Tr o (Sp.next l) with er|⟨⟨rel,x,y⟩,l2⟩
   .rw[hC]at e1;cases e1
   .rw[hC]at g3 e1
    cases e1
    have m:=g3.1;exact⟨by have:=lH (A:=Tr) hC;omega,m.Gf a2⟩
  have M4:=M3.call h3 k3;obtain⟨e1,f1⟩:=M4.box.cell 1 rfl;have M5:=hid (M4.set 1 (I O kc) (n':={kind:=9,c:=-1,next:=-1,aA:=p.ct.1,a:=kc}) rfl);clear M4 M3 h3 k3 g3 H2;go_wp2_with fail;refine(yH ho Dq.out HR.out WB.out M5.fx).mono ?_;rintro e w4⟨kb,p4,rfl,h4,k4,g4,e4⟩;have XD:Hid (∃ex,p4.ns=p1.ns++ex):=uI HD3.out (zm (λl1 e1=>Py (g4 l1 e1)) e4);have HD:Hid (p4.ns[p.ns.length]?=Y {aA:=p.ct.1,next:=-1,c:=-1}):=mT tV.out XD.out;have G4:=hid (And.intro g4 e4);have M6:=M5.call h4 k4;obtain⟨e2,f2⟩:=M6.box.cell 2 rfl;have M8:Hid (iI base b pb wc.heap.size s (gA st o l) (o:Int) p p4 w {kind:=9,c:=-1,next:=-1,aA:=p.ct.1,a:=kc,b:=kb} (w4.setCell ⟨wc.heap.size,2,M⟩ (I O kb))):=iI.YD (Bm st o l) (M6.set 2 (I O kb) (n':={kind:=9,c:=-1,next:=-1,aA:=p.ct.1,a:=kc,b:=kb}) rfl);have H4:Hid (FX base b pb s (gA st o l) (o:Int) p4 w4):=FX.cast (Bm st o l) h4;clear M6 M5 h4 k4 g4 e4 WB HD3
  rcases hW:gA st o l with er|l2
  .have HW:=hid hW
   have M9:Hid (iI base b pb wc.heap.size s (.error er) (o:Int) p p4 w {kind:=9,c:=-1,next:=-1,aA:=p.ct.1,a:=kc,b:=kb} (w4.setCell ⟨wc.heap.size,2,M⟩ (I O kb))):=by have:=M8.out;rw[hW]at this;exact this
   clear M8 hW;obtain⟨q,t,c6,hz,ff,c3⟩:=FE.asks (show FE base b pb s er p4 w4 from by have:=H4.out;rw[HW.out]at this;exact this);clear H4;obtain⟨g,cap,hv,nH,hmax,lX,hj,a4,a0,⟨n0,n1,n2,n3,n4,n5,n6,n7,n8,n9⟩,⟨r0,r1,r2,r3,r4,r5,r6,r7,r8,r9⟩,q0,q1,q2,q3,q4,q5,q6,q7,q8,q9⟩:=M9.facts (j:=p.ns.length) (d:={aA:=p.ct.1,next:=-1,c:=-1}) HD.out;go_wp2_with fail;generalize w4.setCell ⟨wc.heap.size,2,M⟩ (I O kb)=wd at*
   go_cut [] from 6 (λwc=>wc=(tP wd g (p.ns.length*10) {kind:=9,c:=-1,next:=-1,aA:=p.ct.1,a:=kc,b:=kb}).drew)
   case first=>
    clear M9 HT HD ri jX G3 G4 HR Dq AD HW
    go_region_with (fail)
    all_goals
     go_wp2_with fail;go_meet;exact rfl
   case rest=>
    obtain⟨h6,k6⟩:=lC M9.fx {kind:=9,c:=-1,next:=-1,aA:=p.ct.1,a:=kc,b:=kb} hv (j:=p.ns.length) (d:={aA:=p.ct.1,next:=-1,c:=-1}) HD.out;go_wp2_with fail;go_ret;have G9:=Hj (n:={kind:=9,c:=-1,next:=-1,aA:=p.ct.1,a:=kc,b:=kb}) (kc:=kc) (kb:=kb) AD.out tV.out jX.out G3.out G4.1 G4.2 HW.out;rw[hcut];exact mQ (Ec AD.out HW.out) h6.drew (M9.fk.trans k6).drew G9
  .have HW:=hid hW
   have M9:Hid (iI base b pb wc.heap.size s (.ok l2) (o:Int) p p4 w {kind:=9,c:=-1,next:=-1,aA:=p.ct.1,a:=kc,b:=kb} (w4.setCell ⟨wc.heap.size,2,M⟩ (I O kb))):=by have:=M8.out;rw[hW]at this;exact this
   have fg:FR base b pb s l2 (o:Int) p4 _:=FR.AO M9.fx;have hf4:FR base b pb s l2 (o:Int) p4 w4:=by have:=H4.out;rw[hW]at this;exact this
   have c6:=cell_of hf4.aV 6 (v:=I O 0) rfl;have c3:=cell_of hf4.aV 3 (v:=χ ⟨(Sp.tok l2).toArray⟩) rfl;clear M8 hW H4 hf4;by_cases he:Sp.tok l2=lI
   .have HE:=hid he
    have Tx:Hid (l2.length<=n/\fu p4 l2):=by
     have a1:=jX.out;have a2:=ri.out _ jX.out;have g3:=G3.out;have g4:=G4.1;have hw:=HW.out;unfold gA at hw
     rcases hC:bo Tr o (Sp.next l) with er|⟨⟨rel,x,y⟩,l1⟩
     .rw[hC]at hw;cases hw
     .rw[hC]at g3 g4 hw
      have g5:=g4 l1 rfl
      rcases hB:bI Tr st o l1 with er|⟨fs,l3⟩
      .simp only[left,Except.bind]at hw;rw[hB]at hw;cases hw
      .simp only[left,Except.bind]at hw
       rw[hB]at g5 hw;have:l3=l2:=by simpa using hw
       subst this;have sL:=uL Dq.out (AD.out l1▸hB);have:=lH (A:=Tr) hC;exact⟨À,(g3.1.trans g5.1).Gf a2⟩
    rw[he]at c3;clear he;go_wp2_with fail;refine(ek fg).mono ?_;rintro e w5⟨rfl,h5,k5⟩;have UG:=hid (M9.call (r':=.ok (Sp.next l2)) h5 k5);clear M9 h5 k5 fg;go_wp2_with fail;refine(yH ho Dq.out HR.out (r:=.ok (Sp.next l2)) (λl1 e1=>by
     cases e1
     have a:=Tx.out;have:=cr l2;exact⟨À,(bV.z8 (cr l2)).Gf a.2⟩) UG.fx).mono ?_
    rintro e w6⟨ke,p5,rfl,h6,k6,g6,e6⟩;have G6:Hid (o7 p4 p5 (Sp.next l2) ke (bI Tr st o (Sp.next l2))):=g6 _ rfl;have HD6:Hid (p5.ns[p.ns.length]?=Y {aA:=p.ct.1,next:=-1,c:=-1}):=mT tV.out (uI XD.out (Py (g6 _ rfl)));have Up:=UG.call h6 k6;obtain⟨e3,f3⟩:=Up.box.cell 3 rfl;have M12:=Up.set 3 (I O ke) (n':={kind:=9,c:=ke,next:=-1,aA:=p.ct.1,a:=kc,b:=kb}) rfl;obtain⟨e9,f9⟩:=Up.box.cell 9 rfl;have M9:=hid (M12.set 9 (U true) (n':={kind:=9,c:=ke,next:=-1,aA:=p.ct.1,a:=kc,b:=kb,els:=true}) rfl);clear HD;have HD:=HD6;clear UG Up M12 h6 k6 g6 e6 HD6;obtain⟨g,cap,hv,nH,hmax,lX,hj,a4,a0,⟨n0,n1,n2,n3,n4,n5,n6,n7,n8,n9⟩,⟨r0,r1,r2,r3,r4,r5,r6,r7,r8,r9⟩,q0,q1,q2,q3,q4,q5,q6,q7,q8,q9⟩:=M9.facts (j:=p.ns.length) (d:={aA:=p.ct.1,next:=-1,c:=-1}) HD.out;go_wp2_with fail;generalize (w6.setCell ⟨wc.heap.size,3,M⟩ (I O ke)).setCell ⟨wc.heap.size,9,M⟩ (U true)=wd at*
    go_cut [] from 6 (λwc=>wc=(tP wd g (p.ns.length*10) {kind:=9,c:=ke,next:=-1,aA:=p.ct.1,a:=kc,b:=kb,els:=true}).drew)
    case first=>
     clear M9 HT HD ri jX G3 G4 G6 HR Dq AD HW HE Tx XD
     go_region_with (fail)
     all_goals
      go_wp2_with fail;go_meet;exact rfl
    case rest=>
     obtain⟨h6,k6⟩:=lC M9.fx {kind:=9,c:=ke,next:=-1,aA:=p.ct.1,a:=kc,b:=kb,els:=true} hv (j:=p.ns.length) (d:={aA:=p.ct.1,next:=-1,c:=-1}) HD.out;go_wp2_with fail;go_ret;have G9:=Ev (n:={kind:=9,c:=ke,next:=-1,aA:=p.ct.1,a:=kc,b:=kb,els:=true}) (kc:=kc) (kb:=kb) (ke:=ke) AD.out tV.out hp1q.out Dn.out jX.out G3.out G4.1 HW.out HE.out G6.out rfl rfl rfl rfl rfl rfl rfl;rw[hcut];exact mQ (BY AD.out HW.out HE.out) h6.drew (M9.fk.trans k6).drew G9
   .have HE:=hid he
    obtain⟨t,DF,m1⟩:∃t:ByteArray,Hid (t=⟨(Sp.tok l2).toArray⟩)/\(t.toList==[101,108,115,101])=false:=⟨⟨(Sp.tok l2).toArray⟩,gj _,by rw[ByteArray.toList_eq];simpa[lI] using he⟩;rw[<-DF.out]at c3;clear he fg;obtain⟨g,cap,hv,nH,hmax,lX,hj,a4,a0,⟨n0,n1,n2,n3,n4,n5,n6,n7,n8,n9⟩,⟨r0,r1,r2,r3,r4,r5,r6,r7,r8,r9⟩,q0,q1,q2,q3,q4,q5,q6,q7,q8,q9⟩:=M9.facts (j:=p.ns.length) (d:={aA:=p.ct.1,next:=-1,c:=-1}) HD.out;go_wp2_with fail;generalize w4.setCell ⟨wc.heap.size,2,M⟩ (I O kb)=wd at*
    go_cut [] from 6 (λwc=>wc=(tP wd g (p.ns.length*10) {kind:=9,c:=-1,next:=-1,aA:=p.ct.1,a:=kc,b:=kb}).drew)
    case first=>
     clear M9 HT HD ri jX G3 G4 HR Dq AD HW HE DF XD
     go_region_with (fail)
     all_goals
      go_wp2_with fail;go_meet;exact rfl
    case rest=>
     obtain⟨h6,k6⟩:=lC M9.fx {kind:=9,c:=-1,next:=-1,aA:=p.ct.1,a:=kc,b:=kb} hv (j:=p.ns.length) (d:={aA:=p.ct.1,next:=-1,c:=-1}) HD.out;go_wp2_with fail;go_ret;have G9:=Fs (n:={kind:=9,c:=-1,next:=-1,aA:=p.ct.1,a:=kc,b:=kb}) (kc:=kc) (kb:=kb) AD.out tV.out hp1q.out Dn.out jX.out G3.out G4.1 HW.out HE.out rfl rfl rfl rfl rfl rfl rfl;rw[hcut];exact mQ (Cy AD.out HW.out HE.out) h6.drew (M9.fk.trans k6).drew G9
end
section
theorem CV(base b pb:Nat)(s:ByteArray)(o n:Nat)(ho:o<=12)(st:Sp.Bs->Sp.R (Bl->Bl))(da:∀l f l1,st l=.ok (f,l1)->l1.length<l.length)(hr:o<12->oM base b pb s (o+1) n st)(Qr:∀l,aR Tr st o l=bI Tr st o l)(l:Sp.Bs)(p:FP)(w:Wd)(hn:l.length<n+1)(h:FR base b pb s l (o:Int) p w)(hlim:fu p l)(ht:Sp.tok l=pZ) :
  Calls prog 91 #[ρ (Y ⟨b,0,M⟩)] w (oB base b pb s o p l w (eF Tr (λl=>aR Tr st o l) o l)):=by
 have HR:=hid hr;have Dq:=hid da;have AD:=hid Qr;clear hr da Qr;obtain⟨c6,c3,ea,xP⟩:=h.asks;have c4:=cell_of h.aV 4 (v:=ρ (Y ⟨pb,0,M⟩)) rfl;have d2:=cell_of h.prog.aV 2 (v:=I O p.ct.1) rfl;have HT:=hid ht;have jX:Hid ((Sp.next l).length<l.length):=aJ ht É;have nO:p.ns.length+1<=1000000:=by have:=hlim.1;omega
 clear ea ht;go_enter func91,ntmps91;go_wp2_with fail;refine(eU (r:=.ok l) h {aA:=p.ct.1,next:=-1,c:=-1} nO).mono ?_;rintro e w1⟨rfl,v,h1,k1⟩;have o8:FR base b pb s l (o:Int) _ w1:=h1;have c4:=cell_of o8.aV 4 (v:=ρ (Y ⟨pb,0,M⟩)) rfl;have d2:=cell_of o8.prog.aV 2 (v:=I O p.ct.1) rfl;have f2:=ay o8.prog.aV 2;go_wp2_with fail
 go_cut [] from 6 (λwc=>wc=(w1.setCell ⟨pb,2,M⟩ (I O (RowKit.wrap64 (p.ct.1+1)))).drew)
 case first=>
  go_region_with (fail)
  all_goals
   go_wp2_with fail;go_meet;rw[IntWalk.i64_left]
 case rest=>
  obtain⟨jW,gN⟩:=FX.jU (r:=.ok l) (p':={p with ns:=p.ns++[{aA:=p.ct.1,next:=-1,c:=-1}],nv:=v,ct:=Sp.aD p.ct}) h1 2 (I O (RowKit.wrap64 (p.ct.1+1))) (mX h1.prog.aV _) rfl rfl rfl rfl;obtain⟨p1,tV,hp1q,hp1c,hx,hk⟩:∃p1:FP,Hid (p1.ns=p.ns++[{aA:=p.ct.1,next:=-1,c:=-1}])/\Hid (p1.qs=p.qs)/\p1.ct=Sp.aD p.ct/\FX base b pb s (.ok l) (o:Int) p1 wc/\FK b pb p p1 w wc:=⟨{p with ns:=p.ns++[{aA:=p.ct.1,next:=-1,c:=-1}],nv:=v,ct:=Sp.aD p.ct},gj _,gj _,rfl,by rw[hcut];exact jW.drew,by rw[hcut];exact k1.trans gN.drew⟩;clear hcut jW gN h1 k1 o8 c4 d2 f2 c3 c6;have fg:FR base b pb s l (o:Int) _ wc:=hx;have c4:=cell_of fg.aV 4 (v:=ρ (Y ⟨pb,0,M⟩)) rfl;have d2:=cell_of fg.prog.aV 2 (v:=I O (RowKit.wrap64 (p.ct.1+1))) (by rw[show(RowKit.wrap64 (p.ct.1+1))=p1.ct.1 by rw[hp1c];rfl];rfl);have c3:=cell_of fg.aV 3 (v:=χ ⟨(Sp.tok l).toArray⟩) rfl;rw[HT.out]at c3;have qX:RowKit.wrap64 (RowKit.wrap64 (p.ct.1+1)-1)=p.ct.1:=by obtain⟨_,_,a1,a2⟩:=hlim;unfold RowKit.wrap64;omega
  have zX:b<wc.heap.size:=ah fg.aV;have Te:pb<wc.heap.size:=ah fg.prog.aV;have Dn:=hid hp1c;have ri:Hid (∀l1:Sp.Bs,l1.length<l.length->fu p1 l1):=λl1 xS=>qP hlim tV.out hp1q.out (by rw[hp1c];exact fW _) xS
  have M0:Hid (iI base b pb wc.heap.size s _ _ _ _ _ _ _):=iI.start {kind:=10,c:=-1,next:=-1,aA:=p.ct.1} hx hk;clear hx hk hp1c hlim;go_wp2_with fail;refine(ek (FR.AO M0.fx)).mono ?_;rintro e w2⟨rfl,h2,k2⟩;have M3:=hid (M0.call (r':=.ok (Sp.next l)) h2 k2);have H2:Hid (FR base b pb s (Sp.next l) (o:Int) p1 w2):=h2;clear M0 h2 k2 fg;go_wp2_with fail;refine(pG ho H2.out (ri.out _ jX.out)).mono ?_;rintro e w3⟨kc,p3,rfl,h3,k3,g3⟩;have HD3:Hid (∃ex,p3.ns=p1.ns++ex):=OX g3;have G3:=hid g3;have WB:Hid (∀l1,left (bo Tr o (Sp.next l))=.ok l1->l1.length<n+1/\fu p3 l1):=by
   intro l1 e1;have a1:=jX.out;have a2:=ri.out _ jX.out
   rcases hC:bo Tr o (Sp.next l) with er|⟨⟨rel,x,y⟩,l2⟩
   .rw[hC]at e1;cases e1
   .rw[hC]at g3 e1
    cases e1
    have m:=g3.1;exact⟨by have:=lH (A:=Tr) hC;omega,m.Gf a2⟩
  have M4:=M3.call h3 k3;obtain⟨e1,f1⟩:=M4.box.cell 1 rfl;have M5:=hid (M4.set 1 (I O kc) (n':={kind:=10,c:=-1,next:=-1,aA:=p.ct.1,a:=kc}) rfl);clear M4 M3 h3 k3 g3 H2;go_wp2_with fail;refine(yH ho Dq.out HR.out WB.out M5.fx).mono ?_;rintro e w4⟨kb,p4,rfl,h4,k4,g4,e4⟩;have XD:Hid (∃ex,p4.ns=p1.ns++ex):=uI HD3.out (zm (λl1 e1=>Py (g4 l1 e1)) e4);have HD:Hid (p4.ns[p.ns.length]?=Y {aA:=p.ct.1,next:=-1,c:=-1}):=mT tV.out XD.out;have G4:=hid (And.intro g4 e4);have M6:=M5.call h4 k4;obtain⟨e2,f2⟩:=M6.box.cell 2 rfl;have M9:=hid (M6.set 2 (I O kb) (n':={kind:=10,c:=-1,next:=-1,aA:=p.ct.1,a:=kc,b:=kb}) rfl);clear M6 M5 h4 k4 g4 e4 WB HD3 XD;obtain⟨g,cap,hv,nH,hmax,lX,hj,a4,a0,⟨n0,n1,n2,n3,n4,n5,n6,n7,n8,n9⟩,⟨r0,r1,r2,r3,r4,r5,r6,r7,r8,r9⟩,q0,q1,q2,q3,q4,q5,q6,q7,q8,q9⟩:=M9.facts (j:=p.ns.length) (d:={aA:=p.ct.1,next:=-1,c:=-1}) HD.out;go_wp2_with fail;generalize w4.setCell ⟨wc.heap.size,2,M⟩ (I O kb)=wd at*
  go_cut [] from 6 (λwc=>wc=(tP wd g (p.ns.length*10) {kind:=10,c:=-1,next:=-1,aA:=p.ct.1,a:=kc,b:=kb}).drew)
  case first=>
   clear M9 HT HD ri jX G3 G4 HR Dq AD
   go_region_with (fail)
   all_goals
    go_wp2_with fail;go_meet;exact rfl
  case rest=>
   obtain⟨h6,k6⟩:=lC M9.fx {kind:=10,c:=-1,next:=-1,aA:=p.ct.1,a:=kc,b:=kb} hv (j:=p.ns.length) (d:={aA:=p.ct.1,next:=-1,c:=-1}) HD.out;go_wp2_with fail;go_ret;have G9:=L3 (n:={kind:=10,c:=-1,next:=-1,aA:=p.ct.1,a:=kc,b:=kb}) (kc:=kc) (kb:=kb) AD.out tV.out hp1q.out Dn.out jX.out G3.out G4.1 G4.2 rfl rfl rfl rfl rfl;rw[hcut];exact mQ (Fe st o l AD.out) h6.drew (M9.fk.trans k6).drew G9
end
section
theorem LK(A:fE)(n o:Nat)(l:Sp.Bs):bL A (n+1) o l=(if Sp.tok l=vW then gX A l
  else if Sp.tok l=ml then de A o l
  else if Sp.tok l=TO then Sp.Ð A (λl=>aR A (bL A n (o+1)) o l) o l
  else if Sp.tok l=pZ then eF A (λl=>aR A (bL A n (o+1)) o l) o l
  else cC A o l):=by
 rw[bL]
theorem nE{base b pb:Nat}{s:ByteArray}{o:Nat}{p:FP}{l:Sp.Bs}{w:Wd}{r r':Sp.R (Bl->Bl)}{f:FuncId}{a:Array Value}(e:r=r')(h:Calls prog f a w (oB base b pb s o p l w r)):Calls prog f a w (oB base b pb s o p l w r'):=by rw[<-e];exact h
theorem vM(base b pb:Nat)(s:ByteArray):∀(n o:Nat),o<=12->oM base b pb s o n (bL Tr n o)
 |0,o,_=>λl p w hl=>absurd hl (Nat.not_lt_zero _)
 |n+1,o,ho=>by
  intro l p w hl h hlim hb;have da:∀l (f:Bl->Bl) l1,bL Tr n (o+1) l=.ok (f,l1)->l1.length<l.length:=λl f l1 e=>ld (A:=Tr) n (o+1) l f l1 e
  have Qr:∀l,aR Tr (bL Tr n (o+1)) o l=bI Tr (bL Tr n (o+1)) o l:=λl=>Ob Tr _ (λl h=>oS Tr n (o+1) h) da o l
  have hr:o<12->oM base b pb s (o+1) n (bL Tr n (o+1)):=λh=>vM base b pb s n (o+1) À
  have e:=LK Tr n o l;by_cases t1:Sp.tok l=vW
  .rw[Á t1]at e
   exact nE e.symm (Eb base b pb s o l p w h hlim t1)
  .rw[Â t1]at e
   by_cases t2:Sp.tok l=ml
   .rw[Á t2]at e
    exact nE e.symm (Az base b pb s o ho l p w h hlim t2)
   .rw[Â t2]at e
    by_cases t3:Sp.tok l=TO
    .rw[Á t3]at e
     exact nE e.symm (Me base b pb s o n ho _ da hr Qr l p w hl h hlim t3)
    .rw[Â t3]at e
     by_cases t4:Sp.tok l=pZ
     .rw[Á t4]at e
      exact nE e.symm (CV base b pb s o n ho _ da hr Qr l p w hl h hlim t4)
     .rw[Â t4]at e
      refine nE e.symm (Ah base b pb s o ho l p w h hlim ?_);intro hv;simp[cU,hv,t1,t2,t3,t4]at hb
end
section
section
variable{w w3 wd:Wd}
variable{s t:ByteArray}
theorem Fl(w:Wd)(s:ByteArray):((w.alloc (L (cQ DD 0) 110)).alloc (L (cu s ((0:Nat):Int) 0 ⟨#[]⟩ w.heap.size 0 0) 198)).heap[w.heap.size+1]?=Y (L (cu s ((0:Nat):Int) 0 ⟨#[]⟩ w.heap.size 0 0) 198):=by have h:=heap_alloc_new (w.alloc (L (cQ DD 0) 110)) (L (cu s ((0:Nat):Int) 0 ⟨#[]⟩ w.heap.size 0 0) 198);rw[show(w.alloc (L (cQ DD 0) 110)).heap.size=w.heap.size+1 by simp]at h;exact h
theorem Ey(w:Wd)(s:ByteArray)(hs:s.size<=400):Calls prog 55 #[ρ (Y ⟨w.heap.size+1,0,M⟩)] ((w.alloc (L #[Z M 0 0,I O 0,I O 0,I O 0,Z M 0 0] 110)).alloc (L #[χ s,I O 0,I O 0,χ ⟨#[]⟩,ρ (Y ⟨w.heap.size,0,M⟩),I O 0,I O 0] 198))
  λe w'=>e=υ (φ #[])/\FR w.heap.size (w.heap.size+1) w.heap.size s (Sp.skip s.data.toList) 0 DD w'/\ω w w':=by
 refine(vH (w:=(w.alloc (L (cQ DD 0) 110)).alloc (L (cu s ((0:Nat):Int) 0 ⟨#[]⟩ w.heap.size 0 0) 198)) 0 (Fl w s) Ì hs).mono ?_;rintro e w3⟨rfl,hb,hx⟩;rw[ò]at hb;exact⟨rfl,D1 w s hs rfl hx hb⟩
theorem KX{b pb:Nat}{i a o:Int}(hb:Bk w b (cu s i a t pb o 0) 198) :
  Calls prog 57 #[ρ (Y ⟨b,0,M⟩),I O 2] w λe w'=>e=υ (φ #[])/\w'=w.setCell ⟨b,6,M⟩ (I O 2):=by
 have c6:=cell_of hb 6 (v:=I O 0) rfl;have f6:=ay hb 6;go_enter func57,ntmps57;go_wp2_with fail
 go_end0
 exact⟨rfl,rfl⟩
def Vy(w:Wd)(s:ByteArray)(fin:Sp.R (List (Bl->Bl)))(wd:Wd):Prop:=
 ∃(k:Int) (p':FP) (w4:Wd),FX w.heap.size (w.heap.size+1) w.heap.size s (left fin) ((0:Nat):Int) p' w4/\o7 DD p' (Sp.skip s.data.toList) k fin/\ω w w4/\wd=w4.setCell ⟨w.heap.size,1,M⟩ (I O k)
theorem ĺ(l:Sp.Bs)(h:l.length<=400):fu DD l:=by
 refine⟨?_,?_,?_⟩
 .show 0+2*l.length<=2000;omega
 .show 0+l.length<=2000;omega
 .unfold In64;show(-9223372036854775808:Int)<=0/\(0:Int)<=9223372036854775807;omega
def OQ(s:ByteArray):Sp.R (List (Bl->Bl)):=dt Tr (bL Tr ((Sp.skip s.data.toList).length+1) 0) ((Sp.skip s.data.toList).length+1) [] (Sp.skip s.data.toList)
theorem IL(fg:FR w.heap.size (w.heap.size+1) w.heap.size s (Sp.skip s.data.toList) 0 DD w3) :
  Calls prog 56 #[ρ (Y ⟨w.heap.size+1,0,M⟩)] w3 (De w.heap.size (w.heap.size+1) w.heap.size s 0 DD (Sp.skip s.data.toList) w3 (OQ s)):=by
 have hl:=fg.len;have hs:=fg.sz;exact mo _ _ _ s 0 ((Sp.skip s.data.toList).length+1) _ (λl f l1 e=>ld (A:=Tr) _ 0 l f l1 e) (vM _ _ _ s _ 0 À) _ DD w3 À fg (ĺ _ À) _ À
theorem SH{fin:Sp.R (List (Bl->Bl))}(h:Vy w s fin wd):ω w wd/\wd.cell? ⟨w.heap.size+1,4,M⟩=Y (ρ (Y ⟨w.heap.size,0,M⟩))/\match left fin with
 |.error er=>er.1≠0/\wd.cell? ⟨w.heap.size+1,6,M⟩=Y (I O (er.1:Int))/\wd.cell? ⟨w.heap.size+1,2,M⟩=Y (I O ((s.size-er.2:Nat):Int))
 |.ok l1=>l1.length<=s.size/\(∃i t o,wd.heap[w.heap.size+1]?=Y (L (cu s i ((s.size-l1.length:Nat):Int) t w.heap.size o 0) 198)):=by
 obtain⟨k,p',w4,hx,hg,hb4,Tz⟩:=h;have nN:Below w.heap.size w4 wd:=by rw[Tz];exact(Å).setCell (p:=⟨w.heap.size,1,M⟩) È _
 have hk:wd.heap[w.heap.size+1]?=w4.heap[w.heap.size+1]?:=by rw[Tz];exact Æ _ _ _ _ Ä
 obtain⟨i,a,t,o',er,hb⟩:=hx.OS;refine⟨hb4.trans nN,cell_of (by rw[hk];exact hb) 4 rfl,?_⟩
 revert hx
 cases left fin with
 |error e=>intro hx;obtain⟨i,l0,o,hb,_⟩:=(show FE _ _ _ s e p' w4 from hx).aV;exact⟨(show FE _ _ _ s e p' w4 from hx).nz,cell_of (by rw[hk];exact hb) 6 rfl,cell_of (by rw[hk];exact hb) 2 rfl⟩
 |ok l1=>intro hx;have fg:FR _ _ _ s l1 _ p' w4:=hx;exact⟨fg.len,_,_,_,by rw[hk];exact fg.aV⟩
theorem Pj{fs:List (Bl->Bl)}(h:Vy w s (.ok (fs,[])) wd):∃pt:Int,wd.cell? ⟨w.heap.size,2,M⟩=Y (I O pt)/\wd.frozen? ⟨w.heap.size,2,M⟩=false/\Bj w.heap.size w.heap.size (aO fs) (wd.setCell ⟨w.heap.size,2,M⟩ (I O (RowKit.wrap64 (pt+1)))).drew:=by
 obtain⟨k,p',w4,hx,hg,hb4,Tz⟩:=h;have hp:=hx.prog;obtain⟨hm,sL,hq⟩:=hg;have b1:wd.heap[w.heap.size]?=Y (L (cQ p' k) 110):=by rw[Tz];exact PX hp.aV k
 refine⟨p'.ct.1,cell_of b1 2 rfl,ay b1 2,{p' with ct:=Sp.aD p'.ct},k,p'.ct,mX b1 _,?_,?_,?_,?_,sL,rfl,hm.pt (by unfold In64;show(-9223372036854775808:Int)<=0/\(0:Int)<=9223372036854775807;omega),by rw[hq];rfl⟩
 .refine aY hp.kQ (λg vj=>?_)
  have db:=(hp.dX hp.aV mv).1;have Ug:g≠w.heap.size:=λe=>db (by rw[<-e];exact vj)
  show(wd.setCell _ _).heap[g]?=_;rw[Æ _ _ _ _ Ug,Tz];exact Æ _ _ _ _ Ug
 .refine aY hp.lU (λg vj=>?_)
  have db:=(hp.dX hp.aV mv).2;have Ug:g≠w.heap.size:=λe=>db (by rw[<-e];exact vj)
  show(wd.setCell _ _).heap[g]?=_;rw[Æ _ _ _ _ Ug,Tz];exact Æ _ _ _ _ Ug
 .have:=hm.nl
  have h0:DD.ns.length=0:=rfl;have h4:=(show FR _ _ _ s [] _ p' w4 from hx).sz;have:=tf s.data.toList;have hlen:s.data.toList.length=s.size:=Ä;show p'.ns.length<=2000;omega
 .have:=hm.ql
  have h0:DD.qs.length=0:=rfl;have h4:=(show FR _ _ _ s [] _ p' w4 from hx).sz;have:=tf s.data.toList;have hlen:s.data.toList.length=s.size:=Ä;show p'.qs.length<=2000;omega
theorem pY(s:ByteArray)(hmax:s.size<=1048576)(w:Wd):Calls prog 27 #[χ s] w (iE s w):=by
 have hlen:s.data.toList.length=s.size:=Ä;by_cases hs:400<s.size
 .have HT:Hid (Sp.tree s.data.toList=.error (1,0)):=LM À
  go_enter func27,ntmps27;go_wp2_with fail;try simp only[Exit.inBlock,Exit.then]
  refine Ç (v:=φ #[ρ M,I O 1,I O 0]) (by simp[results,results27,go_sem]) rfl ?_;unfold iE;rw[HT.out];exact⟨Å,rfl⟩
 .have XP:s.size<=400:=À
  have HS:Hid (¬400<s.data.toList.length):=by unfold Hid;omega
  have HF:=Ey w s XP;go_enter func27,ntmps27;go_wp2_with fail;refine HF.mono ?_;rintro e w3⟨rfl,fg,sL⟩;have c4:=cell_of fg.aV 4 (v:=ρ (Y ⟨w.heap.size,0,M⟩)) rfl;have f1:=ay fg.prog.aV 1;have HFR:=hid (And.intro fg sL);have HFD:Hid (FR w.heap.size (w.heap.size+1) w.heap.size s (Sp.skip s.data.toList) 0 DD w3.drew):=FX.drew (r:=.ok (Sp.skip s.data.toList)) fg;clear fg sL HF;go_wp2_with fail
  go_cut [] from 6 (λwd=>Vy w s (OQ s) wd)
  case first=>
   go_region_with (go_at_call 56;refine(IL HFD.out).mono ?_;rintro e w4 ⟨k,p',rfl,h4,k4,g4⟩;obtain⟨i',a',t',o',er',Gm⟩:=h4.OS;have c4':=cell_of Gm 4 (v:=ρ (Y ⟨w.heap.size,0,M⟩)) rfl;have d1:=cell_of h4.prog.aV 1 (v:=I O 0) rfl;have f1':=ay h4.prog.aV 1;have H4:Hid (_/\_/\_):=And.intro h4 (And.intro k4 g4);clear h4 k4 g4 Gm)
   all_goals
    go_wp2_with fail;go_meet;exact⟨k,p',w4,H4.1,H4.2.2,(HFR.2.drew).trans (H4.2.1.below HFD.prog À (by have:=HFR.2.size;exact this)),rfl⟩
  case rest=>
   clear c4 f1 HFR HFD;obtain⟨HB,c4,cP⟩:=SH hcut;have To:=hid hcut;have nM:=hid HB;clear hcut HB;generalize wc=wo at*
   rcases aW:OQ s with er|⟨fs,l1⟩
   .rw[aW]at cP
    simp only[left]at cP;obtain⟨hz,c6,c2⟩:=cP;obtain⟨q,hq⟩:∃q:Int,Hid (q=(er.1:Int)):=⟨_,gj _⟩;obtain⟨pl,MX⟩:∃pl:Int,Hid (pl=((s.size-er.2:Nat):Int)):=⟨_,gj _⟩;have kh:¬q=0:=by rw[hq.out];omega
    have ff:(q==0)=false:=by simpa using kh
    rw[<-hq.out]at c6;rw[<-MX.out]at c2;have HT:Hid (Sp.tree s.data.toList=.error (er.1,s.data.toList.length-er.2)):=Oy HS.out aW;clear hz aW To;go_wp2_with fail
    go_region_with (fail)
    all_goals
     go_wp2_with fail;try simp only[Exit.inBlock,Exit.then]
     refine Ç (v:=φ #[ρ M,I O q,I O pl]) (by simp[results,results27,go_sem]) rfl ?_;unfold iE;rw[HT.out];exact⟨nM.drew,by rw[hq.out,MX.out];simp⟩
   .rw[aW]at cP
    simp only[left]at cP;obtain⟨hl,i,t,o,hb⟩:=cP;have c6:=cell_of hb 6 (v:=I O 0) rfl;by_cases xS:l1=[]
    .subst xS
     have c2:=cell_of hb 2 (v:=I O ((s.size:Nat):Int)) rfl;have HT:Hid (Sp.tree s.data.toList=.ok (aO fs)):=Su HS.out aW;have hcc:=To.out;rw[aW]at hcc;obtain⟨pt,d2,f2,F9⟩:=Pj hcc;have HP:=hid F9;clear aW To hcc F9;go_wp2_with fail
     go_cut [] from 6 (λwc=>wc=(wo.setCell ⟨w.heap.size,2,M⟩ (I O (RowKit.wrap64 (pt+1)))).drew)
     case first=>
      go_region_with (fail)
      all_goals
       go_wp2_with fail;go_meet;rw[IntWalk.i64_left]
     case rest=>
      have Gm:wc.heap[w.heap.size+1]?=Y (L (cu s i ((s.size-([]:Sp.Bs).length:Nat):Int) t w.heap.size o 0) 198):=by rw[hcut];exact(Æ _ _ _ _ Ä).trans hb
      have c4':=cell_of Gm 4 (v:=ρ (Y ⟨w.heap.size,0,M⟩)) rfl;have nI:Hid (ω w wc):=by unfold Hid;rw[hcut];exact(nM.setCell (p:=⟨w.heap.size,2,M⟩) È _).drew
      have HP2:Hid (Bj w.heap.size w.heap.size (aO fs) wc):=by unfold Hid;rw[hcut];exact HP.out
      clear hcut Gm c4 d2 f2 c6 c2 hb HP nM;go_wp2_with fail;try simp only[Exit.inBlock,Exit.then]
      refine Ç (v:=φ #[ρ (Y ⟨w.heap.size,0,M⟩),I O 0,I O 0]) (by simp[results,results27,go_sem]) rfl ?_;unfold iE;rw[HT.out];exact⟨nI.out,_,rfl,È,HP2.out⟩
    .obtain⟨pl,MX⟩:∃pl:Int,Hid (pl=((s.size-l1.length:Nat):Int)):=⟨_,gj _⟩
     have c2:=cell_of hb 2 (v:=I O pl) (by rw[MX.out];rfl);have df:pl<(s.size:Int):=by have:0<l1.length:=List.length_pos_iff.2 xS;rw[MX.out];omega
     have HT:Hid (Sp.tree s.data.toList=.error (2,s.data.toList.length-l1.length)):=KH HS.out xS aW;have HW:=KX hb;have zX:w.heap.size+1<wo.heap.size:=ah hb;clear aW To xS;go_wp2_with fail;refine HW.mono ?_;rintro e w5⟨rfl,rfl⟩;clear HW;have nI:Hid (ω w (wo.setCell ⟨w.heap.size+1,6,M⟩ (I O 2))):=nM.setCell (p:=⟨w.heap.size+1,6,M⟩) Ä _;go_wp2_with fail
     go_region_with (fail)
     all_goals
      go_wp2_with fail;try simp only[Exit.inBlock,Exit.then]
      refine Ç (v:=φ #[ρ M,I O 2,I O pl]) (by simp[results,results27,go_sem]) rfl ?_;unfold iE;rw[HT.out];exact⟨nI.drew,by rw[MX.out];simp⟩
end
end
end Go.Proofs.YtiopfihjmkfdmabGreatDoor
