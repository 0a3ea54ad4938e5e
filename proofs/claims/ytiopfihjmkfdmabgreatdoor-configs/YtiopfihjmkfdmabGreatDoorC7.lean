import Derived.Test.YtiopfihjmkfdmabGreatDoorC6
namespace Go.Proofs.YtiopfihjmkfdmabGreatDoor
open Option renaming none->M,some->Y
open Go.Value renaming int->I,pointer->ρ,string->χ,slice->Z,agg->J,iface->σ,tuple->φ
open Go.IntKind renaming i64->O
open Go.Obj renaming cells->L
open Go.Ending renaming returned->υ
open Go.Proofs.Tryz Sp
open Go.RowKit
set_option maxRecDepth 100000
set_option maxHeartbeats 16000000
section
variable{A:fE}
variable{b base sz n FU B k:Nat}
variable{s:ByteArray}
variable{w wa wb wc w' W V:Wd}
variable{v0 v nv:Value}
variable{e t u:TypeId}
variable{vs:List Value}
theorem kZ{Rp:nZ A}(Rt:kY A Rp){m1 m2 o:Nat}{ct:Int × Int}{r:Sp.R A.T}(e:Ending)(w':Wd)
  (h:sC Rt b s m1 m2 o ct (w.setCell ⟨b,5,M⟩ v0) r e w'):nj (λct w' v x bj=>Rt.T ct w.heap.size w'.heap.size w' v x bj) b s m1 m2 o ct w r e w':=by
 have x:Ext b w (w.setCell ⟨b,5,M⟩ v0):=(Ext.refl b w).setCell (p:=⟨b,5,M⟩) (.inl rfl) _;have hs:(w.setCell ⟨b,5,M⟩ v0).heap.size=w.heap.size:=by simp[World.setCell]
 unfold sC at h;cases r with
 |error er=>exact bJ.ahead x h
 |ok xl=>obtain⟨v,rfl,bj,hv,h1,x1⟩:=h;exact⟨v,rfl,bj,by rw[hs]at hv;exact hv,h1,x.trans x1⟩
theorem y8{Rp:nZ A}(Rt:kY A Rp)(b:Nat)(s:ByteArray)(m1 m2 o n:Nat)(ho:o<=12)
  (ih:o<12->tH Rt 113 b s m1 m2 (o+1) n (bL A n (o+1))):tH Rt 113 b s m1 m2 o (n+1) (bL A (n+1) o):=by
 intro l ct w hl h hE;have iD:sZ Rt b s m1 m2 o (n+1) (aR A (bL A n (o+1)) o):=EN Rt b s m1 m2 o n ho _ (ld n (o+1)) ih;have I5:∀l x l1,aR A (bL A n (o+1)) o l=.ok (x,l1)->l1.length<=l.length:=λl x l1 h=>Nat.le_of_lt (uL (ld n (o+1)) h)
 have wK:∀c l1,bo A o (Sp.next l)=.ok (c,l1)->l1.length<l.length:=λc l1 h=>by have:=lH h;have:=cr l;omega
 have h5:=h.c5;have f5:=h.fz 5;obtain⟨hp,xp⟩:=NS h (RowKit.wrap64 (ct.1+1));have HP:=hid hp;have c3:=hp.c3;have hE0:=hE.ext xp;clear hp;unfold bL;by_cases t1:Sp.tok l=vW
 .rw[Á t1]
  have Ze:(w.setCell ⟨b,5,M⟩ (I O (RowKit.wrap64 (ct.1+1)))).cell? ⟨b,3,M⟩=Y (χ ⟨#[114,101,97,100]⟩):=by rw[c3,t1];rfl
  have hc:Calls prog 157 #[ρ (Y ⟨b,0,M⟩),I O ct.1] (w.setCell ⟨b,5,M⟩ (I O (RowKit.wrap64 (ct.1+1)))) (nj (λct w' v x bj=>Rt.T ct w.heap.size w'.heap.size w' v x bj) b s m1 m2 o ct w (gX A l)):=(Hb Rt b s m1 m2 o l ct _ HP.out t1).mono (kZ Rt);clear c3 ih iD I5 wK;generalize gX A l=r at hc⊢;cases r with
  |error er=>go_enter func113,ntmps113;go_wp2_with fail;refine hc.mono ?_;rintro e w1⟨N,rfl,hf⟩;exact⟨rfl,N,rfl,hf⟩
  |ok xl=>obtain⟨x,l1⟩:=xl;go_enter func113,ntmps113;go_wp2_with fail;refine hc.mono ?_;rintro e w1⟨v,rfl,ct1,hv,h1,x1⟩;go_wp2_with fail;go_ret;exact⟨v,rfl,ct1,hv,h1,x1⟩
 .rw[Â t1]
  have b1:(Sp.tok l==[114,101,97,100])=false:=iz t1;by_cases t2:Sp.tok l=ml
  .rw[Á t2]
   have Ze:(w.setCell ⟨b,5,M⟩ (I O (RowKit.wrap64 (ct.1+1)))).cell? ⟨b,3,M⟩=Y (χ ⟨#[97,115,115,101,114,116]⟩):=by rw[c3,t2];rfl
   have hc:Calls prog 158 #[ρ (Y ⟨b,0,M⟩),I O ct.1] (w.setCell ⟨b,5,M⟩ (I O (RowKit.wrap64 (ct.1+1)))) (nj (λct w' v x bj=>Rt.T ct w.heap.size w'.heap.size w' v x bj) b s m1 m2 o ct w (de A o l)):=(ow Rt b s m1 m2 o ho l ct _ HP.out hE0 t2).mono (kZ Rt);clear c3 ih iD I5 wK b1;generalize de A o l=r at hc⊢;cases r with
   |error er=>go_enter func113,ntmps113;go_wp2_with fail;refine hc.mono ?_;rintro e w1⟨N,rfl,hf⟩;exact⟨rfl,N,rfl,hf⟩
   |ok xl=>obtain⟨x,l1⟩:=xl;go_enter func113,ntmps113;go_wp2_with fail;refine hc.mono ?_;rintro e w1⟨v,rfl,ct1,hv,h1,x1⟩;go_wp2_with fail;go_ret;exact⟨v,rfl,ct1,hv,h1,x1⟩
  .rw[Â t2]
   have b2:(Sp.tok l==[97,115,115,101,114,116])=false:=iz t2;by_cases t3:Sp.tok l=TO
   .rw[Á t3]
    have Ze:(w.setCell ⟨b,5,M⟩ (I O (RowKit.wrap64 (ct.1+1)))).cell? ⟨b,3,M⟩=Y (χ ⟨#[105,102]⟩):=by rw[c3,t3];rfl
    have hc:Calls prog 159 #[ρ (Y ⟨b,0,M⟩),I O ct.1] (w.setCell ⟨b,5,M⟩ (I O (RowKit.wrap64 (ct.1+1)))) (nj (λct w' v x bj=>Rt.T ct w.heap.size w'.heap.size w' v x bj) b s m1 m2 o ct w (Sp.Ð A (λl=>aR A (bL A n (o+1)) o l) o l)):=(kB Rt b s m1 m2 o (n+1) ho _ iD I5 l ct _ À HP.out hE0 t3 wK).mono (kZ Rt);clear c3 ih iD I5 wK b1 b2;generalize Sp.Ð A (λl=>aR A (bL A n (o+1)) o l) o l=r at hc⊢;cases r with
    |error er=>go_enter func113,ntmps113;go_wp2_with fail;refine hc.mono ?_;rintro e w1⟨N,rfl,hf⟩;exact⟨rfl,N,rfl,hf⟩
    |ok xl=>obtain⟨x,l1⟩:=xl;go_enter func113,ntmps113;go_wp2_with fail;refine hc.mono ?_;rintro e w1⟨v,rfl,ct1,hv,h1,x1⟩;go_wp2_with fail;go_ret;exact⟨v,rfl,ct1,hv,h1,x1⟩
   .rw[Â t3]
    have b3:(Sp.tok l==[105,102])=false:=iz t3;by_cases t4:Sp.tok l=pZ
    .rw[Á t4]
     have Ze:(w.setCell ⟨b,5,M⟩ (I O (RowKit.wrap64 (ct.1+1)))).cell? ⟨b,3,M⟩=Y (χ ⟨#[119,104,105,108,101]⟩):=by rw[c3,t4];rfl
     have hc:Calls prog 160 #[ρ (Y ⟨b,0,M⟩),I O ct.1] (w.setCell ⟨b,5,M⟩ (I O (RowKit.wrap64 (ct.1+1)))) (nj (λct w' v x bj=>Rt.T ct w.heap.size w'.heap.size w' v x bj) b s m1 m2 o ct w (eF A (λl=>aR A (bL A n (o+1)) o l) o l)):=(lh Rt b s m1 m2 o (n+1) ho _ iD l ct _ À HP.out hE0 t4 wK).mono (kZ Rt);clear c3 ih iD I5 wK b1 b2 b3;generalize eF A (λl=>aR A (bL A n (o+1)) o l) o l=r at hc⊢;cases r with
     |error er=>go_enter func113,ntmps113;go_wp2_with fail;refine hc.mono ?_;rintro e w1⟨N,rfl,hf⟩;exact⟨rfl,N,rfl,hf⟩
     |ok xl=>obtain⟨x,l1⟩:=xl;go_enter func113,ntmps113;go_wp2_with fail;refine hc.mono ?_;rintro e w1⟨v,rfl,ct1,hv,h1,x1⟩;go_wp2_with fail;go_ret;exact⟨v,rfl,ct1,hv,h1,x1⟩
    .rw[Â t4]
     have b4:(Sp.tok l==[119,104,105,108,101])=false:=iz t4;have hc:Calls prog 161 #[ρ (Y ⟨b,0,M⟩),I O ct.1] (w.setCell ⟨b,5,M⟩ (I O (RowKit.wrap64 (ct.1+1)))) (nj (λct w' v x bj=>Rt.T ct w.heap.size w'.heap.size w' v x bj) b s m1 m2 o ct w (cC A o l)):=(ot Rt b s m1 m2 o ho l ct _ HP.out hE0).mono (kZ Rt);clear ih iD I5 wK t1 t2 t3 t4;generalize cC A o l=r at hc⊢;cases r with
     |error er=>go_enter func113,ntmps113;go_wp2_with fail;refine hc.mono ?_;rintro e w1⟨N,rfl,hf⟩;exact⟨rfl,N,rfl,hf⟩
     |ok xl=>obtain⟨x,l1⟩:=xl;go_enter func113,ntmps113;go_wp2_with fail;refine hc.mono ?_;rintro e w1⟨v,rfl,ct1,hv,h1,x1⟩;go_wp2_with fail;go_ret;exact⟨v,rfl,ct1,hv,h1,x1⟩
theorem o0{Rp:nZ A}(Rt:kY A Rp)(b:Nat)(s:ByteArray)(m1 m2:Nat):∀(n o:Nat),o<=12->tH Rt 113 b s m1 m2 o n (bL A n o)
 |0,_,_=>λl _ _ hl _ _=>absurd hl (Nat.not_lt_zero _)
 |n+1,o,ho=>y8 Rt b s m1 m2 o n ho (λh=>o0 Rt b s m1 m2 n (o+1) À)
theorem vK{l:Sp.Bs}:aC l=1↔l=[]:=by
 cases l with
 |nil=>simp[aC]
 |cons c r=>
  rw[cj];constructor
  .intro h
   split at h
   .omega
   .split at h
    .omega
    .split at h<;>omega
  .intro h;cases h
theorem lF(h:w.ownsRow base e sz v n vs):∃a m c,v=Z a m c:=by
 rcases h.2 with⟨rfl,_⟩|⟨g,cap,cur,rfl,_⟩
 .exact⟨_,_,_,rfl⟩
 .exact⟨_,_,_,rfl⟩
theorem As{Rp:nZ A}(Rt:kY A Rp)(b:Nat)(s:ByteArray)(m1 m2:Nat)(l:Sp.Bs)(ct:Int × Int)(w:Wd)(h:Rd b s m1 m2 l 0 ct w)(hE:Env b m1 m2 w) :
  Calls prog 41 #[ρ (Y ⟨b,0,M⟩)] w λe w'=>match pK A l with
   |.ok xs=>∃v bj nv ns,e=υ (J #[v,I O bj.1,I O bj.2,nv])/\oq Rt.T ct w.heap.size w'.heap.size w' v xs bj/\Ext b w w'/\w'.ownsRow (b+1) 180 1 nv ns.length (gU ns)/\lB (Sp.skip s.data.toList) [] ns
   |.error er=>bJ s b w er e w':=by
 have df:=h.lt;have xy:Ext b w (w.alloc (L #[Z M 0 0,I O 0,I O 0,Z M 0 0] 79)):=(Ext.refl b w).alloc _;have hc:=gR Rt b s m1 m2 0 (l.length+1) (bL A (l.length+1) 0) (ld _ _) (o0 Rt b s m1 m2 (l.length+1) 0 À) l ct (w.alloc (L #[Z M 0 0,I O 0,I O 0,Z M 0 0] 79)) (Nat.lt_succ_self _) (h.ext _) (hE.ext xy);unfold pK;cases hr:dh A (bL A (l.length+1) 0) (l.length+1) [] l with
 |error er=>rw[hr]at hc;go_enter func41,ntmps41;go_wp2_with fail;refine hc.mono ?_;rintro e w1⟨N,rfl,hf⟩;exact⟨rfl,bJ.ahead xy ⟨N,rfl,hf⟩⟩
 |ok xl=>
  obtain⟨xs,l1⟩:=xl;rw[hr]at hc;simp only;by_cases he:l1=[]
  .rw[Á he]
   have hk:=vK.2 he;go_enter func41,ntmps41;go_wp2_with fail;refine hc.mono ?_;rintro e w1⟨v,rfl,ct1,hv,h1,x1⟩;have c2:w1.cell? ⟨b,2,M⟩=Y (I O 1):=by rw[h1.c2,hk];rfl
   obtain⟨a1,n1,c1,rfl⟩:=eH hv;have eQ:=nC x1 df;have k0:=cell_of eQ 0 (v:=Z M 0 0) rfl;have k1:=cell_of eQ 1 (v:=I O 0) rfl;have k2:=cell_of eQ 2 (v:=I O 0) rfl;have k3:=cell_of eQ 3 (v:=Z M 0 0) rfl;have f0:=ay eQ 0;have f1:=ay eQ 1;have f2:=ay eQ 2;have f3:=ay eQ 3;have c5:=h1.c5;have c6:=h1.c6;obtain⟨nv,ns,hN,hL⟩:=h1;obtain⟨an,nn,cn,rfl⟩:=lF hN.row;have c7:w1.cell? ⟨b,7,M⟩=Y (Z an nn cn):=cell_of hN.aV 7 rfl;have hW:=ai (ai (ai (ai eQ 0 (Z a1 n1 c1)) 1 (I O ct1.1)) 2 (I O ct1.2)) 3 (Z an nn cn);have q0:=cell_of hW 0 (v:=Z a1 n1 c1) rfl;have q1:=cell_of hW 1 (v:=I O ct1.1) rfl;have q2:=cell_of hW 2 (v:=I O ct1.2) rfl;have q3:=cell_of hW 3 (v:=Z an nn cn) rfl;have HX:Hid (Ext b w ((((w1.setCell ⟨w.heap.size,0,M⟩ (Z a1 n1 c1)).setCell ⟨w.heap.size,1,M⟩ (I O ct1.1)).setCell ⟨w.heap.size,2,M⟩ (I O ct1.2)).setCell ⟨w.heap.size,3,M⟩ (Z an nn cn)).drew):=
    (((((xy.trans x1).setCell (p:=⟨w.heap.size,0,M⟩) (.inr È) _).setCell (p:=⟨w.heap.size,1,M⟩) (.inr È) _).setCell (p:=⟨w.heap.size,2,M⟩) (.inr È) _).setCell (p:=⟨w.heap.size,3,M⟩) (.inr È) _).drew
   have HV:Hid (oq Rt.T ct w.heap.size ((((w1.setCell ⟨w.heap.size,0,M⟩ (Z a1 n1 c1)).setCell ⟨w.heap.size,1,M⟩ (I O ct1.1)).setCell ⟨w.heap.size,2,M⟩ (I O ct1.2)).setCell ⟨w.heap.size,3,M⟩ (Z an nn cn)).drew.heap.size ((((w1.setCell ⟨w.heap.size,0,M⟩ (Z a1 n1 c1)).setCell ⟨w.heap.size,1,M⟩ (I O ct1.1)).setCell ⟨w.heap.size,2,M⟩ (I O ct1.2)).setCell ⟨w.heap.size,3,M⟩ (Z an nn cn)).drew (Z a1 n1 c1) xs ct1):=
    oq.mono Rt hv Ä (by simp[World.setCell]) (((((eS.refl _ _ _).setCell (p:=⟨w.heap.size,0,M⟩) (.inl (by show w.heap.size<(w.alloc _).heap.size;simp)) _).setCell (p:=⟨w.heap.size,1,M⟩) (.inl (by show w.heap.size<(w.alloc _).heap.size;simp)) _).setCell (p:=⟨w.heap.size,2,M⟩) (.inl (by show w.heap.size<(w.alloc _).heap.size;simp)) _).setCell (p:=⟨w.heap.size,3,M⟩) (.inl (by show w.heap.size<(w.alloc _).heap.size;simp)) _)
   have hnr:∀k,pf w1.heap[k]?->k≠w.heap.size:=λk hk e=>by rw[e,eQ]at hk;exact fK É hk
   have HR:Hid (((((w1.setCell ⟨w.heap.size,0,M⟩ (Z a1 n1 c1)).setCell ⟨w.heap.size,1,M⟩ (I O ct1.1)).setCell ⟨w.heap.size,2,M⟩ (I O ct1.2)).setCell ⟨w.heap.size,3,M⟩ (Z an nn cn)).drew.ownsRow (b+1) 180 1 (Z an nn cn) ns.length (gU ns)):=
    ng hN.row (λk _ _ hkn=>by have:=hnr k hkn;show((((w1.setCell ⟨w.heap.size,0,M⟩ (Z a1 n1 c1)).setCell ⟨w.heap.size,1,M⟩ (I O ct1.1)).setCell ⟨w.heap.size,2,M⟩ (I O ct1.2)).setCell ⟨w.heap.size,3,M⟩ (Z an nn cn)).heap[k]?=_;rw[Æ _ _ _ _ this,Æ _ _ _ _ this,Æ _ _ _ _ this,Æ _ _ _ _ this])
   have HL:Hid (lB (Sp.skip s.data.toList) [] ns):=by rw[he]at hL;exact hL
   have Q0:=hid q0;have Q1:=hid q1;have Q2:=hid q2;have Q3:=hid q3;have Kl:b≠w.heap.size:=À;have C5:(w1.setCell ⟨w.heap.size,0,M⟩ (Z a1 n1 c1)).cell? ⟨b,5,M⟩=Y (I O ct1.1):=by rw[World.cell?_of_block (w:=w1) (by rw[Æ _ _ _ _ Kl])];exact c5
   have C6:((w1.setCell ⟨w.heap.size,0,M⟩ (Z a1 n1 c1)).setCell ⟨w.heap.size,1,M⟩ (I O ct1.1)).cell? ⟨b,6,M⟩=Y (I O ct1.2):=by rw[World.cell?_of_block (w:=w1) (by rw[Æ _ _ _ _ Kl,Æ _ _ _ _ Kl])];exact c6
   have C7:(((w1.setCell ⟨w.heap.size,0,M⟩ (Z a1 n1 c1)).setCell ⟨w.heap.size,1,M⟩ (I O ct1.1)).setCell ⟨w.heap.size,2,M⟩ (I O ct1.2)).cell? ⟨b,7,M⟩=Y (Z an nn cn):=by rw[World.cell?_of_block (w:=w1) (by rw[Æ _ _ _ _ Kl,Æ _ _ _ _ Kl,Æ _ _ _ _ Kl])];exact c7
   clear hv q0 q1 q2 q3 hW eQ hN hL hnr;go_wp2_with fail
   go_region_with (fail)
   all_goals
    go_wp2_with fail;exact Ç (v:=J #[Z a1 n1 c1,I O ct1.1,I O ct1.2,Z an nn cn]) (by simp[results,results41,go_sem,Q0.out,Q1.out,Q2.out,Q3.out]) rfl ⟨_,ct1,_,ns,rfl,HV.out,HX.out,HR.out,HL.out⟩
  .rw[Â he,show(Sp.bad 2 l1:Except (Nat×Nat) (List A.T))=.error (2,l1.length) from rfl]
   have hk:¬aC l1=1:=λh=>he (vK.1 h)
   go_enter func41,ntmps41;go_wp2_with fail;refine hc.mono ?_;rintro e w1⟨v,rfl,ct1,hv,h1,x1⟩;have c2:=h1.c2;have n1:¬(((aC l1:Nat):Int)=1):=À;have b1:(((aC l1:Nat):Int)==1)=false:=by simpa using n1
   clear hv hk;generalize aC l1=kd at c2 n1 b1;go_wp2_with fail;refine(eK h1 2).mono ?_;rintro e w2⟨rfl,rfl⟩;go_wp2_with fail;exact⟨rfl,bJ.ahead (xy.trans x1) (gT h1 2 2 rfl)⟩
def lD(w:Wd)(B:Nat)(v:Value)(er:Nat×Nat):Prop:=
 (v=σ 40 (I O 1)/\er=(1,0))∨∃N,B<=N/\v=σ 95 (ρ (Y ⟨N,0,M⟩))/\w.heap[N]?=Y (L #[I O er.2,I O er.1] 101)
theorem makes(fn:Fn)(first cap:Array Value)(w:Wd):(Instr.makeFunc fn first cap).run prog w=.ok (.func fn first cap) w:=rfl
theorem Ci(s:ByteArray)(w:Wd)(hs:400<s.size) :
  Calls prog 19 #[χ s] w λe w'=>e=υ (φ #[J #[Z M 0 0,I O 0,I O 0,Z M 0 0],σ 40 (I O 1)])/\ω w w':=by
 have hmf:=makes
 go_enter_defers func19,ntmps19
 go_wp2_with fail;simp[bodyPostD,Leaves,results,results19,go_sem];exact((Å).alloc È _).alloc Ä _
def vY(s:ByteArray)(m1 m2:Nat)(l:Sp.Bs):Obj:=
 L #[χ s,I O ((s.size-l.length:Nat):Int),I O (aC l),χ ⟨(Sp.tok l).toArray⟩,I O 0,I O 0,I O 0,Z M 0 0,.map (Y m1),.map (Y m2)] 144
theorem SX(l:Sp.Bs)(hl:l=Sp.skip s.data.toList)(hL:Laid wa)(hs:s.size<=400)(ho:j5 wa.heap.size wb)(F5:ω wa wb)(hr:iu wb.heap.size wc)(DK:ω wb wc) :
  Rd wc.heap.size s wa.heap.size wb.heap.size l 0 (0,0) (wc.alloc (vY s wa.heap.size wb.heap.size l)) /\
  Env wc.heap.size wa.heap.size wb.heap.size (wc.alloc (vY s wa.heap.size wb.heap.size l)) /\
  ω wa (wc.alloc (vY s wa.heap.size wb.heap.size l))/\wa.heap.size<wc.heap.size:=by
 have h9:=hL.size;have abE:wa.heap.size<wb.heap.size:=by obtain⟨es,ck,hh,_⟩:=ho;exact ah hh
 have F3:wb.heap.size<wc.heap.size:=by obtain⟨es,ck,hh,_⟩:=hr;exact ah hh
 have b3:ω wa wc:=F5.trans (DK.mono À);have b4:=b3.alloc À (vY s wa.heap.size wb.heap.size l);refine⟨⟨Z M 0 0,[],⟨heap_alloc_new _ _,by rw[hl];exact mb _,hs,World.ownsRow_nil _ _ _ _⟩,by rw[hl];exact .nil⟩,⟨hL.below b4 À,?_,?_,À,À,À⟩,b4,À⟩
 .have x:Ext wc.heap.size wb (wc.alloc (vY s wa.heap.size wb.heap.size l)):=(Ext.aF DK).alloc _
  exact ho.ext x À
 .have x:Ext wc.heap.size wc (wc.alloc (vY s wa.heap.size wb.heap.size l)):=(Ext.refl _ _).alloc _
  exact hr.ext x À
theorem SU(h:w.ownsRow base e sz v n vs)(hb:FU<=base):w.ownsRow FU e sz v n vs:=by
 obtain⟨h1,h2⟩:=h;refine⟨h1,?_⟩
 rcases h2 with h2|⟨g,cap,cur,e,hg,r⟩
 .exact .inl h2
 .exact .inr ⟨g,cap,cur,e,Nat.le_trans hb hg,r⟩
theorem lZ{ob:Obj}(h:Below B w w')(hk:k<B)(hb:w.heap[k]?=Y ob):w'.heap[k]?=Y ob:=by rw[h.block k hk];exact hb
def iZ{Rp:nZ A}(Rt:kY A Rp)(s:ByteArray)(w:Wd):Except (Nat×Nat) (List A.T)->Ending->Wd->Prop
 |.ok xs,e,w'=>∃v bj nv ns,e=υ (φ #[J #[v,I O bj.1,I O bj.2,nv],.nilIface])/\oq Rt.T (0,0) w.heap.size w'.heap.size w' v xs bj/\ω w w'/\w'.ownsRow w.heap.size 180 1 nv ns.length (gU ns)/\lB (Sp.skip s.data.toList) [] ns
 |.error er,e,w'=>∃v,e=υ (φ #[J #[Z M 0 0,I O 0,I O 0,Z M 0 0],v])/\lD w' w.heap.size v er/\ω w w'
theorem iZ.aaK{Rp:nZ A}{Rt:kY A Rp}{r:Except (Nat×Nat) (List A.T)}{xs:List A.T}{bj:Int×Int}{ns:List Nat}(hr:r=.ok xs)(h:oq Rt.T (0,0) w.heap.size w'.heap.size w' v xs bj)(hb:ω w w')(hn:w'.ownsRow w.heap.size 180 1 nv ns.length (gU ns)/\lB (Sp.skip s.data.toList) [] ns):iZ Rt s w r (υ (φ #[J #[v,I O bj.1,I O bj.2,nv],.nilIface])) w':=by rw[hr];exact⟨v,bj,nv,ns,rfl,h,hb,hn⟩
theorem iZ.bad{Rp:nZ A}{Rt:kY A Rp}{r:Except (Nat×Nat) (List A.T)}{er:Nat×Nat}(hr:r=.error er)(h:lD w' w.heap.size v er)(hb:ω w w'):iZ Rt s w r (υ (φ #[J #[Z M 0 0,I O 0,I O 0,Z M 0 0],v])) w':=by rw[hr];exact⟨v,rfl,h,hb⟩
theorem four{o:Obj}(a b c d:Value)(y:W.heap[k+1]?=Y o):((((W.setCell ⟨k,0,M⟩ a).setCell ⟨k,1,M⟩ b).setCell ⟨k,2,M⟩ c).setCell ⟨k,3,M⟩ d).heap[k+1]?=Y o:=by
 have h:∀(V:Wd) (i:Nat) (v:Value),(V.setCell ⟨k,i,M⟩ v).heap[k+1]?=V.heap[k+1]?:=λV i v=>Æ V ⟨k,i,M⟩ v _ (by show k+1≠k;omega)
 rw[h,h,h,h];exact y
theorem Ą{a0 b0 c0 d0 e0 a b c d e:Value}(y0:Bk W k #[a0,b0,c0,d0] t)(y1:Bk W (k+1) #[e0] u)
  (hV:((((W.setCell ⟨k,0,M⟩ a).setCell ⟨k,1,M⟩ b).setCell ⟨k,2,M⟩ c).setCell ⟨k,3,M⟩ d).setCell ⟨k+1,0,M⟩ e=V):
  V.cell? ⟨k,0,M⟩=Y a/\V.cell? ⟨k,1,M⟩=Y b/\V.cell? ⟨k,2,M⟩=Y c/\V.cell? ⟨k,3,M⟩=Y d/\V.cell? ⟨k+1,0,M⟩=Y e/\(∀j,j≠k->j≠k+1->V.heap[j]?=W.heap[j]?)/\V.heap.size=W.heap.size/\∀B w0,Below B w0 W->B<=k->Below B w0 V:=by
 subst hV;have u0:(((((W.setCell ⟨k,0,M⟩ a).setCell ⟨k,1,M⟩ b).setCell ⟨k,2,M⟩ c).setCell ⟨k,3,M⟩ d).setCell ⟨k+1,0,M⟩ e).heap[k]?=Y (L #[a,b,c,d] t):=by rw[Æ _ _ _ _ (by show k≠k+1;omega)];exact ai (ai (ai (ai y0 0 a) 1 b) 2 c) 3 d
 refine⟨cell_of u0 0 rfl,cell_of u0 1 rfl,cell_of u0 2 rfl,cell_of u0 3 rfl,cell_of (ai (four a b c d y1) 0 e) 0 rfl,λj h1 h2=>?_,by simp[World.setCell],λB w0 h hB=>?_⟩
 .have h:∀(V:Wd) (i:Nat) (v:Value),(V.setCell ⟨k,i,M⟩ v).heap[j]?=V.heap[j]?:=λV i v=>Æ V ⟨k,i,M⟩ v _ h1
  rw[Æ _ ⟨k+1,0,M⟩ _ _ h2,h,h,h,h]
 .exact((((h.setCell (p:=⟨k,0,M⟩) hB _).setCell (p:=⟨k,1,M⟩) hB _).setCell (p:=⟨k,2,M⟩) hB _).setCell (p:=⟨k,3,M⟩) hB _).setCell (p:=⟨k+1,0,M⟩) (Nat.le_succ_of_le hB) _
theorem Aw{Rp:nZ A}(Rt:kY A Rp)(s:ByteArray)(w:Wd)(hs:s.size<=400)(hL:Laid w) :
  Calls prog 19 #[χ s] w (iZ Rt s w (Sp.parse A s.data.toList)):=by
 have hmf:=makes;have h9:=hL.size;have dq:¬(400:Int)<(s.size:Int):=À;have Rb:ω w ((w.alloc (L #[Z M 0 0,I O 0,I O 0,Z M 0 0] 79)).alloc (L #[.nilIface] 35)):=((Å).alloc È _).alloc Ä _;have z0:((w.alloc (L #[Z M 0 0,I O 0,I O 0,Z M 0 0] 79)).alloc (L #[.nilIface] 35)).heap[w.heap.size]?=Y (L #[Z M 0 0,I O 0,I O 0,Z M 0 0] 79):=heap_alloc_old (heap_alloc_new _ _);have z1:((w.alloc (L #[Z M 0 0,I O 0,I O 0,Z M 0 0] 79)).alloc (L #[.nilIface] 35)).heap[w.heap.size+1]?=Y (L #[.nilIface] 35):=by have:=heap_alloc_new (w.alloc (L #[Z M 0 0,I O 0,I O 0,Z M 0 0] 79)) (L #[.nilIface] 35);simpa using this
 have hsc:Calls prog 38 #[χ s,I O 0] ((w.alloc (L #[Z M 0 0,I O 0,I O 0,Z M 0 0] 79)).alloc (L #[.nilIface] 35)) λe w'=>e=υ (J (om s (Sp.skip s.data.toList)))/\Below ((w.alloc (L #[Z M 0 0,I O 0,I O 0,Z M 0 0] 79)).alloc (L #[.nilIface] 35)).heap.size ((w.alloc (L #[Z M 0 0,I O 0,I O 0,Z M 0 0] 79)).alloc (L #[.nilIface] 35)) w':=
  zF s 0 _ Ì hs
 have Zq:((w.alloc (L #[Z M 0 0,I O 0,I O 0,Z M 0 0] 79)).alloc (L #[.nilIface] 35)).heap.size=w.heap.size+2:=Ä;have Z0:=hid z0;have Z1:=hid z1;have xd:=hid Zq;clear z0 z1 Zq
 go_enter_defers func19,ntmps19
 go_wp2_with fail;generalize (w.alloc (L #[Z M 0 0,I O 0,I O 0,Z M 0 0] 79)).alloc (L #[.nilIface] 35)=w2 at*;refine hsc.mono ?_;rintro e wa⟨rfl,ba⟩;rw[AW];have hLa:Laid wa:=hL.below (Rb.trans (ba.mono (by rw[xd.out];omega))) h9;go_wp2_with fail;refine(Lo wa hLa).mono ?_;rintro e wb⟨rfl,hob,bb⟩;have hLb:Laid wb:=hLa.below bb (by have:=hLa.size;omega);go_wp2_with fail;refine(Iq wb hLb).mono ?_;rintro e wc⟨rfl,hrc,bc⟩;obtain⟨h5,hE5,b5,abz⟩:=SX (Sp.skip s.data.toList) rfl hLa hs hob bb hrc bc;have hpr:=As Rt wc.heap.size s wa.heap.size wb.heap.size (Sp.skip s.data.toList) (0,0) _ h5 hE5;have uf:w.heap.size+2<=wa.heap.size:=by have:=ba.size;rw[xd.out]at this;exact this
 have b25:Below (w.heap.size+2) w2 (wc.alloc (vY s wa.heap.size wb.heap.size (Sp.skip s.data.toList))):=(ba.mono (by rw[xd.out];omega)).trans (b5.mono uf);clear h5 hE5 hob hrc hsc;generalize hO:vY s wa.heap.size wb.heap.size (Sp.skip s.data.toList)=ob at*;have HO:=hid hO;clear hO;go_wp2_with fail;rw[show Obj.cells #[χ s,I O ((s.size-(Sp.skip s.data.toList).length:Nat):Int),I O (aC (Sp.skip s.data.toList)),χ ⟨(Sp.tok (Sp.skip s.data.toList)).toArray⟩,I O 0,I O 0,I O 0,Z M 0 0,.map (Y wa.heap.size),.map (Y wb.heap.size)] 144=ob from HO.out];refine hpr.mono ?_;intro e w6 hp;clear hpr;cases hr:pK A (Sp.skip s.data.toList) with
 |error er=>
  rw[hr]at hp;obtain⟨N,rfl,hN,x6,XL,hNs⟩:=hp;have b6:Below (w.heap.size+2) w2 w6:=b25.trans (x6.below À (by simp;omega));have y0:=lZ b6 À Z0.out;have y1:=lZ b6 À Z1.out;refine leaves_cons (f:=37) (args:=#[ρ (Y ⟨w.heap.size,0,M⟩),ρ (Y ⟨w.heap.size+1,0,M⟩)]) Ä (by simp[go_sem]) ?_;refine(wY w.heap.size (w.heap.size+1) ⟨N,0,M⟩ w6 _ _ _ _ _ (cell_of y0 0 rfl) (cell_of y0 1 rfl) (cell_of y0 2 rfl) (cell_of y0 3 rfl) (ay y0 0) (ay y0 1) (ay y0 2) (ay y0 3) (cell_of y1 0 rfl) (ay y1 0) À).mono ?_;rintro e u' w7⟨rfl,rfl,rfl⟩;generalize hV:((((w6.setCell ⟨w.heap.size,0,M⟩ (Z M 0 0)).setCell ⟨w.heap.size,1,M⟩ (I O 0)).setCell ⟨w.heap.size,2,M⟩ (I O 0)).setCell ⟨w.heap.size,3,M⟩ (Z M 0 0)).setCell ⟨w.heap.size+1,0,M⟩ (σ 95 (ρ (Y ⟨N,0,M⟩)))=W;obtain⟨q0,q0',q2,q3,q1,iO,_,bl⟩:=Ą y0 y1 hV;have b7:=bl _ _ (Rb.trans (b6.mono À)) È;have hN2:w.heap.size+2<=N:=by have h1:=hNs;simp at h1;omega
  have uN:=(iO N À À).trans hN;have hNw:w.heap.size<=N:=À;clear hV iO bl hN y0 y1;have aW:Sp.parse A s.data.toList=.error (er.1,s.size-er.2):=by unfold Sp.parse;rw[Â (by simp;omega),hr];simp
  simp[Leaves,settle,results,results19,go_sem,q0,q0',q2,q3,q1];exact iZ.bad aW (.inr ⟨N,hNw,rfl,uN⟩) b7
 |ok xs=>
  rw[hr]at hp;obtain⟨v,pE,nvv,ns6,rfl,hv,x6,eu,zO⟩:=hp;obtain⟨av,nv,cv,rfl⟩:=eH hv;obtain⟨ax,nx,cx,rfl⟩:=lF eu;have b6:Below (w.heap.size+2) w2 w6:=b25.trans (x6.below À (by simp;omega));have y0:=lZ b6 À Z0.out;have y1:=lZ b6 À Z1.out;have k0:=cell_of y0 0 (v:=Z M 0 0) rfl;have f0:=ay y0 0;have k0':=cell_of y0 1 (v:=I O 0) rfl;have f0':=ay y0 1;have k2:=cell_of y0 2 (v:=I O 0) rfl;have f2:=ay y0 2;have k3:=cell_of y0 3 (v:=Z M 0 0) rfl;have f3:=ay y0 3;have v1:=four (Z av nv cv) (I O pE.1) (I O pE.2) (Z ax nx cx) y1;have k1:=cell_of v1 0 (v:=.nilIface) rfl;have f1:=ay v1 0;have hnr:∀k,pf w6.heap[k]?->k≠w.heap.size/\k≠w.heap.size+1:=λk hk=>by
   constructor
   .intro e;rw[e,y0]at hk;exact fK É hk
   .intro e;rw[e,y1]at hk;exact fK É hk
  have HY:=hid (And.intro y0 y1);have HW:=hid (And.intro hv (And.intro eu zO));have HNR:=hid hnr;have HR:=hid hr;clear v1 hv hr y0 y1 hnr eu zO;go_wp2_with fail;refine leaves_cons (f:=37) (args:=#[ρ (Y ⟨w.heap.size,0,M⟩),ρ (Y ⟨w.heap.size+1,0,M⟩)]) Ä (by simp[go_sem]) ?_;refine(Ij ⟨w.heap.size,0,M⟩ ⟨w.heap.size+1,0,M⟩ _).mono ?_;rintro e u' w7⟨rfl,rfl,rfl⟩;clear k0 k0' k1 k2 k3 f0 f0' f1 f2 f3;generalize hV:((((w6.setCell ⟨w.heap.size,0,M⟩ (Z av nv cv)).setCell ⟨w.heap.size,1,M⟩ (I O pE.1)).setCell ⟨w.heap.size,2,M⟩ (I O pE.2)).setCell ⟨w.heap.size,3,M⟩ (Z ax nx cx)).setCell ⟨w.heap.size+1,0,M⟩ .nilIface=W;obtain⟨q0,q0',q2,q3,q1,iO,ea,bl⟩:=Ą HY.1 HY.2 hV;have b7:=bl _ _ (Rb.trans (b6.mono À)) È;have hgt:w.heap.size+1<(wc.alloc ob).heap.size:=by simp;omega
  have HB':oq Rt.T (0,0) w.heap.size W.heap.size W (Z av nv cv) xs pE:=oq.mono Rt HW.1 À À λj h1 _ _=>iO j À À
  have HN:=And.intro (SU (ng HW.2.1 (λk _ _ hkn=>iO k (HNR.out k hkn).1 (HNR.out k hkn).2)) (show w.heap.size<=_ by omega)) HW.2.2;clear hV iO bl;have aW:Sp.parse A s.data.toList=.ok xs:=by unfold Sp.parse;rw[Â (by simp;omega),HR.out]
  simp[Leaves,settle,results,results19,go_sem,q0,q0',q2,q3,q1];exact iZ.aaK aW HB' b7 HN
theorem jK{Rp:nZ A}(Rt:kY A Rp)(s:ByteArray)(w:Wd)(hs:s.size<=1048576)(hL:Laid w) :
  Calls prog 19 #[χ s] w (iZ Rt s w (Sp.parse A s.data.toList)):=by
 by_cases h:s.size<=400
 .exact Aw Rt s w h hL
 .refine(Ci s w À).mono ?_
  rintro e w'⟨rfl,hb⟩;have aW:Sp.parse A s.data.toList=.error (1,0):=by unfold Sp.parse;rw[Á (by simp;omega)]
  exact iZ.bad aW (.inl ⟨rfl,rfl⟩) hb
end
end Go.Proofs.YtiopfihjmkfdmabGreatDoor
