import Derived.Test.YtiopfihjmkfdmaaGreatDoorR27
import Derived.Test.YtiopfihjmkfdmaaGreatDoorR28
import Derived.Test.YtiopfihjmkfdmaaGreatDoorR29
import Derived.Test.YtiopfihjmkfdmaaGreatDoorR37
namespace Go.Proofs.YtiopfihjmkfdmaaGreatDoor
open Go.Value renaming int→I,slice→Z,agg→J,bool→U,tuple→φ,string→χ,pointer→ρ,iface→σ
open Go.IntKind renaming i64→O
open Option renaming none→M,some→Y
open Go.Ending renaming returned→υ
open Go.Obj renaming cells→L
open Go.Proofs.Tryz Sp
open Go.RowKit
set_option maxRecDepth 100000
set_option maxHeartbeats 16000000
section
namespace RG
open Go.RowKit W
variable {δ : Bool}
section
variable{er:Nat × Nat}
theorem R8{src:Sp.Bs}(h:Sp.tree src=.error er):er.1≠0:=by have:=Px src er (by rw[Sp.print,Fp Sp.Pr src,h]);omega
theorem RX(s:ByteArray)(hmax:s.size<=1048576)(bY al narrow ai:Int)(th:Bool)(w:Wd)(ht:Sp.tree s.data.toList=.error er) :
  Calls prog 46 #[χ s,J #[I O bY,I O al,I O narrow,I O ai,U th]] w fun e w'=>e=υ (φ #[Z M 0 0,Z M 0 0,I O (er.1:Nat),I O (er.2:Nat)])/\ω w w':=by
 have hr:=fun w':Wd=>oL s hmax w'
 unfold gY at hr;rw[ht]at hr;have HR:=hid hr;have hz:¬ ((er.1:Int)=0):=by have:=R8 ht;omega
 have gU:((er.1:Int) == 0)=false:=by simpa using hz
 clear hr ht;go_enter func46,ntmps46;go_wp2_with fail;refine(HR.out _).mono ?_;rintro e w1⟨hb,rfl⟩;have HB:Hid (ω w w1):=(below_alloc1 _ _).trans (hb.mono (by simp));clear hb;go_wp2_with fail;try simp only[Exit.inBlock,Exit.then]
 refine bodyPost_ret (v:=φ #[Z M 0 0,Z M 0 0,I O (er.1:Int),I O (er.2:Int)]) (by simp[results,results46,go_sem]) rfl ?_;exact⟨rfl,HB.out⟩
def Dk(bY al narrow ai:Int):Prop:=¬ ((bY=0∨bY=1)/\0<=al/\al<=4/\0<=narrow/\narrow<=3/\0<=ai/\ai<=3)
theorem Sv(s:ByteArray)(hmax:s.size<=1048576)(bY al narrow ai:Int)(th:Bool)(w:Wd){t:Bl}(ht:Sp.tree s.data.toList=.ok t)(hc:Dk bY al narrow ai) :
  Calls prog 46 #[χ s,J #[I O bY,I O al,I O narrow,I O ai,U th]] w fun e w'=>e=υ (φ #[Z M 0 0,Z M 0 0,I O 5,I O 0])/\ω w w':=by
 have hr:=fun w':Wd=>oL s hmax w'
 unfold gY at hr;rw[ht]at hr;have HR:=hid hr;have main:(¬ bY=0/\¬ bY=1)∨(bY=0∨¬ bY=0/\bY=1)/\(al<0∨(¬ al<0)/\(4<al∨(¬ 4<al)/\(narrow<0∨(¬ narrow<0)/\(3<narrow∨(¬ 3<narrow)/\(ai<0∨(¬ ai<0)/\3<ai))))):=by unfold Dk at hc;omega
 clear hr ht hc;have h3:=heap_alloc_new w (L #[I O bY,I O al,I O narrow,I O ai,U th] 117);have HH:=hid h3;clear h3
 rcases main with⟨d0,d1⟩ | ⟨rfl | ⟨d0,rfl⟩,a0 | ⟨a0,a1 | ⟨a1,a2 | ⟨a2,a3 | ⟨a3,a4 | ⟨a4,a5⟩⟩⟩⟩⟩⟩
 all_goals
  go_enter func46,ntmps46;go_wp2_with fail;refine(HR.out _).mono ?_;rintro e w1⟨hb,pb,rfl,_,_⟩;have HB:Hid (ω w w1):=(below_alloc1 _ _).trans (hb.mono (by simp));have h3:=(hb.block _ (ad HH.out)).trans HH.out;have c0:=cell_of h3 0 rfl;have c1:=cell_of h3 1 (v:=I O al) rfl;have c2:=cell_of h3 2 (v:=I O narrow) rfl;have c3:=cell_of h3 3 (v:=I O ai) rfl;clear hb HR h3 HH;go_wp2_with fail;try simp only[Exit.inBlock,Exit.then]
  refine bodyPost_ret (v:=φ #[Z M 0 0,Z M 0 0,I O 5,I O 0]) (by simp[results,results46,go_sem]) rfl ?_;exact⟨rfl,HB.out⟩
end
end RG
end
section
namespace RG
open Go.RowKit W
variable {δ : Bool}
theorem Pl(hRD:RD δ)(hRW:∀C:Rc δ,RW C)(s:ByteArray)(hmax:s.size<=1048576)(al narrow ai:Nat)(hP:al<=4/\narrow<=3/\ai<=3)(th:Bool)(w:Wd){t:Bl}(ht:Sp.tree s.data.toList=.ok t) :
  Calls prog 46 #[χ s,J #[I O (dn δ),I O (al:Nat),I O (narrow:Nat),I O (ai:Nat),U th]] w fun e w'=>∃(C:Rc δ) (F:jr),e=υ (φ #[Z (Y ⟨C.gf,0,M⟩) F.1.length F.1.length,Z (Y ⟨C.gs,0,M⟩) F.2.length F.2.length,I O 0,I O 0])/\bK C F w'/\F=cE (Dm (⟨fG th t⟩:ar δ)) ⟨al,narrow,ai⟩ t/\ω w w':=by
 have hr:=fun w':Wd=>oL s hmax w'
 unfold gY at hr;rw[ht]at hr;have HR:=hid hr;have HRD:=hid hRD;have HRW:=hid hRW;clear hRD hRW;obtain⟨s1,s2,s3⟩:=wG ht;have HFW:Hid ((dH t).length<=800):=L1 ht;have QW:Hid (Sp.Small (0,0) (Sp.pB t) (Sp.qB t)):=by unfold Hid Sp.Small;simp only;omega
 have sr:=hid s3;obtain⟨n,hn⟩:∃n,n=Sp.pB t+1:=⟨_,rfl⟩;obtain⟨m,hm⟩:∃m,m=Sp.qB t:=⟨_,rfl⟩;have UD:Hid (n=Sp.pB t+1/\m=Sp.qB t):=⟨hn,hm⟩;have VJ:n<=401:=by omega
 have hm4:m<=400:=by omega
 obtain⟨cz,TT,Kt⟩:=P5 n (by omega);have HCZ:=hid TT;have QV:=wA m (by omega);obtain⟨sz,dC⟩:∃x,x=(cF (List.replicate m 0)).toArray:=⟨_,rfl⟩;rw[<-dC]at QV;have uV:=hid dC;obtain⟨q1,q2,q3⟩:=hP;have p1:¬ ((al:Nat):Int)<0:=by omega
 have p2:¬ 4<((al:Nat):Int):=by omega
 have p3:¬ ((narrow:Nat):Int)<0:=by omega
 have p4:¬ 3<((narrow:Nat):Int):=by omega
 have p5:¬ ((ai:Nat):Int)<0:=by omega
 have p6:¬ 3<((ai:Nat):Int):=by omega
 have h3:=heap_alloc_new w (L #[I O (dn δ),I O (al:Nat),I O (narrow:Nat),I O (ai:Nat),U th] 117);have HH:=hid h3;clear hr h3 s1 s2 s3 hn hm TT dC ht;go_enter func46,ntmps46;go_wp2_with fail;refine(HR.out _).mono ?_;rintro e w1⟨hb,pb,rfl,Q4,DY⟩;have HB:Hid (ω w w1):=(below_alloc1 _ _).trans (hb.mono (by simp));have h3:=(hb.block _ (ad HH.out)).trans HH.out;obtain⟨ns,first,qa,qc,nv,ct,Y4,qW,Im,DV,vp,hq3,Y3⟩:=zL.az DY QW.out;rw[<-UD.1,<-UD.2]at Y4;obtain⟨qs,Qp⟩:∃qs,qs=cW t:=⟨_,rfl⟩;rw[<-Qp]at Y4 DV vp Y3;have HQS:=hid Qp;have hq8:qs.length<=800:=by rw[Qp,fO,il,List.length_map];exact HFW.out
 have mH:=hid qW;have Yq:=hid Im;have HQ4:=hid Y3;have KE:=hid Y4;have H3:=hid h3;clear Qp qW Im Y3 hb DY Q4 HR HH Y4;have c0:=cell_of H3.out 0 (v:=I O (dn δ)) rfl;have c1:=cell_of H3.out 1 (v:=I O (al:Nat)) rfl;have c2:=cell_of H3.out 2 (v:=I O (narrow:Nat)) rfl;have c3:=cell_of H3.out 3 (v:=I O (ai:Nat)) rfl;clear h3;go_upto_region 4 with fail
 go_cut [62] from 25 to 61 (fun v62 wc=>v62=U false/\w1=wc)
 case first =>
  rcases Hj δ with⟨-,d1,-⟩ | ⟨-,d1,-⟩
  all_goals
   rw[d1]at c0;clear d1;go_wp2_with fail;go_meet;exact⟨by first | rfl | simp_all,rfl⟩
 case rest =>
 obtain⟨rfl,rfl⟩:=hcut;go_upto_region 6 with fail;clear c0 c1 c2 c3 p1 p2 p3 p4 p5 p6
 obtain⟨k3,e3⟩:∃k,k=w.heap.size:=⟨_,rfl⟩;rw[<-e3];rw[<-e3]at H3;clear e3
 go_cut [11] from 63 (fun v11 wc=>∃b gf gs:Nat,v11=ρ (Y ⟨b,0,M⟩)/\Hid (iO (δ:=δ) w1 ⟨w1.heap.size,b,pb,gf,gs,al,narrow,ai,th,Z M 0 0⟩ n m 0 wc))
 case first =>
  have Q6:w1.drew.heap[pb]?=Y (L #[nv,I O first,I O (n:Nat),I O (m:Nat),Z qa qs.length qc] 105)/\w1.drew.heap[k3]?=Y (L #[I O (dn δ),I O (al:Nat),I O (narrow:Nat),I O (ai:Nat),U th] 117):=⟨KE.out,H3.out⟩;refine wp_region_held_drew (S:=fun w':Wd=>w'.heap[pb]?=Y (L #[nv,I O first,I O (n:Nat),I O (m:Nat),Z qa qs.length qc] 105)/\w'.heap[k3]?=Y (L #[I O (dn δ),I O (al:Nat),I O (narrow:Nat),I O (ai:Nat),U th] 117)) (by kernel_rfl) Q6 (fun aa=>?_);refine tq 0 (ρ (Y ⟨pb,0,M⟩)) aa ?_;refine tk 1 (J #[I O (dn δ),I O (al:Nat),I O (narrow:Nat),I O (ai:Nat),U th]) rfl (fun w' h=>by have q0:=cell_of h.2 0 rfl;have q1:=cell_of h.2 1 rfl;have q2:=cell_of h.2 2 rfl;have q3:=cell_of h.2 3 rfl;have q4:=cell_of h.2 4 rfl;go_simp) aa ?_;refine tq 2 (ρ (Y ⟨pb,0,M⟩)) aa ?_;refine tq 3 (ρ (Y ⟨pb,0,M⟩)) aa ?_;refine tq 4 (ρ (Y ⟨pb,2,M⟩)) aa ?_;refine tk 5 (I O (n:Nat)) rfl (fun w' h=>by have q:=cell_of h.1 2 rfl;go_simp) aa ?_;refine tq 7 (ρ (Y ⟨pb,0,M⟩)) aa ?_;refine tq 8 (ρ (Y ⟨pb,0,M⟩)) aa ?_;refine tq 9 (ρ (Y ⟨pb,3,M⟩)) aa ?_;refine tk 10 (I O (m:Nat)) rfl (fun w' h=>by have q:=cell_of h.1 3 rfl;go_simp) aa ?_;have HK:Hid (∀W W':Wd,ω W W'->(W.heap[pb]?=Y (L #[nv,I O first,I O (n:Nat),I O (m:Nat),Z qa qs.length qc] 105)/\W.heap[k3]?=Y (L #[I O (dn δ),I O (al:Nat),I O (narrow:Nat),I O (ai:Nat),U th] 117))->(W'.heap[pb]?=Y (L #[nv,I O first,I O (n:Nat),I O (m:Nat),Z qa qs.length qc] 105)/\W'.heap[k3]?=Y (L #[I O (dn δ),I O (al:Nat),I O (narrow:Nat),I O (ai:Nat),U th] 117))):=fun W W' b h=>⟨(b.block _ (ad h.1)).trans h.1,(b.block _ (ad h.2)).trans h.2⟩
  have HV:Hid (ω w1 w1.drew):=(Below.refl _ _).drew;clear Q6;generalize w1.drew=V at *;refine xX 6 11 (fun K hK=>?c1) (fun K hK=>?c2)
  case' c1 =>
   simp only[bp,fB];go_simp;refine hK.out _ _ (HK.out _ _ (below_alloc1 V (L cz 121)) aa) (fun aa=>?_);clear hK K;refine bD 11 fun K hK=>?_
   simp only[bp];go_simp;refine hK.out _ _ (HK.out _ _ (below_alloc1 _ (L sz 3)) aa) (fun aa=>?_);clear hK K;obtain⟨g1,g2,gb⟩:=fh (w:=V) (o1:=L cz 121) (o2:=L sz 3) (Below.refl _ _);have HX:Hid (((V.alloc (L cz 121)).alloc (L sz 3)).heap[V.heap.size]?=Y (L cz 121)/\((V.alloc (L cz 121)).alloc (L sz 3)).heap[V.heap.size+1]?=Y (L sz 3)/\ω w1 ((V.alloc (L cz 121)).alloc (L sz 3))/\w1.heap.size<=V.heap.size/\w1.heap.size<=V.heap.size+1):=⟨g1,g2,HV.trans (gb.mono HV.size),HV.size,Nat.le_succ_of_le HV.size⟩;clear g1 g2 gb;generalize (V.alloc (L cz 121)).alloc (L sz 3)=X at *;generalize V.heap.size+1=gs at *;generalize V.heap.size=gf at *
  case' c2 =>
   simp only[bp,fB];go_simp;refine hK.out _ _ (HK.out _ _ (below_alloc1 V (L sz 3)) aa) (fun aa=>?_);clear hK K;refine bD 6 fun K hK=>?_
   simp only[bp];go_simp;refine hK.out _ _ (HK.out _ _ (below_alloc1 _ (L cz 121)) aa) (fun aa=>?_);clear hK K;obtain⟨g1,g2,gb⟩:=fh (w:=V) (o1:=L sz 3) (o2:=L cz 121) (Below.refl _ _);have HX:Hid (((V.alloc (L sz 3)).alloc (L cz 121)).heap[V.heap.size+1]?=Y (L cz 121)/\((V.alloc (L sz 3)).alloc (L cz 121)).heap[V.heap.size]?=Y (L sz 3)/\ω w1 ((V.alloc (L sz 3)).alloc (L cz 121))/\w1.heap.size<=V.heap.size+1/\w1.heap.size<=V.heap.size):=⟨g2,g1,HV.trans (gb.mono HV.size),Nat.le_succ_of_le HV.size,HV.size⟩;clear g1 g2 gb;generalize (V.alloc (L sz 3)).alloc (L cz 121)=X at *;generalize V.heap.size+1=gf at *;generalize V.heap.size=gs at *
  all_goals
   have hbu:=Lh pb (dn δ) (al:Nat) (narrow:Nat) (ai:Nat) th (Y ⟨gf,0,M⟩) n (Y ⟨gs,0,M⟩) m;refine tq 12 (J #[ρ (Y ⟨pb,0,M⟩),I O (dn δ),I O (al:Nat),I O (narrow:Nat),I O (ai:Nat),U th,Z M 0 0,Z (Y ⟨gf,0,M⟩) n n,Z (Y ⟨gs,0,M⟩) m m]) aa ?_;refine bD 13 fun K hK=>?_
   simp only[bp];go_simp;refine hK.out _ _ (HK.out _ _ (below_alloc1 X (L #[ρ (Y ⟨pb,0,M⟩),I O (dn δ),I O (al:Nat),I O (narrow:Nat),I O (ai:Nat),U th,Z M 0 0,Z (Y ⟨gf,0,M⟩) n n,Z (Y ⟨gs,0,M⟩) m m] 186)) aa) (fun aa=>?_);clear hK K;refine bD 14 fun K hK=>?_
   simp only[bp];go_simp;refine hK.out _ _ aa (fun _=>?_);clear hK K;refine wpAnyH_done (by kernel_rfl) ?_ _;have HZ:Hid (iO (δ:=δ) w1 ⟨w1.heap.size,X.heap.size,pb,gf,gs,al,narrow,ai,th,Z M 0 0⟩ n m 0 (X.alloc (L #[ρ (Y ⟨pb,0,M⟩),I O (dn δ),I O (al:Nat),I O (narrow:Nat),I O (ai:Nat),U th,Z M 0 0,Z (Y ⟨gf,0,M⟩) n n,Z (Y ⟨gs,0,M⟩) m m] 186))):=by obtain⟨x1,x2,x3,x4,x5⟩:=HX.out;have b:=below_alloc1 X (L #[ρ (Y ⟨pb,0,M⟩),I O (dn δ),I O (al:Nat),I O (narrow:Nat),I O (ai:Nat),U th,Z M 0 0,Z (Y ⟨gf,0,M⟩) n n,Z (Y ⟨gs,0,M⟩) m m] 186);exact⟨x3.trans (b.mono x3.size),heap_alloc_new _ _,⟨cz,(b.block _ (ad x1)).trans x1,HCZ.out,fun p hp=>absurd hp (Nat.not_lt_zero _)⟩,by rw[<-uV.out];exact(b.block _ (ad x2)).trans x2,rfl,x3.size,x4,x5⟩
   clear hbu aa;go_wp2_with fail;go_meet;exact⟨_,gf,gs,rfl,HZ⟩
 case rest =>
  obtain⟨b,gf,gs,rfl,hAz⟩:=hcut;clear Kt QV HCZ uV;go_wp2_with fail
  go_loopw [12] (fun v12 wr=>∃i:Nat,i<=n/\v12=I O i/\Hid (iO (δ:=δ) w1 ⟨w1.heap.size,b,pb,gf,gs,al,narrow,ai,th,Z M 0 0⟩ n m i wr)) (fun v12 _=>n - (intOf v12).toNat)
  case atStart=>exact⟨0,Nat.zero_le _,rfl,hAz⟩
  case round =>
   obtain⟨i,hi,rfl,hq⟩:=hrel;clear hAz;have sk:=cell_of ((hq.Eh.block _ (ad KE.out)).trans KE.out) 2 (v:=I O (n:Nat)) rfl;by_cases hin:i<n
   ·have XT:((i:Nat):Int)<((n:Nat):Int):=by omega
    have pF:((n:Nat):Int)<=401:=by omega
    obtain⟨J2,HJ⟩:∃J2,Hid (J2=i*2):=⟨_,rfl⟩;have HN:Hid (∀W:Wd,iO (δ:=δ) w1 ⟨w1.heap.size,b,pb,gf,gs,al,narrow,ai,th,Z M 0 0⟩ n m i W->iO (δ:=δ) w1 ⟨w1.heap.size,b,pb,gf,gs,al,narrow,ai,th,Z M 0 0⟩ n m (i+1) ((W.setCell ⟨gf,J2,M⟩ (U true)).setCell ⟨gf,J2+1,M⟩ (Z M 0 0))):=fun W h=>by rw[HJ.out];exact h.pt hin
    go_upto_region 10 with fail;have h0:iO (δ:=δ) w1 ⟨w1.heap.size,b,pb,gf,gs,al,narrow,ai,th,Z M 0 0⟩ n m i wr.drew:=hq.call (Below.refl _ _).drew
    have HF:Hid (∀W:Wd,iO (δ:=δ) w1 ⟨w1.heap.size,b,pb,gf,gs,al,narrow,ai,th,Z M 0 0⟩ n m i W->W.cell? ⟨b,7,M⟩=Y (Z (Y ⟨gf,0,M⟩) n n)/\(∃u,W.cell? ⟨gf,J2,M⟩=Y u)/\(∃u,W.cell? ⟨gf,J2+1,M⟩=Y u)/\W.frozen? ⟨gf,J2,M⟩=false/\W.frozen? ⟨gf,J2+1,M⟩=false):=fun W h=>by obtain⟨c,c1,c2,_⟩:=h.gf;rw[HJ.out];exact⟨cell_of h.aT 7 rfl,⟨_,cell_of c1 _ (Array.getElem?_eq_getElem (by omega))⟩,⟨_,cell_of c1 _ (Array.getElem?_eq_getElem (by omega))⟩,aw c1 _,aw c1 _⟩
    refine wp_region_held_drew (S:=fun w':Wd=>w'.cell? ⟨b,7,M⟩=Y (Z (Y ⟨gf,0,M⟩) n n)) (by kernel_rfl) (HF.out _ h0).1 (fun aa=>?_);have H0:=hid h0;clear h0 hq sk;generalize wr.drew=V at *;refine tq 0 (ρ (Y ⟨b,0,M⟩)) aa ?_;refine tq 1 (ρ (Y ⟨b,0,M⟩)) aa ?_;refine tq 2 (ρ (Y ⟨b,7,M⟩)) aa ?_;refine tq 3 (Z (Y ⟨gf,0,M⟩) n n) aa ?_;refine tq 4 (I O (i:Nat)) aa ?_;refine bD 5 fun K hK=>?_
    simp only[bp,fB];go_simp;refine(eZ _).mono ?_;rintro r w8⟨rfl,b8⟩;have H8:=hid (H0.call b8);go_wp2_with fail;refine hK.out _ _ (HF.out _ H8.out).1 (fun aa=>?_);clear hK K b8 H0;refine tk 6 (ρ (Y ⟨gf,J2,M⟩)) rfl (fun w' h=>by rw[HJ.out];go_simp) aa ?_;obtain⟨_,⟨u1,f1⟩,⟨u2,f2⟩,f3,f4⟩:=HF.out _ H8.out;have H9:=hid (HN.out _ H8.out);refine bD 7 fun K hK=>?_
    simp only[bp];go_simp;refine hK.out _ _ (by have q:=cell_of H9.aT 7 (v:=Z (Y ⟨gf,0,M⟩) n n) rfl;exact q) (fun _=>?_);clear hK K f1 f2 f3 f4 H8;refine wpAnyH_done (by kernel_rfl) ?_ _;go_wp2_with fail;exact⟨⟨i+1,by omega,by go_num,H9⟩,by simp[intOf];omega⟩
   ·obtain rfl:i=n:=by omega
    obtain⟨ii,XT,hiz,his,hib⟩:=info_parts LQ;have HB0:Hid (w1.heap.size<=wr.heap.size/\b<wr.heap.size/\gf<wr.heap.size/\gs<wr.heap.size):=by obtain⟨c,c1,_,_⟩:=hq.gf;exact⟨hq.Eh.size,ad hq.aT,ad c1,ad hq.gs⟩
    obtain⟨B,eB⟩:∃B,B=wr.heap.size:=⟨_,rfl⟩;have HBB:Hid (w1.heap.size<=B/\b<B/\gf<B/\gs<B):=by rw[eB];exact HB0.out
    have Ek:Hid (iO (δ:=δ) w1 ⟨w1.heap.size,b,pb,gf,gs,al,narrow,ai,th,Z M 0 0⟩ i m i wr/\wr.ownsRow B 3 1 (Z M 0 0) (0*2) ((u6 (qs.take 0)).map fun z=>I O z)/\B<=wr.heap.size):=⟨hq.out,⟨rfl,.inl ⟨rfl,rfl⟩⟩,by omega⟩;have HQI:Hid (∀q∈qs,oh q):=by intro q hqm;rw[HQS.out,fO]at hqm;exact sr.out q hqm
    clear HB0 eB hq;go_wp2_with fail;clear sk
    go_loopw [13] (fun Ua wr=>∃(j:Nat) (sv:Value),j<=qs.length/\(th=false->j=0)/\Ua=I O j/\Hid (iO (δ:=δ) w1 ⟨w1.heap.size,b,pb,gf,gs,al,narrow,ai,th,sv⟩ i m i wr/\wr.ownsRow B 3 1 sv (j*2) ((u6 (qs.take j)).map fun z=>I O z)/\B<=wr.heap.size)) (fun Ua _=>qs.length - (intOf Ua).toNat)
    case atStart=>exact⟨0,Z M 0 0,Nat.zero_le _,fun _=>rfl,rfl,Ek⟩
    case round =>
     obtain⟨j,sv,hj,hjt,rfl,hq⟩:=hrel;clear Ek;have h3:=(hq.1.Eh.block _ (ad H3.out)).trans H3.out;have Q4:=(hq.1.Eh.block _ (ad KE.out)).trans KE.out;have g4:=cell_of h3 4 (v:=U th) rfl;have p4:=cell_of Q4 4 (v:=Z qa qs.length qc) rfl;have aaA:((qs.length:Nat):Int)<=2000:=by omega
     have HPB:=hid Q4;clear h3 Q4;have more:(th=true/\j<qs.length)∨(th=false∨th=true/\¬ j<qs.length):=by
      cases th<;>by_cases h:j<qs.length<;>simp[h]
     rcases more with⟨rfl,Gm⟩ | Oa
     ·obtain⟨q,Wq⟩:∃q,qs[j]?=Y q:=⟨_,List.getElem?_eq_getElem Gm⟩
      have yf:((j:Nat):Int)<((qs.length:Nat):Int):=by omega
      obtain⟨gq,rfl,hgq,hcq⟩:=HQ4.out j q Wq;have Xq:wr.cell? ⟨gq,j,M⟩=Y (I O q):=by rw[hq.1.Eh.cell (p:=⟨gq,j,M⟩) hgq];exact hcq
      obtain⟨i1,i2⟩:=HQI.out q (List.mem_of_getElem? Wq);have Kp:IntKind.i64.wrap (-q)=-q:=by rw[IntKind.wrap_i64];omega
      have jo:Hid ((u6 (qs.take (j+1))).map (fun z=>Value.int O z)=((u6 (qs.take j)).map fun z=>Value.int O z) ++ [I O q,I O (-q)]):=by unfold Hid;rw[MB qs j q Wq,List.map_append];rfl
      have HGQ:=hid hgq;go_upto_region 14 with fail;have h0:iO (δ:=δ) w1 ⟨w1.heap.size,b,pb,gf,gs,al,narrow,ai,true,sv⟩ i m i wr.drew:=hq.1.call (Below.refl _ _).drew
      have nM:wr.drew.ownsRow B 3 1 sv (j*2) ((u6 (qs.take j)).map fun z=>Value.int O z):=aY hq.2.1 (fun _ _=>rfl);have hBW:B<=wr.drew.heap.size:=hq.2.2;have Q6:wr.drew.heap[pb]?=Y (L #[nv,I O first,I O (i:Nat),I O (m:Nat),Z (Y ⟨gq,0,M⟩) qs.length qc] 105)/\wr.drew.cell? ⟨gq,j,M⟩=Y (I O q):=⟨HPB.out,Xq⟩;obtain⟨sa,sc,rfl⟩:∃a c,sv=Z a (j*2) c:=by
       rcases nM.2 with⟨a1,a2⟩ | ⟨g',cap,cur,a1,_⟩
       ·exact⟨M,0,by rw[a1,a2]⟩
       ·exact⟨_,_,a1⟩
      refine wp_region_held_drew (S:=fun w':Wd=>w'.heap[pb]?=Y (L #[nv,I O first,I O (i:Nat),I O (m:Nat),Z (Y ⟨gq,0,M⟩) qs.length qc] 105)/\w'.cell? ⟨gq,j,M⟩=Y (I O q)) (by kernel_rfl) Q6 (fun aa=>?_);clear Q6 g4 p4 HPB Xq hcq hgq hq;generalize wr.drew=V at *;have m6:=cell_of h0.aT 6 (v:=Z sa (j*2) sc) rfl;refine tq 0 (ρ (Y ⟨b,0,M⟩)) aa ?_;refine tq 1 (ρ (Y ⟨b,0,M⟩)) aa ?_;refine tq 2 (ρ (Y ⟨b,0,M⟩)) aa ?_;refine tq 3 (ρ (Y ⟨b,6,M⟩)) aa ?_;refine tq 5 (ρ (Y ⟨pb,0,M⟩)) aa ?_;refine tq 6 (ρ (Y ⟨pb,0,M⟩)) aa ?_;refine tq 7 (ρ (Y ⟨pb,4,M⟩)) aa ?_;refine tk 8 (Z (Y ⟨gq,0,M⟩) qs.length qc) rfl (fun w' h=>by have q4:=cell_of h.1 4 (v:=Z (Y ⟨gq,0,M⟩) qs.length qc) rfl;go_simp) aa ?_;refine tq 9 (I O (j:Nat)) aa ?_;refine tq 10 (ρ (Y ⟨gq,j,M⟩)) aa ?_;refine tk 11 (I O q) rfl (fun w' h=>by have q4:=h.2;go_simp) aa ?_;refine tq 12 (ρ (Y ⟨pb,0,M⟩)) aa ?_;refine tq 13 (ρ (Y ⟨pb,0,M⟩)) aa ?_;refine tq 14 (ρ (Y ⟨pb,4,M⟩)) aa ?_;refine tk 15 (Z (Y ⟨gq,0,M⟩) qs.length qc) rfl (fun w' h=>by have q4:=cell_of h.1 4 (v:=Z (Y ⟨gq,0,M⟩) qs.length qc) rfl;go_simp) aa ?_;refine tq 16 (I O (j:Nat)) aa ?_;refine tq 17 (ρ (Y ⟨gq,j,M⟩)) aa ?_;refine tk 18 (I O q) rfl (fun w' h=>by have q4:=h.2;go_simp) aa ?_;refine tq 19 (I O (-q)) aa ?_;have Ye:Hid (∀W W':Wd,Below w1.heap.size W W'->(W.heap[pb]?=Y (L #[nv,I O first,I O (i:Nat),I O (m:Nat),Z (Y ⟨gq,0,M⟩) qs.length qc] 105)/\W.cell? ⟨gq,j,M⟩=Y (I O q))->(W'.heap[pb]?=Y (L #[nv,I O first,I O (i:Nat),I O (m:Nat),Z (Y ⟨gq,0,M⟩) qs.length qc] 105)/\W'.cell? ⟨gq,j,M⟩=Y (I O q))):=fun W W' bb h=>⟨(bb.block _ (ad KE.out)).trans h.1,by rw[bb.cell (p:=⟨gq,j,M⟩) HGQ.out];exact h.2⟩
      have hwV:=h0.Eh.size;have m6':(V.alloc (L #[I O q,I O (-q)] 3)).cell? ⟨b,6,M⟩=Y (Z sa (j*2) sc):=by rw[(below_alloc1 V (L #[I O q,I O (-q)] 3)).cell (p:=⟨b,6,M⟩) (ad h0.aT)];exact m6
      refine xX 4 20 (fun K hK=>?d1) (fun K hK=>?d2)
      case' d1 =>
       simp only[bp,fB];go_simp;refine hK.out _ _ aa (fun aa=>?_);clear hK K;refine bD 20 fun K hK=>?_
       simp only[bp];go_simp;refine hK.out _ _ (Ye.out _ _ ((below_alloc1 V (L #[I O q,I O (-q)] 3)).mono hwV) aa) (fun aa=>?_);clear hK K
      case' d2 =>
       simp only[bp,fB];go_simp;refine hK.out _ _ (Ye.out _ _ ((below_alloc1 V (L #[I O q,I O (-q)] 3)).mono hwV) aa) (fun aa=>?_);clear hK K;refine bD 4 fun K hK=>?_
       simp only[bp];go_simp;refine hK.out _ _ aa (fun aa=>?_);clear hK K
      all_goals
       have hX:=h0.call (below_alloc1 V (L #[I O q,I O (-q)] 3));have hRX:(V.alloc (L #[I O q,I O (-q)] 3)).ownsRow B 3 1 (Z sa (j*2) sc) (j*2) ((u6 (qs.take j)).map fun z=>Value.int O z):=aY nM (fun k hk=>Below.heap_alloc _ _ _ (bJ nM k hk).2.1);have pL:=heap_alloc_new V (L #[I O q,I O (-q)] 3);have hBX:B<=(V.alloc (L #[I O q,I O (-q)] 3)).heap.size:=by simp;omega
       clear m6 m6' h0 nM;generalize V.alloc (L #[I O q,I O (-q)] 3)=X at *;generalize V.heap.size=kx at *;obtain⟨v',w',hr,g2,g3,_,_⟩:=run_append_own_at (P:=prog) X B 35 35 3 ii (I O 0) 1 8 underlying35 XT hiz his hib rfl (by decide) _ _ _ hRX ⟨kx,0,M⟩ 2 2 [I O q,I O (-q)] rfl (World.news_of_block (cs:=#[I O q,I O (-q)]) (t:=3) (fr:=(0,0)) pL) (by simp[Value.oneCell']) (by unfold maxLen;omega) (by omega) hBX;have Yd:Below B X w':=(Below.refl _ _).grown g3 hBX (fun k hk=>(bJ hRX k hk).1);obtain⟨u1,u2,u3,u4⟩:=HBB.out;have VV:=hX.grown u1 Yd u2 u3 u4;obtain⟨gn,cn,rfl⟩:∃a c,v'=Z a (j*2+2) c:=by
        rcases g2.2 with⟨_,a2⟩ | ⟨g',cap,cur,a1,_⟩
        ·omega
        ·exact⟨_,_,a1⟩
       refine bD 21 fun K hK=>?_
       simp only[bp];rw[if_pos (by rfl)];refine Sh _ _ _ rfl rfl rfl hr ?_;simp only[Act.put];refine hK.out _ _ (Ye.out _ _ (Yd.mono u1) aa) (fun aa=>?_);clear hK K hr;refine tq 22 (ρ (Y ⟨b,0,M⟩)) aa ?_;refine tq 23 (ρ (Y ⟨b,6,M⟩)) aa ?_;have x6:=cell_of VV.aT 6 (v:=Z sa (j*2) sc) rfl;have f6:=aw VV.aT 6;have HF:Hid (iO (δ:=δ) w1 ⟨w1.heap.size,b,pb,gf,gs,al,narrow,ai,true,Z gn (j*2+2) cn⟩ i m i (w'.setCell ⟨b,6,M⟩ (Z gn (j*2+2) cn))/\(w'.setCell ⟨b,6,M⟩ (Z gn (j*2+2) cn)).ownsRow B 3 1 (Z gn (j*2+2) cn) ((j+1)*2) ((u6 (qs.take (j+1))).map fun z=>I O z)/\B<=(w'.setCell ⟨b,6,M⟩ (Z gn (j*2+2) cn)).heap.size):=by
        refine⟨VV.steps _,?_,?_⟩
        ·rw[jo.out,show(j+1)*2=j*2+2 by omega]
         exact aY g2 (fun k hk=>Below.heap_setCell _ _ _ _ (by have:=(bJ g2 k hk).1;show k≠b;omega))
        ·have:=Yd.size;simp only[World.setCell,Array.size_modify];omega
       refine bD 24 fun K hK=>?_
       simp only[bp];go_simp;refine hK.out _ _ (Ye.out _ _ ((Below.refl _ _).setCell (p:=⟨b,6,M⟩) VV.lb _) aa) (fun _=>?_);clear hK K x6 f6 VV hX hRX pL g2 g3 Yd aa;refine wpAnyH_done (by kernel_rfl) ?_ _;go_wp2_with fail;exact⟨⟨j+1,_,by omega,(fun h=>by cases h),by go_num,HF⟩,by simp[intOf];omega⟩
     ·obtain⟨μ,hL⟩:∃μ:List Int,μ=u6 (qs.take j):=⟨_,rfl⟩
      have HL:Hid (μ=if th then u6 qs else []):=by
       unfold Hid
       rcases Oa with rfl | ⟨rfl,hn⟩
       ·rw[hL,hjt rfl];rfl
       ·rw[hL,List.take_of_length_le (by omega)];rfl
      have VS:jg (δ:=δ) ⟨w1.heap.size,b,pb,gf,gs,al,narrow,ai,th,sv⟩ μ wr:=by
       obtain⟨_,nM,_⟩:=hq.out;have hlen:μ.length=j*2:=by rw[hL,Pm,List.length_take,Nat.min_eq_left hj]
       refine⟨?_,by omega⟩
       rcases nM.2 with⟨a1,a2⟩ | ⟨KF,cap,cur,a1,a2,a3,a4,a5,a6,a7⟩
       ·exact .inl ⟨List.eq_nil_of_length_eq_zero (by omega),a1⟩
       ·obtain⟨_,_,b3,b4⟩:=HBB.out
        refine .inr ⟨KF,cap,cur,by rw[hlen];exact a1,a3,fun k z hz=>?_,by show KF≠gf;omega,by show KF≠gs;omega,by omega,a5⟩;have hk:=(List.getElem?_eq_some_iff.1 hz).1;have q2:(cur.toList.take (j*2*1))[k]?=Y (I O z):=by rw[a7,List.getElem?_map,<-hL,hz];rfl
        rw[List.getElem?_take_of_lt (by omega)]at q2;rw[<-Array.getElem?_toList];exact q2
      have HSP:=hid VS;have Ik:Hid (bK (δ:=δ) ⟨w1.heap.size,b,pb,gf,gs,al,narrow,ai,th,sv⟩ (List.replicate i M,List.replicate m 0) wr):=hq.1.ra HRD.out (by omega) (by omega);have X7:=hid hq.1.Eh;have XV:gf<wr.heap.size/\gs<wr.heap.size:=by obtain⟨_,_,b3,b4⟩:=HBB.out;have:=hq.2.2;omega
      clear VS hq hjt hL;have Rf:=F3;obtain⟨zz,Ac⟩:∃zz,zz=XZ:=⟨_,rfl⟩;rw[<-Ac]at Rf;have Ta:Hid (zz=ia (fun _=>zT)):=by rw[Ac];exact MT
      clear Ac;have hE:(th=false∨th=true/\¬ ((j:Nat):Int)<((qs.length:Nat):Int)):=by
       rcases Oa with h | ⟨h1,h2⟩
       ·exact .inl h
       ·exact .inr ⟨h1,by omega⟩
      clear Oa;have NH:=hid XV;clear XV
      rcases hE with hE | ⟨hE,hE2⟩
      all_goals
       rw[hE]at g4;clear hE;go_upto_region 16 with fail;obtain⟨y1,y2,yb⟩:=fh (w:=wr) (o1:=L zz 191) (o2:=L #[U false,Z (Y ⟨wr.heap.size,0,M⟩) 8 8] 121) (Below.refl _ _)
       have HY:Hid (bK _ _ _/\jg _ μ _/\ω w1 _):=And.intro (Ik.call yb) (And.intro (HSP.bF (RK.aB yb Ik.le)) (X7.trans (yb.mono X7.size)));have hlq:=X7.size;clear yb Ik HSP X7 g4 p4 HPB Rf;try clear hE2
       generalize (wr.alloc (L zz 191)).alloc (L #[U false,Z (Y ⟨wr.heap.size,0,M⟩) 8 8] 121)=κ at *;obtain⟨lC,e14⟩:∃k,k=wr.heap.size+1:=⟨_,rfl⟩;rw[<-e14];rw[<-e14]at y2;have WI:w1.heap.size<=lC/\gf<lC/\gs<lC:=by have:=NH.out;omega
       clear e14 NH;generalize wr.heap.size=mF at *;have HYY:Hid (κ.heap[mF]?=Y (L zz 191)/\κ.heap[lC]?=Y (L #[U false,Z (Y ⟨mF,0,M⟩) 8 8] 121)/\w1.heap.size<=lC/\gf<lC/\gs<lC):=⟨y1,y2,WI⟩;clear y1 y2 hlq WI;obtain⟨es,u,hu⟩:∃es u,cD (⟨[-32768,32767] ++ μ⟩:ar δ) ⟨w1.heap.size,b,pb,gf,gs,al,narrow,ai,th,sv⟩ t (0,0) (Y fun _=>zT)=(es,u):=⟨_,_,rfl⟩;obtain⟨rg1,rg2⟩:=OZ (⟨[-32768,32767] ++ μ⟩:ar δ) ⟨w1.heap.size,b,pb,gf,gs,al,narrow,ai,th,sv⟩ QW.out (fun _=>zT) hu;have TG:=Sq (⟨[-32768,32767] ++ μ⟩:ar δ) ⟨w1.heap.size,b,pb,gf,gs,al,narrow,ai,th,sv⟩ QW.out hu;rw[<-UD.1,<-UD.2]at rg1 rg2 TG;have Ke:=hid TG;have XR:=hid rg2;have hD:=fun(W:Wd) (h1:bK (δ:=δ) ⟨w1.heap.size,b,pb,gf,gs,al,narrow,ai,th,sv⟩ (List.replicate i M,List.replicate m 0) W) (h2:jg (δ:=δ) ⟨w1.heap.size,b,pb,gf,gs,al,narrow,ai,th,sv⟩ μ W) (h3:ω w1 W) (h4:W.heap[mF]?=Y (L zz 191))=>RV (⟨[-32768,32767] ++ μ⟩:ar δ) μ rfl (C:=⟨w1.heap.size,b,pb,gf,gs,al,narrow,ai,th,sv⟩) (HRW.out _) ⟨q1,q2,q3⟩ mH.out sr.out rfl (ad KE.out) Yq.out h3 h1 h2 (e:=fun _=>zT) (ge:=mF) (fun _=>GV) (by rw[<-Ta.out];exact h4) hu rg1
       have HDO:=hid hD;have Ou:Hid (ew δ u):=by have q:ew δ (cD (⟨[-32768,32767] ++ μ⟩:ar δ) ⟨w1.heap.size,b,pb,gf,gs,al,narrow,ai,th,sv⟩ t (0,0) (Y fun _=>zT)).2:=Gc _ _ sr.out (0,0) (fun e' h=>by cases h;exact fun _=>GV);rw[hu]at q;exact q
       clear hu rg1 rg2 TG hD
       -- does
       have Q6:κ.drew.heap[pb]?=Y (L #[nv,I O first,I O (i:Nat),I O (m:Nat),Z qa qs.length qc] 105):=(HY.2.2.block _ (ad KE.out)).trans KE.out;have HDC:=hid (HDO.out κ.drew (HY.1.call (Below.refl _ _).drew) (HY.2.1.bF (RK.aB (Below.refl _ _).drew HY.1.le)) (HY.2.2.trans ((Below.refl _ _).drew)) HYY.1);have Ra:Hid (ω w1 κ.drew):=HY.2.2.trans ((Below.refl _ _).drew);have hk:κ.drew.heap[lC]?=Y (L #[U false,Z (Y ⟨mF,0,M⟩) 8 8] 121):=HYY.2.1;have UB:=hid hk;obtain⟨BZ,Qu,_⟩:=aR hk;refine wp_region_held_drew (S:=fun w':Wd=>w'.heap[pb]?=Y (L #[nv,I O first,I O (i:Nat),I O (m:Nat),Z qa qs.length qc] 105)) (by kernel_rfl) Q6 (fun aa=>?_);clear Q6 hk HDO HY;generalize κ.drew=V at *;refine tq 0 (ρ (Y ⟨b,0,M⟩)) aa ?_;refine tq 1 (ρ (Y ⟨pb,0,M⟩)) aa ?_;refine tq 2 (ρ (Y ⟨pb,0,M⟩)) aa ?_;refine tq 3 (ρ (Y ⟨pb,1,M⟩)) aa ?_;refine tk 4 (I O first) rfl (fun w' h=>by have q:=cell_of h 1 rfl;go_simp) aa ?_;refine bD 5 fun K hK=>?_
       simp only[bp,fB];go_simp;refine hK.out _ _ aa (fun aa=>?_);clear hK K;refine bD 6 fun K hK=>?_
       simp only[bp];go_simp;refine HDC.mono ?_;rintro r w2⟨a2,n2,c2,rfl,VY,k2,fK⟩;have BJ:w2.heap[pb]?=Y (L #[nv,I O first,I O (i:Nat),I O (m:Nat),Z qa qs.length qc] 105):=(k2.below.block _ (ad KE.out)).trans aa;obtain⟨v1,v2,v3⟩:=HYY.2.2;have XD:w2.heap[lC]?=Y (L #[U false,Z (Y ⟨mF,0,M⟩) 8 8] 121):=(k2.others _ (ad UB.out) (by show lC≠gf;omega) (by show lC≠gs;omega)).trans UB.out;obtain⟨z0,z1,yV,yO,_⟩:=aR XD;have Ro:pb≠lC:=by have:=ad KE.out;omega
       have NM:((w2.setCell ⟨lC,0,M⟩ (U u.isNone)).setCell ⟨lC,1,M⟩ (Z a2 n2 c2)).heap[pb]?=Y (L #[nv,I O first,I O (i:Nat),I O (m:Nat),Z qa qs.length qc] 105):=by rw[Below.heap_setCell _ _ _ _ Ro,Below.heap_setCell _ _ _ _ Ro];exact BJ
       have Xs:Hid (bK (δ:=δ) ⟨w1.heap.size,b,pb,gf,gs,al,narrow,ai,th,sv⟩ (told (⟨[-32768,32767] ++ μ⟩:ar δ) true (List.replicate i M,List.replicate m 0) es) ((w2.setCell ⟨lC,0,M⟩ (U u.isNone)).setCell ⟨lC,1,M⟩ (Z a2 n2 c2))/\dM ((w2.setCell ⟨lC,0,M⟩ (U u.isNone)).setCell ⟨lC,1,M⟩ (Z a2 n2 c2)) (J #[U u.isNone,Z a2 n2 c2]) u/\((w2.setCell ⟨lC,0,M⟩ (U u.isNone)).setCell ⟨lC,1,M⟩ (Z a2 n2 c2)).heap[lC]?=Y (Obj.cells #[U u.isNone,Z a2 n2 c2] 121)/\ω w1 ((w2.setCell ⟨lC,0,M⟩ (U u.isNone)).setCell ⟨lC,1,M⟩ (Z a2 n2 c2))):=And.intro (VY.LD XD (by show lC≠gf;omega) (U u.isNone) (Z a2 n2 c2)) (And.intro (fK.put XD (U u.isNone) (Z a2 n2 c2)) (And.intro (by rw[ah (ah XD 0 (U u.isNone)) 1 (Z a2 n2 c2)];rfl) (((Ra.trans k2.below).setCell (p:=⟨lC,0,M⟩) v1 _).setCell (p:=⟨lC,1,M⟩) v1 _)));clear BZ Qu VY k2 fK HDC Ra UB XD;go_wp2_with fail;refine hK.out _ _ BJ (fun aa=>?_);clear hK K;refine bD 7 fun K hK=>?_
       simp only[bp];go_simp;refine hK.out _ _ NM (fun aa=>?_);clear hK K;refine wpAnyH_done (by kernel_rfl) ?_ _;have xK:=hid NM;clear z0 z1 yV yO BJ NM aa;generalize (w2.setCell ⟨lC,0,M⟩ (U u.isNone)).setCell ⟨lC,1,M⟩ (Z a2 n2 c2)=w3 at *;go_wp2_with fail
       -- come
       have hS1:w3.drew.heap[pb]?=Y (L #[nv,I O first,I O (i:Nat),I O (m:Nat),Z qa qs.length qc] 105)/\w3.drew.heap[lC]?=Y (Obj.cells #[U u.isNone,Z a2 n2 c2] 121):=⟨xK.out,Xs.2.2.1⟩;have UN:=hid (xG (⟨[-32768,32767] ++ μ⟩:ar δ) ⟨w1.heap.size,b,pb,gf,gs,al,narrow,ai,th,sv⟩ _ ((Sp.pB t:Nat):Int) u _ true w3.drew (Xs.1.call (Below.refl _ _).drew) (Xs.2.1.below (Below.refl _ _).drew) Ou.out XR.out);have Ra:Hid (ω w1 w3.drew):=Xs.2.2.2.trans ((Below.refl _ _).drew);have aaw:IntKind.i64.wrap (((i:Nat):Int) - 1)=((Sp.pB t:Nat):Int):=by rw[IntKind.wrap_i64,UD.1];have:=VJ;have:=UD.1;omega
       refine wp_region_held_drew (S:=fun w':Wd=>w'.heap[pb]?=Y (L #[nv,I O first,I O (i:Nat),I O (m:Nat),Z qa qs.length qc] 105)/\w'.heap[lC]?=Y (Obj.cells #[U u.isNone,Z a2 n2 c2] 121)) (by kernel_rfl) hS1 (fun aa=>?_);clear hS1 xK Xs;generalize w3.drew=V3 at *;refine tq 0 (ρ (Y ⟨b,0,M⟩)) aa ?_;refine tq 1 (ρ (Y ⟨pb,0,M⟩)) aa ?_;refine tq 2 (ρ (Y ⟨pb,0,M⟩)) aa ?_;refine tq 3 (ρ (Y ⟨pb,2,M⟩)) aa ?_;refine tk 4 (I O (i:Nat)) rfl (fun w' h=>by have q:=cell_of h.1 2 rfl;go_simp) aa ?_;refine tq 5 (I O ((Sp.pB t:Nat):Int)) aa ?_;refine tk 6 (J #[U u.isNone,Z a2 n2 c2]) rfl (fun w' h=>by have q:=cell_of h.2 0 (v:=U u.isNone) rfl;have q2:=cell_of h.2 1 (v:=Z a2 n2 c2) rfl;go_simp) aa ?_;refine bD 7 fun K hK=>?_
       simp only[bp,fB];go_simp;refine UN.mono ?_;rintro r w4⟨rfl,Qf,k4⟩;rw[Ke.out]at Qf;have Rm:w4.heap[pb]?=Y (L #[nv,I O first,I O (i:Nat),I O (m:Nat),Z qa qs.length qc] 105)/\w4.heap[lC]?=Y (Obj.cells #[U u.isNone,Z a2 n2 c2] 121):=⟨(k4.below.block _ (ad KE.out)).trans aa.1,(k4.others _ (ad aa.2) (by show lC≠gf;omega) (by show lC≠gs;omega)).trans aa.2⟩;have Ec:Hid (ω w1 w4):=Ra.trans k4.below;have YE:Hid (cE (Dm (⟨[-32768,32767] ++ μ⟩:ar δ)) (ib (δ:=δ) ⟨w1.heap.size,b,pb,gf,gs,al,narrow,ai,th,sv⟩) t=cE (Dm (⟨fG th t⟩:ar δ)) ⟨al,narrow,ai⟩ t):=by
        have q:fG th t=[-32768,32767] ++ μ:=by unfold fG;rw[HL.out,HQS.out,fO];rfl
        unfold Hid;rw[q];rfl
       obtain⟨F4,hF4⟩:∃F4:jr,F4=cE (Dm (⟨[-32768,32767] ++ μ⟩:ar δ)) (ib (δ:=δ) ⟨w1.heap.size,b,pb,gf,gs,al,narrow,ai,th,sv⟩) t:=⟨_,rfl⟩;rw[<-hF4]at Qf;have HF4:Hid (F4=_):=hF4.trans YE.out;have HR4:=hid Qf;have m7:=cell_of Qf.aT 7 (v:=Z (Y ⟨gf,0,M⟩) F4.1.length F4.1.length) rfl;have m8:=cell_of Qf.aT 8 (v:=Z (Y ⟨gs,0,M⟩) F4.2.length F4.2.length) rfl;clear hF4 Qf k4 UN Ra aa YE Ke XR aaw;go_wp2_with fail;refine hK.out _ _ Rm (fun _=>?_);clear hK K Rm;refine wpAnyH_done (by kernel_rfl) ?_ _;go_wp2_with fail;go_quiet (fail);have HEN:Hid (bK (δ:=δ) ⟨w1.heap.size,b,pb,gf,gs,al,narrow,ai,th,sv⟩ F4 (w4.drewN nq)/\ω w (w4.drewN nq)):=⟨HR4.call (wT _ _),HB.trans ((Ec.trans ((wT _ _).mono Ec.size)).mono HB.size)⟩;clear m7 m8 HR4 Ec;go_wp2_with fail;try simp only[Exit.inBlock,Exit.then]
       refine bodyPost_ret (v:=φ #[Z (Y ⟨gf,0,M⟩) F4.1.length F4.1.length,Z (Y ⟨gs,0,M⟩) F4.2.length F4.2.length,I O 0,I O 0]) (by simp[results,results46,go_sem]) rfl ?_;exact⟨⟨w1.heap.size,b,pb,gf,gs,al,narrow,ai,th,sv⟩,F4,rfl,HEN.1,HF4.out,HEN.2⟩
end RG
end
section
namespace RG
open Go.RowKit W
variable {δ : Bool}
section
variable{a a':Option Addr}
theorem qb(s:ByteArray)(hs:s.size<=1048576)(bY al narrow ai:Int)(th:Bool)(w:Wd)(k p:Int)
  (hP:Calls prog 32 #[χ s,J #[I O bY,I O al,I O narrow,I O ai,U th]] w fun e w'=>∃t u,e=υ (φ #[J #[Z M 0 0,Z M 0 0],σ t u])/\(Calls prog 16 #[σ t u] (w'.alloc (L #[Z M 0 0,Z M 0 0] 64)) fun e w2=>e=υ (φ #[I O k,I O p])/\Below (w'.alloc (L #[Z M 0 0,Z M 0 0] 64)).heap.size (w'.alloc (L #[Z M 0 0,Z M 0 0] 64)) w2)/\ω w w')
  (hR:∀W:Wd,Calls prog 46 #[χ s,J #[I O bY,I O al,I O narrow,I O ai,U th]] W fun e w'=>e=υ (φ #[Z M 0 0,Z M 0 0,I O k,I O p])/\ω W w') :
  Calls prog 28 #[χ s,I O bY,I O al,I O narrow,I O ai,U th] w fun e w'=>e=υ (U true)/\ω w w':=by
 have fK:¬ (1048576:Int)<(s.size:Int):=by omega
 have HP:=hid hP;have HR:=hid hR;clear hP hR;go_enter func28,ntmps28;go_wp2_with fail;refine HP.mono ?_;rintro e w1⟨tt,uu,rfl,hT,b1⟩;have HB:Hid (ω w (w1.alloc (L #[Z M 0 0,Z M 0 0] 64))):=b1.trans ((below_alloc1 _ _).mono b1.size);have hx:=heap_alloc_new w1 (L #[Z M 0 0,Z M 0 0] 64);have HT:=hid hT;clear hT b1 HP;go_upto_region 4 with fail;generalize w1.alloc (L #[Z M 0 0,Z M 0 0] 64)=W at *
 generalize w1.heap.size=mF at *;go_wp2_with fail;refine HT.mono ?_;rintro e w2⟨rfl,b2⟩;have jQ:=(b2.block _ (ad hx)).trans hx;have kV:Hid (ω w w2):=HB.trans (b2.mono HB.size);clear b2 hx HB HT;go_wp2_with fail;refine(HR.out w2).mono ?_;rintro e w3⟨rfl,b3⟩;have xM:=(b3.block _ (ad jQ)).trans jQ;have xK:Hid (ω w w3):=kV.trans (b3.mono kV.size);clear b3 jQ kV HR;obtain⟨x0,x1,_⟩:=aR xM;go_wp2_with fail;refine(zK k w3).mono ?_;rintro e w4⟨rfl,rfl⟩;go_wp2_with fail
 go_loopw [21] (fun v wr=>v=I O 0/\wr=w4) (fun _ _=>0)
 case atStart=>exact⟨rfl,rfl⟩
 case round =>
  obtain⟨rfl,rfl⟩:=hrel;go_wp2_with fail
  go_loopw [23] (fun v wq=>v=I O 0/\wq=wr) (fun _ _=>0)
  case atStart=>exact⟨rfl,rfl⟩
  case round =>
   obtain⟨rfl,rfl⟩:=hrel;go_wp2_with fail;go_ret;exact⟨rfl,xK.out⟩
structure Ch(w:Wd)(mF:Nat)(a:Option Addr)(n:Nat)(a':Option Addr)(m:Nat)(C:Rc δ)(F:jr)(W:Wd):Prop where
 x:W.heap[mF]?=Y (L #[Z a n n,Z a' m m] 64)
 f:AY W a n a' m F
 ra:bK C F W
 b:ω w W
theorem Ch.call{w:Wd}{mF:Nat}{n:Nat}{m:Nat}{C:Rc δ}{F:jr}{W W':Wd}(h:Ch w mF a n a' m C F W)(k:ω W W'):Ch w mF a n a' m C F W' :=
 ⟨(k.block _ (ad h.x)).trans h.x,h.f.below k,h.ra.call k,h.b.trans (k.mono h.b.size)⟩
theorem yE(s:ByteArray)(hs:s.size<=1048576)(al narrow ai:Nat)(th:Bool)(w:Wd)(F:jr)
  (hP:Calls prog 32 #[χ s,J #[I O (dn δ),I O (al:Nat),I O (narrow:Nat),I O (ai:Nat),U th]] w fun e w'=>∃v,e=υ (φ #[v,.nilIface])/\zl w.heap.size w' v F/\ω w w')
  (hR:∀W:Wd,Calls prog 46 #[χ s,J #[I O (dn δ),I O (al:Nat),I O (narrow:Nat),I O (ai:Nat),U th]] W fun e w'=>∃(C:Rc δ),e=υ (φ #[Z (Y ⟨C.gf,0,M⟩) F.1.length F.1.length,Z (Y ⟨C.gs,0,M⟩) F.2.length F.2.length,I O 0,I O 0])/\bK C F w'/\ω W w') :
  Calls prog 28 #[χ s,I O (dn δ),I O (al:Nat),I O (narrow:Nat),I O (ai:Nat),U th] w fun e w'=>e=υ (U true)/\ω w w':=by
 have fK:¬ (1048576:Int)<(s.size:Int):=by omega
 have HP:=hid hP;have HR:=hid hR;clear hP hR;go_enter func28,ntmps28;go_wp2_with fail;refine HP.mono ?_;rintro e w1⟨v,rfl,hv,b1⟩;obtain⟨a,n,a',m,rfl,hV⟩:=AY.of hv;have hx:=heap_alloc_new w1 (L #[Z a n n,Z a' m m] 64);have bl:=below_alloc1 w1 (L #[Z a n n,Z a' m m] 64);have H1:Hid (AY (w1.alloc (L #[Z a n n,Z a' m m] 64)) a n a' m F/\ω w (w1.alloc (L #[Z a n n,Z a' m m] 64))/\(w1.alloc (L #[Z a n n,Z a' m m] 64)).heap[w1.heap.size]?=Y (L #[Z a n n,Z a' m m] 64)):=⟨hV.below bl,b1.trans (bl.mono b1.size),hx⟩;have UX:Hid (n=F.1.length/\m=F.2.length):=⟨hV.n,hV.m⟩;clear hv hV b1 bl hx HP;go_upto_region 4 with fail;generalize w1.alloc (L #[Z a n n,Z a' m m] 64)=W at *
 generalize w1.heap.size=mF at *;go_wp2_with fail;refine(KQ W).mono ?_;rintro e w2⟨rfl,b2⟩;have H2:Hid (AY w2 a n a' m F/\ω w w2/\w2.heap[mF]?=Y (L #[Z a n n,Z a' m m] 64)):=⟨H1.1.below b2,H1.2.1.trans (b2.mono H1.2.1.size),(b2.block _ (ad H1.2.2)).trans H1.2.2⟩;clear b2 H1;go_wp2_with fail;refine(HR.out w2).mono ?_;rintro e w3⟨C,rfl,X9,b3⟩;have H3:Hid (Ch w mF a n a' m C F w3):=⟨(b3.block _ (ad H2.2.2)).trans H2.2.2,H2.1.below b3,X9,H2.2.1.trans (b3.mono H2.2.1.size)⟩;have YP:((n:Nat):Int)<=1000:=by have:=X9.few.1;have:=UX.1;omega
 have hf2:((m:Nat):Int)<=1000:=by have:=X9.few.2;have:=UX.2;omega
 rw[<-UX.1,<-UX.2];clear b3 H2 HR X9;obtain⟨x0,x1,_⟩:=aR H3.x;go_wp2_with fail;refine(zK 0 w3).mono ?_;rintro e w4⟨rfl,rfl⟩;go_wp2_with fail;clear x0 x1
 go_loopw [21] (fun v wr=>∃j:Nat,j<=n/\v=I O j/\Hid (Ch w mF a n a' m C F wr)) (fun v _=>n - (intOf v).toNat)
 case atStart=>exact⟨0,Nat.zero_le _,rfl,H3⟩
 case round =>
  obtain⟨j,hj,rfl,hq⟩:=hrel;clear H3;by_cases RC:j<n
  ·have yf:((j:Nat):Int)<((n:Nat):Int):=by omega
   obtain⟨st,gI⟩:∃st,F.1[j]?=Y st:=⟨_,List.getElem?_eq_getElem (by have:=UX.1;omega)⟩;obtain⟨g,rfl,_⟩:=hq.f.f j st gI;have f17:=rJ st;obtain⟨u,v,hu,hv,hsv,_⟩:=hq.ra.f j st gI;obtain⟨va,vn,vc,ev⟩:=hsv.form;injection ev with ev
   have ev2:=congrArg Array.toList ev;simp at ev2;obtain⟨rfl,rfl⟩:=ev2;obtain⟨J2,HJ⟩:∃J2,Hid (J2=j*2):=⟨_,rfl⟩;have HF:Hid (∀W:Wd,ω wr W->W.heap[mF]?=Y (L #[Z (Y ⟨g,0,M⟩) n n,Z a' m m] 64)/\W.rangeAt g (j*17) (sD st).toList/\W.cell? ⟨C.gf,J2,M⟩=Y (U st.isNone)/\W.cell? ⟨C.gf,J2+1,M⟩=Y (Z va vn vc)/\dM W (J #[U st.isNone,Z va vn vc]) st):=fun W bW=>by
    have hW:=hq.call bW;obtain⟨g',e',r1⟩:=hW.f.f j st gI;cases e'
    rw[HJ.out];exact⟨hW.x,r1,by rw[bW.cell (p:=⟨C.gf,j*2,M⟩) (jk hu)];exact hu,by rw[bW.cell (p:=⟨C.gf,j*2+1,M⟩) (jk hv)];exact hv,hsv.below bW⟩
   have HQ:=hid hq;clear hu hv hsv ev hq;go_upto_region 11 with fail;refine wp_region_held_drew (S:=fun w':Wd=>w'.heap[mF]?=Y (L #[Z (Y ⟨g,0,M⟩) n n,Z a' m m] 64)/\w'.rangeAt g (j*17) (sD st).toList/\w'.cell? ⟨C.gf,J2,M⟩=Y (U st.isNone)/\w'.cell? ⟨C.gf,J2+1,M⟩=Y (Z va vn vc)/\dM w' (J #[U st.isNone,Z va vn vc]) st) (by kernel_rfl) (HF.out _ (Below.refl _ _).drew) (fun aa=>?_)
   have HD:Hid (ω wr wr.drew):=(Below.refl _ _).drew;generalize wr.drew=V at *;refine tq 0 (ρ (Y ⟨mF,0,M⟩)) aa ?_;refine tk 1 (Z (Y ⟨g,0,M⟩) n n) rfl (fun w' h=>by have q:=cell_of h.1 0 (v:=Z (Y ⟨g,0,M⟩) n n) rfl;go_simp) aa ?_;refine tq 2 (I O (j:Nat)) aa ?_;refine tq 3 (ρ (Y ⟨g,j*17,M⟩)) aa ?_;refine mB 4 rfl (yieldsIf_load_mid (by rfl) _ _ rfl _ _ rfl (sD st).toList _ (fun w' h=>h.2.1) underlying76 rfl (by rw[AN,Array.length_toList,f17])) aa ?_;refine tq 5 (Z (Y ⟨C.gf,0,M⟩) n n) aa ?_;refine tq 6 (I O (j:Nat)) aa ?_;refine tk 7 (ρ (Y ⟨C.gf,J2,M⟩)) rfl (fun w' h=>by rw[HJ.out];go_simp) aa ?_;refine tk 8 (J #[U st.isNone,Z va vn vc]) rfl (fun w' h=>by have q:=h.2.2.1;have q2:=h.2.2.2.1;go_simp) aa ?_;have HC:=hid (vM st _ V aa.2.2.2.2);refine bD 9 fun K hK=>?_
   simp only[bp,fB,Array.toArray_toList];go_simp;refine HC.mono ?_;rintro e w8⟨rfl,b8⟩;have T7:Hid (ω wr w8):=HD.trans (b8.mono HD.size);clear HC aa b8 HD;go_wp2_with fail;refine hK.out _ _ (HF.out _ T7.out) (fun aa=>?_);clear hK K;refine bD 10 fun K hK=>?_
   simp only[bp];go_simp;refine hK.out _ _ aa (fun _=>?_);clear hK K aa;refine wpAnyH_done (by kernel_rfl) ?_ _;have H9:Hid (Ch w mF (Y ⟨g,0,M⟩) n a' m C F w8):=HQ.call T7.out;clear HF HQ T7;go_wp2_with fail;exact⟨⟨j+1,by omega,by go_num,H9⟩,by simp[intOf];omega⟩
  ·obtain rfl:j=n:=by omega
   go_wp2_with fail
   go_loopw [23] (fun v wq=>∃i:Nat,i<=m/\v=I O i/\Hid (Ch w mF a j a' m C F wq)) (fun v _=>m - (intOf v).toNat)
   case atStart=>exact⟨0,Nat.zero_le _,rfl,hq⟩
   case round =>
    obtain⟨i,hi,rfl,vp⟩:=hrel;clear hq;by_cases him:i<m
    ·have XT:((i:Nat):Int)<((m:Nat):Int):=by omega
     obtain⟨q,Xz⟩:∃q,F.2[i]?=Y q:=⟨_,List.getElem?_eq_getElem (by have:=UX.2;omega)⟩;obtain⟨g,rfl,y0⟩:=vp.f.s i q Xz;obtain⟨y1,_⟩:=vp.ra.s i q Xz;obtain⟨x0,x1,_⟩:=aR vp.x;go_upto_region 17 with fail;go_quiet (fail)
     have H9:Hid (Ch w mF a j (Y ⟨g,0,M⟩) m C F (wr.drewN nq)):=vp.call (wT _ _);clear vp x0 x1 y0 y1;go_wp2_with fail;exact⟨⟨i+1,by omega,by go_num,H9⟩,by simp[intOf];omega⟩
    ·obtain rfl:i=m:=by omega
     have Kz:=hid vp.b;clear vp;go_wp2_with fail;go_ret;exact⟨rfl,Kz.out⟩
end
end RG
end
namespace W
theorem AH(al narrow ai:Nat)(th:Bool)(h1:al<=4)(h2:narrow<=3)(h3:ai<=3)(w:Wd) :
  Calls prog 49 #[J #[I O 1,I O (al:Nat),I O (narrow:Nat),I O (ai:Nat),U th]] w fun e w'=>e=υ (U true)/\ω w w':=by
 have H1:Hid (∀W,Calls _ _ _ W _):=fun W=>qk (al:Nat) 4 W (by omega) (by omega)
 have H2:Hid (∀W,Calls _ _ _ W _):=fun W=>qk (narrow:Nat) 3 W (by omega) (by omega)
 have H3:Hid (∀W,Calls _ _ _ W _):=fun W=>qk (ai:Nat) 3 W (by omega) (by omega)
 clear h1 h2 h3;go_enter func49,ntmps49;go_wp2_with fail;refine(H1.out _).mono ?_;rintro r w1⟨rfl,rfl⟩;go_wp2_with fail;refine(H2.out _).mono ?_;rintro r w1⟨rfl,rfl⟩;go_wp2_with fail;refine(H3.out _).mono ?_;rintro r w1⟨rfl,rfl⟩;go_wp2_with fail;go_ret;exact⟨rfl,by go_grown⟩
def SI(w:Wd)(P:zB)(th:Bool):Except (Nat × Nat) Sp.Bl->Ending->Wd->Prop
 | .ok t,e,w'=>∃v,e=υ (φ #[v,.nilIface])/\zl w.heap.size w' v (cE (Dm (⟨fG th t⟩:ar false)) P t)/\ω w w'
 | .error _,_,_=>True
theorem LA{B:Nat}{w:Wd}{g h:Nat}(F:Vb)(p q:Nat)(l1:F.1.length=p+1)(l2:F.2.length=q)(e1:w.heap[g]?=Y (L (eH F.1).toArray 76))(e2:w.heap[h]?=Y (L (cF F.2).toArray 3))(e3:B<=g)(e4:B<=h) :
  zl B w (J #[Z (Y ⟨g,0,M⟩) (p+1) (p+1),Z (Y ⟨h,0,M⟩) q q]) F:=⟨g,h,by rw[l1,l2],e3,e4,e1,e2⟩
theorem yA(s:ByteArray){t0:Sp.Bl}(Kb:Sp.tree s.data.toList=.ok t0)(al narrow ai:Nat)(th:Bool)(w:Wd)(hs:s.size<=1048576)(hL:Laid w)(hT:jD w)(h1:al<=4)(h2:narrow<=3)(h3:ai<=3) :
  Calls prog 32 #[χ s,J #[I O 1,I O (al:Nat),I O (narrow:Nat),I O (ai:Nat),U th]] w (SI w ⟨al,narrow,ai⟩ th (Sp.tree s.data.toList)):=by
 obtain⟨k0,k1,kb⟩:=fh (w:=w) (o1:=L #[I O 1,I O (al:Nat),I O (narrow:Nat),I O (ai:Nat),U th] 58) (o2:=L #[Z M 0 0,Z M 0 0] 64) (Below.refl _ _);have dC:((w.alloc (L #[I O 1,I O (al:Nat),I O (narrow:Nat),I O (ai:Nat),U th] 58)).alloc (L #[Z M 0 0,Z M 0 0] 64)).heap.size=w.heap.size+1+1:=by simp
 have hc:=lK (Sn false) s ((w.alloc (L #[I O 1,I O (al:Nat),I O (narrow:Nat),I O (ai:Nat),U th] 58)).alloc (L #[Z M 0 0,Z M 0 0] 64)) hs (hL.below kb hL.size);have K0:=hid k0;have K1:=hid k1;have KB:=hid kb;clear k0 k1 kb;cases hr:Sp.parse Sp.Tr s.data.toList with
 | error er =>unfold Sp.tree at Kb;rw[hr]at Kb;cases Kb
 | ok xs =>
  have htr:Sp.tree s.data.toList=.ok (aW xs):=by unfold Sp.tree;rw[hr]
  have E:=hid htr;rw[hr]at hc;obtain⟨Aa,Y3,_⟩:=wG htr;have Wl:Hid (∀W,Calls _ _ _ W _):=fun W=>AH al narrow ai th h1 h2 h3 W
  go_enter func32,ntmps32;go_wp2_with fail;generalize (w.alloc (L #[I O 1,I O (al:Nat),I O (narrow:Nat),I O (ai:Nat),U th] 58)).alloc (L #[Z M 0 0,Z M 0 0] 64)=wz at *;refine hc.mono ?_;rintro e w1⟨v,ct1,nvv,ns1,rfl,hv,b1,nM,Ig⟩;obtain⟨va,vn,vc,rfl⟩:=eM hv;obtain⟨na,nn,nc,rfl⟩:=mQ nM;have hB:=vT hv;generalize ht:aW xs=t at *;have TU:Sp.Small (0,0) (Sp.pB t) (Sp.qB t):=⟨by simp,by simp,by simp;omega,by simp;omega⟩;have Ox:=hB.cb;rw[fY t (0,0) TU]at Ox;obtain⟨p,hp⟩:∃p:Nat,ct1.1=(p:Int):=⟨Sp.pB t,by rw[<-Ox];simp⟩;obtain⟨q,hq⟩:∃q:Nat,ct1.2=(q:Int):=⟨Sp.qB t,by rw[<-Ox];simp⟩;have hpp:p=Sp.pB t:=by have:=congrArg Prod.fst Ox;simp at this;omega
  have Xz:q=Sp.qB t:=by have:=congrArg Prod.snd Ox;simp at this;omega
  obtain⟨c1,c2⟩:=ct1;simp only at hp hq;subst hp hq;simp only;have kp:=below_alloc1 w1 (L #[Z va vn vc,I O (p:Nat),I O (q:Nat),Z na nn nc] 86);have gU:(w1.alloc (L #[Z va vn vc,I O (p:Nat),I O (q:Nat),Z na nn nc] 86)).heap[w.heap.size+1]?=Y (L #[Z M 0 0,Z M 0 0] 64):=heap_alloc_old (by rw[b1.block _ (by omega)];exact K1.out);have so:(w1.alloc (L #[Z va vn vc,I O (p:Nat),I O (q:Nat),Z na nn nc] 86)).heap[w.heap.size]?=Y (L #[I O 1,I O (al:Nat),I O (narrow:Nat),I O (ai:Nat),U th] 58):=heap_alloc_old (by rw[b1.block _ (by omega)];exact K0.out);have yK:=heap_alloc_new w1 (L #[Z va vn vc,I O (p:Nat),I O (q:Nat),Z na nn nc] 86);have Yy:=KB.trans (b1.mono (by omega));have HRP:Hid (∀W,ω w1 W->Calls prog 50 #[J #[Z va vn vc,I O (p:Nat),I O (q:Nat),Z na nn nc],J #[I O 1,I O (al:Nat),I O (narrow:Nat),I O (ai:Nat),U th],σ 128 (J #[])] W fun r w'=>∃v,r=υ v/\zl W.heap.size w' v (cE (Dm (⟨fG th t⟩:ar false)) ⟨al,narrow,ai⟩ t)/\ω W w'):=fun W hW=>by have hd:fL W.heap.size (⟨fG th t⟩:ar false) (J #[]) W:=O1 _ (Nat.le_refl _);have vq:=Yy.trans (hW.mono Yy.size);have:=Be W (⟨fG th t⟩:ar false) (J #[]) 1 al narrow ai th p q (by omega) (by omega) (by omega) (by omega) (Z va vn vc) (Z na nn nc) ⟨_,_,_,rfl⟩ ⟨_,_,_,rfl⟩ t ⟨hd,hT.below vq hL.size,Nat.le_trans hL.size vq.size⟩ TU wz.heap.size w1.heap.size w1 (fun k _ h2 _=>hW.block k h2) hW.size hB;refine this.mono ?_;rintro r w'⟨g,h,rfl,e1,e2,e3,e4,e5⟩;have hl:=Fo (Dm (⟨fG th t⟩:ar false)) ⟨al,narrow,ai⟩ t TU;have e1:w'.heap[g]?=Y (L (eH (cE (Dm (⟨fG th t⟩:ar false)) ⟨al,narrow,ai⟩ t).1).toArray 76):=e1;have e2:w'.heap[h]?=Y (L (cF (cE (Dm (⟨fG th t⟩:ar false)) ⟨al,narrow,ai⟩ t).2).toArray 3):=e2;generalize cE (Dm (⟨fG th t⟩:ar false)) ⟨al,narrow,ai⟩ t=F at *;exact⟨_,rfl,LA F p q (by rw[hpp];exact hl.1) (by rw[Xz];exact hl.2) e1 e2 e3 e4,e5⟩
  have Kk:=hid Yy;have HKP:=hid kp;have Kc:=hid gU;have yS:=hid so;have Oe:=hid yK;have d0:=cell_of so 0 (v:=I O 1) rfl;have d1:=cell_of so 1 (v:=I O (al:Nat)) rfl;have d2:=cell_of so 2 (v:=I O (narrow:Nat)) rfl;have d3:=cell_of so 3 (v:=I O (ai:Nat)) rfl;have d4:=cell_of so 4 (v:=U th) rfl;have hls:w.heap.size+1<w1.heap.size:=by have:=b1.size;omega
  clear hc hv nM Ig hB hT hL kp gU so yK hr ht Ox b1 Yy hpp Xz;go_wp2_with fail;refine(Wl.out _).mono ?_;rintro r w3⟨rfl,b3⟩;have xK:Hid (ω w1 w3):=HKP.trans (b3.mono HKP.size);have tz:=(b3.block _ (ad Kc.out)).trans Kc.out;have Bz:=(b3.block _ (ad yS.out)).trans yS.out;have Gt:=(b3.block _ (ad Oe.out)).trans Oe.out;have NO:=hid tz;clear d0 d1 d2 d3 d4 Kc yS Oe HKP Wl b3;have d0:=cell_of Bz 0 (v:=I O 1) rfl;have d1:=cell_of Bz 1 (v:=I O (al:Nat)) rfl;have d2:=cell_of Bz 2 (v:=I O (narrow:Nat)) rfl;have d3:=cell_of Bz 3 (v:=I O (ai:Nat)) rfl;have d4:=cell_of Bz 4 (v:=U th) rfl;have p0:=cell_of Gt 0 (v:=Z va vn vc) rfl;have p1:=cell_of Gt 1 (v:=I O (p:Nat)) rfl;have p2:=cell_of Gt 2 (v:=I O (q:Nat)) rfl;have p3:=cell_of Gt 3 (v:=Z na nn nc) rfl;clear tz Bz Gt;go_wp2_with fail;refine(HRP.out _ xK.out).mono ?_;rintro r w6⟨v,rfl,⟨g,h,hv,g1,g2,g3,g4⟩,b6⟩;have OE:=(b6.block _ (ad NO.out)).trans NO.out;have B6:Hid (ω w1 w6):=xK.trans (b6.mono xK.size);have hl5:=xK.size;clear d0 d1 d2 d3 d4 p0 p1 p2 p3 NO HRP b6;generalize hFF:cE (Dm (⟨fG th t⟩:ar false)) ⟨al,narrow,ai⟩ t=F at *;have HFF:=hid hFF;clear hFF;obtain⟨n1,Wi⟩:∃n1,Hid (n1=F.1.length):=⟨_,rfl⟩;obtain⟨n2,od⟩:∃n2,Hid (n2=F.2.length):=⟨_,rfl⟩;obtain rfl:v=J #[Z (Y ⟨g,0,M⟩) n1 n1,Z (Y ⟨h,0,M⟩) n2 n2]:=by rw[hv,Wi.out,od.out];rfl
  obtain⟨m0,m1,nL,nK,mq⟩:=aR OE;have h2:=ah (ah OE 0 (Z (Y ⟨g,0,M⟩) n1 n1)) 1 (Z (Y ⟨h,0,M⟩) n2 n2);have Q0:Hid (_=_):=cell_of h2 0 (v:=Z (Y ⟨g,0,M⟩) n1 n1) rfl;have Q1:Hid (_=_):=cell_of h2 1 (v:=Z (Y ⟨h,0,M⟩) n2 n2) rfl;have YE:Hid (zl w.heap.size ((w6.setCell ⟨w.heap.size+1,0,M⟩ (Z (Y ⟨g,0,M⟩) n1 n1)).setCell ⟨w.heap.size+1,1,M⟩ (Z (Y ⟨h,0,M⟩) n2 n2)) (J #[Z (Y ⟨g,0,M⟩) n1 n1,Z (Y ⟨h,0,M⟩) n2 n2]) F):=⟨g,h,(by rw[Wi.out,od.out];rfl),by omega,by omega,by rw[Below.heap_setCell _ _ _ _ (by show g≠w.heap.size+1;omega),Below.heap_setCell _ _ _ _ (by show g≠w.heap.size+1;omega)];exact g3,by rw[Below.heap_setCell _ _ _ _ (by show h≠w.heap.size+1;omega),Below.heap_setCell _ _ _ _ (by show h≠w.heap.size+1;omega)];exact g4⟩;have BL:Hid (ω w ((w6.setCell ⟨w.heap.size+1,0,M⟩ (Z (Y ⟨g,0,M⟩) n1 n1)).setCell ⟨w.heap.size+1,1,M⟩ (Z (Y ⟨h,0,M⟩) n2 n2))):=((Kk.trans (B6.mono Kk.size)).setCell (p:=⟨w.heap.size+1,0,M⟩) (by show w.heap.size<=w.heap.size+1;omega) _).setCell (p:=⟨w.heap.size+1,1,M⟩) (by show w.heap.size<=w.heap.size+1;omega) _;clear mq h2 OE g3 g4 Wi od hv;go_wp2_with fail;exact bodyPost_ret (v:=φ #[J #[Z (Y ⟨g,0,M⟩) n1 n1,Z (Y ⟨h,0,M⟩) n2 n2],.nilIface]) (by simp[results,results32,go_sem,Q0.out,Q1.out]) rfl (by rw[E.out];exact⟨_,rfl,by rw[HFF.out];exact YE.out,BL.out⟩)
end W
section
open Go.RowKit W
theorem DL(s:ByteArray)(bY al narrow ai:Int)(th:Bool)(w:Wd)(hs:s.size<=1048576)(hL:Laid w){er:Nat × Nat}(ht:Sp.tree s.data.toList=.error er) :
  Calls prog 32 #[χ s,J #[I O bY,I O al,I O narrow,I O ai,U th]] w fun e w'=>∃v,e=υ (φ #[J #[Z M 0 0,Z M 0 0],v])/\kj w' w.heap.size v er/\ω w w':=by
 obtain⟨k0,k1,kb⟩:=fh (w:=w) (o1:=L #[I O bY,I O al,I O narrow,I O ai,U th] 58) (o2:=L #[Z M 0 0,Z M 0 0] 64) (Below.refl _ _);have dC:((w.alloc (L #[I O bY,I O al,I O narrow,I O ai,U th] 58)).alloc (L #[Z M 0 0,Z M 0 0] 64)).heap.size=w.heap.size+1+1:=by simp
 have hc:=lK (Sn false) s ((w.alloc (L #[I O bY,I O al,I O narrow,I O ai,U th] 58)).alloc (L #[Z M 0 0,Z M 0 0] 64)) hs (hL.below kb hL.size);have K1:=hid k1;have KB:=hid kb;clear k0 k1 kb;cases hr:Sp.parse Sp.Tr s.data.toList with
 | ok xs=>unfold Sp.tree at ht;rw[hr]at ht;cases ht
 | error Yv =>
  obtain rfl:Yv=er:=by unfold Sp.tree at ht;rw[hr]at ht;cases ht;rfl
  rw[hr]at hc;clear ht;go_enter func32,ntmps32;go_wp2_with fail;generalize (w.alloc (L #[I O bY,I O al,I O narrow,I O ai,U th] 58)).alloc (L #[Z M 0 0,Z M 0 0] 64)=wz at *;refine hc.mono ?_;rintro e w1⟨v,rfl,hv,b1⟩;obtain⟨tv,uv,rfl⟩:=zF hv;have pF:(w1.alloc (L #[Z M 0 0,I O 0,I O 0,Z M 0 0] 86)).heap[w.heap.size+1]?=Y (L #[Z M 0 0,Z M 0 0] 64):=heap_alloc_old (by rw[b1.block _ (by omega)];exact K1.out);have c0:=cell_of pF 0 (v:=Z M 0 0) rfl;have c1:=cell_of pF 1 (v:=Z M 0 0) rfl;have f0:=aw pF 0;have f1:=aw pF 1;have h2:=ah (ah pF 0 (Z M 0 0)) 1 (Z M 0 0);have Q0:Hid (_=_):=cell_of h2 0 (v:=Z M 0 0) rfl;have Q1:Hid (_=_):=cell_of h2 1 (v:=Z M 0 0) rfl;have HV:Hid (kj (((w1.alloc (L #[Z M 0 0,I O 0,I O 0,Z M 0 0] 86)).setCell ⟨w.heap.size+1,0,M⟩ (Z M 0 0)).setCell ⟨w.heap.size+1,1,M⟩ (Z M 0 0)) w.heap.size (σ tv uv) Yv) :=
   (((hv.laid _).set (by omega)).set (by omega)).weaken (by omega)
  have B:Hid (ω w (((w1.alloc (L #[Z M 0 0,I O 0,I O 0,Z M 0 0] 86)).setCell ⟨w.heap.size+1,0,M⟩ (Z M 0 0)).setCell ⟨w.heap.size+1,1,M⟩ (Z M 0 0))) :=
   (((KB.trans (b1.mono (by omega))).alloc (by have:=b1.size;omega) _).setCell (p:=⟨w.heap.size+1,0,M⟩) (by show w.heap.size<=w.heap.size+1;omega) _).setCell (p:=⟨w.heap.size+1,1,M⟩) (by show w.heap.size<=w.heap.size+1;omega) _
  clear hv hc pF h2;go_wp2_with fail;exact bodyPost_ret (v:=φ #[J #[Z M 0 0,Z M 0 0],σ tv uv]) (by simp[results,results32,go_sem,Q0.out,Q1.out]) rfl ⟨_,rfl,HV.out,B.out⟩
theorem qt(n m:Int)(w:Wd):Calls prog 42 #[I O n,I O m] w fun e w'=>e=υ (U (decide (0<=n/\n<=m)))/\w'=w:=by
 by_cases h1:0<=n
 ·by_cases h2:n<=m
  ·rw[show decide (0<=n/\n<=m)=true from decide_eq_true ⟨h1,h2⟩]
   go_enter func42,ntmps42;go_wp2_with fail;go_ret;exact⟨rfl,rfl⟩
  ·rw[show decide (0<=n/\n<=m)=false from decide_eq_false (fun h=>h2 h.2)]
   go_enter func42,ntmps42;go_wp2_with fail;go_ret;exact⟨rfl,rfl⟩
 ·rw[show decide (0<=n/\n<=m)=false from decide_eq_false (fun h=>h1 h.1)]
  go_enter func42,ntmps42;go_wp2_with fail;go_ret;exact⟨rfl,rfl⟩
theorem C3(bY al narrow ai:Int)(th:Bool)(hc:¬ ((bY=0∨bY=1)/\0<=al/\al<=4/\0<=narrow/\narrow<=3/\0<=ai/\ai<=3))(w:Wd) :
  Calls prog 49 #[J #[I O bY,I O al,I O narrow,I O ai,U th]] w fun e w'=>e=υ (U false)/\ω w w':=by
 have main:(¬ bY=0/\¬ bY=1)∨((bY=0∨¬ bY=0/\bY=1)/\((¬ (0<=al/\al<=4))∨(0<=al/\al<=4)/\((¬ (0<=narrow/\narrow<=3))∨(0<=narrow/\narrow<=3)/\¬ (0<=ai/\ai<=3)))):=by omega
 have H1:Hid (∀W,Calls _ _ _ W _):=fun W=>qt al 4 W
 have H2:Hid (∀W,Calls _ _ _ W _):=fun W=>qt narrow 3 W
 have H3:Hid (∀W,Calls _ _ _ W _):=fun W=>qt ai 3 W
 clear hc
 rcases main with⟨d0,d1⟩ | ⟨rfl | ⟨d0,rfl⟩,a | ⟨a,b | ⟨b,c⟩⟩⟩
 ·clear H1 H2 H3
  go_enter func49,ntmps49;go_wp2_with fail;go_ret;exact⟨rfl,by go_grown⟩
 all_goals
  try rw[decide_eq_false a]at H1
  try rw[decide_eq_true a]at H1
  try rw[decide_eq_false b]at H2
  try rw[decide_eq_true b]at H2
  try rw[decide_eq_false c]at H3
  try clear a
  try clear b
  try clear c
  try clear d0
  go_enter func49,ntmps49;go_wp2_with fail;refine(H1.out _).mono ?_;rintro r w1⟨rfl,rfl⟩;go_wp2_with fail;try
   refine(H2.out _).mono ?_;rintro r w1⟨rfl,rfl⟩;go_wp2_with fail
  try
   refine(H3.out _).mono ?_;rintro r w1⟨rfl,rfl⟩;go_wp2_with fail
  go_ret;exact⟨rfl,by go_grown⟩
theorem CW(s:ByteArray)(bY al narrow ai:Int)(th:Bool)(w:Wd)(hs:s.size<=1048576)(hL:Laid w){t:Sp.Bl}(ht:Sp.tree s.data.toList=.ok t)(D0:¬ ((bY=0∨bY=1)/\0<=al/\al<=4/\0<=narrow/\narrow<=3/\0<=ai/\ai<=3)) :
  Calls prog 32 #[χ s,J #[I O bY,I O al,I O narrow,I O ai,U th]] w fun e w'=>e=υ (φ #[J #[Z M 0 0,Z M 0 0],σ 26 (I O 5)])/\ω w w':=by
 obtain⟨k0,k1,kb⟩:=fh (w:=w) (o1:=L #[I O bY,I O al,I O narrow,I O ai,U th] 58) (o2:=L #[Z M 0 0,Z M 0 0] 64) (Below.refl _ _);have dC:((w.alloc (L #[I O bY,I O al,I O narrow,I O ai,U th] 58)).alloc (L #[Z M 0 0,Z M 0 0] 64)).heap.size=w.heap.size+1+1:=by simp
 have hc:=lK (Sn false) s ((w.alloc (L #[I O bY,I O al,I O narrow,I O ai,U th] 58)).alloc (L #[Z M 0 0,Z M 0 0] 64)) hs (hL.below kb hL.size);have K0:=hid k0;have K1:=hid k1;have KB:=hid kb;have Wl:Hid (∀W,Calls _ _ _ W _):=fun W=>C3 bY al narrow ai th D0 W
 clear k0 k1 kb D0;cases hr:Sp.parse Sp.Tr s.data.toList with
 | error er=>unfold Sp.tree at ht;rw[hr]at ht;cases ht
 | ok xs =>
  rw[hr]at hc;clear ht hr;go_enter func32,ntmps32;go_wp2_with fail;generalize (w.alloc (L #[I O bY,I O al,I O narrow,I O ai,U th] 58)).alloc (L #[Z M 0 0,Z M 0 0] 64)=wz at *;refine hc.mono ?_;rintro e w1⟨v,ct1,nvv,ns1,rfl,hv,b1,nM,_⟩;obtain⟨va,vn,vc,rfl⟩:=eM hv;obtain⟨na,nn,nc,rfl⟩:=mQ nM;have Uf:(w1.alloc (L #[Z va vn vc,I O ct1.1,I O ct1.2,Z na nn nc] 86)).heap[w.heap.size]?=_:=heap_alloc_old ((b1.block _ (by omega)).trans K0.out);have pF:(w1.alloc (L #[Z va vn vc,I O ct1.1,I O ct1.2,Z na nn nc] 86)).heap[w.heap.size+1]?=_:=heap_alloc_old ((b1.block _ (by omega)).trans K1.out);have HN:Hid (_/\_/\_):=And.intro Uf (And.intro pF ((KB.trans (b1.mono (by omega))).alloc (by have:=b1.size;omega) (L #[Z va vn vc,I O ct1.1,I O ct1.2,Z na nn nc] 86)));clear hc hv nM Uf pF K0 K1 KB;go_upto_region 4 with fail;generalize w1.alloc (L #[Z va vn vc,I O ct1.1,I O ct1.2,Z na nn nc] 86)=W at *
  obtain⟨h0,h1,hb⟩:=HN.out;have g0:=cell_of h0 0 rfl;have g1:=cell_of h0 1 rfl;have g2:=cell_of h0 2 rfl;have g3:=cell_of h0 3 rfl;have g4:=cell_of h0 4 rfl;clear h0 h1 hb;go_wp2_with fail;refine(Wl.out _).mono ?_;rintro r w2⟨rfl,b2⟩;obtain⟨h0,h1,hb⟩:=HN.out;have o7:=(b2.block _ (ad h1)).trans h1;obtain⟨z0,z1,yV,yO,mq⟩:=aR o7;have MQ:=hid (mq (Z M 0 0) (Z M 0 0));have HB:Hid (ω w ((w2.setCell ⟨w.heap.size+1,0,M⟩ (Z M 0 0)).setCell ⟨w.heap.size+1,1,M⟩ (Z M 0 0))):=((hb.trans (b2.mono hb.size)).setCell (p:=⟨w.heap.size+1,0,M⟩) (Nat.le_succ _) _).setCell (p:=⟨w.heap.size+1,1,M⟩) (Nat.le_succ _) _;clear h0 h1 hb o7 mq HN g0 g1 g2 g3 g4;go_wp2_with fail;exact bodyPost_ret (v:=φ #[J #[Z M 0 0,Z M 0 0],σ 26 (I O 5)]) (by simp[results,results32,go_sem,MQ.1,MQ.2]) rfl ⟨rfl,HB.out⟩
end
def Good(s:ByteArray)(bY:Int)(th:Bool)(w:Wd):Prop:=∀(t:Sp.Bl) (d n u:Nat),Sp.tree s.data.toList=.ok t->s.size<=1048576->d<=4/\n<=3/\u<=3->Calls prog 28 #[χ s,I O bY,I O (d:Nat),I O (n:Nat),I O (u:Nat),U th] w fun e w'=>e=υ (U true)/\ω w w'
theorem Ap(s:ByteArray)(bY al narrow ai:Int)(th:Bool)(w:Wd)(hL:p9 w)(hG:bY=0∨bY=1->Good s bY th w) :
  Calls prog 28 #[χ s,I O bY,I O al,I O narrow,I O ai,U th] w fun e w'=>e=υ (U true)/\ω w w':=by
 by_cases hs:1048576<s.size
 ·have fK:(1048576:Int)<(s.size:Int):=by omega
  go_enter func28,ntmps28;go_wp2_with fail;go_ret;exact⟨rfl,Below.refl _ _⟩
 have df:s.size<=1048576:=by omega
 cases ht:Sp.tree s.data.toList with
 | error er =>refine RG.qb s df bY al narrow ai th w (er.1:Nat) (er.2:Nat) ((DL s bY al narrow ai th w df hL.laid ht).mono ?_) (fun W=>RG.RX s df bY al narrow ai th W ht);rintro e w'⟨v,rfl,hv,b⟩;obtain⟨tv,uv,rfl⟩:=zF hv;have TO:=hL.after (b.trans ((below_alloc1 w' (L #[Z M 0 0,Z M 0 0] 64)).mono b.size));exact⟨tv,uv,rfl,Nx _ er _ _ TO.et TO.laid.size (hv.laid _),b⟩
 | ok t =>
  by_cases hc:RG.Dk bY al narrow ai
  ·refine RG.qb s df bY al narrow ai th w 5 0 ((CW s bY al narrow ai th w df hL.laid ht hc).mono ?_) (fun W=>RG.Sv s df bY al narrow ai th W ht hc)
   rintro e w'⟨rfl,b⟩;have TO:=hL.after (b.trans ((below_alloc1 w' (L #[Z M 0 0,Z M 0 0] 64)).mono b.size));exact⟨_,_,rfl,vL 5 _ TO.et TO.laid.size,b⟩
  ·obtain⟨d,hd⟩:∃d:Nat,al=(d:Int):=⟨al.toNat,by unfold RG.Dk at hc;omega⟩
   obtain⟨n,hn⟩:∃n:Nat,narrow=(n:Int):=⟨narrow.toNat,by unfold RG.Dk at hc;omega⟩;obtain⟨u,hu⟩:∃u:Nat,ai=(u:Int):=⟨ai.toNat,by unfold RG.Dk at hc;omega⟩;subst hd hn hu;have hP:d<=4/\n<=3/\u<=3:=by unfold RG.Dk at hc;omega
   exact hG (by unfold RG.Dk at hc;omega) t d n u ht df hP
theorem P7(s:ByteArray)(th:Bool)(w:Wd)(hL:p9 w)(hT:jD w):Good s 1 th w:=fun t d n u ht df hP=>by
 refine RG.yE (δ:=false) s df d n u th w (cE (W.Dm (⟨fG th t⟩:W.ar false)) ⟨d,n,u⟩ t) ?_ (fun W=>?_)
 ·have h:=W.yA s ht d n u th w df hL.laid hT hP.1 hP.2.1 hP.2.2
  rw[ht]at h;exact h
 ·refine(RG.Pl RG.VH RG.U2 s df d n u hP th W ht).mono ?_
  rintro e w'⟨C,F,rfl,h1,rfl,h3⟩;exact⟨C,rfl,h1,h3⟩
theorem su(s:ByteArray)(al narrow ai:Int)(th:Bool)(w:Wd)(hL:p9 w)(hT:jD w) :
  Calls prog 12 #[χ s,I O al,I O narrow,I O ai,U th] w fun e w'=>e=υ (U true)/\ω w w':=by
 have HC:=hid (Ap s 1 al narrow ai th w hL fun _=>P7 s th w hL hT);go_enter func12,ntmps12;go_wp2_with fail;refine HC.mono ?_;rintro e w'⟨rfl,b⟩;go_wp2_with fail;go_ret;exact⟨rfl,b⟩
end Go.Proofs.YtiopfihjmkfdmaaGreatDoor
