import Derived.Test.YtiopfihjmkfdmabGreatDoorC35
import Derived.Test.YtiopfihjmkfdmabGreatDoorC37
import Derived.Test.YtiopfihjmkfdmabGreatDoorC38
import Derived.Test.YtiopfihjmkfdmabGreatDoorC39
import Derived.MapKept
namespace Go.Proofs.YtiopfihjmkfdmabGreatDoor
open Go.Value renaming int->I,slice->Z,agg->J,bool->U,tuple->φ,string->χ,pointer->ρ,iface->σ
open Go.IntKind renaming i64->O
open Option renaming none->M,some->Y
open Go.Ending renaming returned->υ
open Go.Obj renaming cells->L
open Go.Proofs.Tryz Sp
set_option maxRecDepth 100000
set_option maxHeartbeats 16000000
section
namespace RG
open Go.RowKit W
variable {E: Bool}
section
variable{er:Nat×Nat}
theorem UX{src:Sp.Bs}(h:Sp.tree src=.error er):er.1≠0:=by have:=SV src er (by rw[Sp.print,Hx Sp.Pr src,h]);omega
theorem U7(s:ByteArray)(hmax:s.size<=1048576)(ch ao narrow aj:Int)(th:Bool)(w:Wd)(ht:Sp.tree s.data.toList=.error er) :
  Calls prog 10 #[χ s,J #[I O ch,I O ao,I O narrow,I O aj,U th]] w λe w'=>e=υ (φ #[Z M 0 0,Z M 0 0,I O (er.1:Nat),I O (er.2:Nat)])/\ω w w':=by
 have hr:=λw':Wd=>pY s hmax w'
 unfold iE at hr;rw[ht]at hr;have HR:=hid hr;have hz:¬((er.1:Int)=0):=by have:=UX ht;omega
 have ff:((er.1:Int)==0)=false:=by simpa using hz
 clear hr ht;go_enter func10,ntmps10;go_wp2_with fail;refine(HR.out _).mono ?_;rintro e w1⟨hb,rfl⟩;have HB:Hid (ω w w1):=(below_alloc1 _ _).trans (hb.mono Ä);clear hb;go_wp2_with fail;try simp only[Exit.inBlock,Exit.then]
 refine Ç (v:=φ #[Z M 0 0,Z M 0 0,I O (er.1:Int),I O (er.2:Int)]) (by simp[results,results10,go_sem]) rfl ?_;exact⟨rfl,HB.out⟩
def FC(ch ao narrow aj:Int):Prop:=¬((ch=0∨ch=1)/\0<=ao/\ao<=4/\0<=narrow/\narrow<=3/\0<=aj/\aj<=3)
theorem VB(s:ByteArray)(hmax:s.size<=1048576)(ch ao narrow aj:Int)(th:Bool)(w:Wd){t:Bl}(ht:Sp.tree s.data.toList=.ok t)(hc:FC ch ao narrow aj) :
  Calls prog 10 #[χ s,J #[I O ch,I O ao,I O narrow,I O aj,U th]] w λe w'=>e=υ (φ #[Z M 0 0,Z M 0 0,I O 5,I O 0])/\ω w w':=by
 have hr:=λw':Wd=>pY s hmax w'
 unfold iE at hr;rw[ht]at hr;have HR:=hid hr;have main:(¬ch=0/\¬ch=1)∨(ch=0∨¬ch=0/\ch=1)/\(ao<0∨(¬ao<0)/\(4<ao∨(¬4<ao)/\(narrow<0∨(¬narrow<0)/\(3<narrow∨(¬3<narrow)/\(aj<0∨(¬aj<0)/\3<aj))))):=by unfold FC at hc;omega
 clear hr ht hc;have h3:=heap_alloc_new w (L #[I O ch,I O ao,I O narrow,I O aj,U th] 46);have HH:=hid h3;clear h3
 rcases main with⟨d0,d1⟩|⟨rfl|⟨d0,rfl⟩,a0|⟨a0,a1|⟨a1,a2|⟨a2,a3|⟨a3,a4|⟨a4,a5⟩⟩⟩⟩⟩⟩
 all_goals
  go_enter func10,ntmps10;go_wp2_with fail;refine(HR.out _).mono ?_;rintro e w1⟨hb,pb,rfl,_,_⟩;have HB:Hid (ω w w1):=(below_alloc1 _ _).trans (hb.mono Ä);have h3:=(hb.block _ (ah HH.out)).trans HH.out;have c0:=cell_of h3 0 rfl;have c1:=cell_of h3 1 (v:=I O ao) rfl;have c2:=cell_of h3 2 (v:=I O narrow) rfl;have c3:=cell_of h3 3 (v:=I O aj) rfl;clear hb HR h3 HH;go_wp2_with fail;try simp only[Exit.inBlock,Exit.then]
  refine Ç (v:=φ #[Z M 0 0,Z M 0 0,I O 5,I O 0]) (by simp[results,results10,go_sem]) rfl ?_;exact⟨rfl,HB.out⟩
end
end RG
end
section
namespace RG
open Go.RowKit W
variable {E: Bool}
theorem Jj(hRD:RD E)(hRW:∀C:Rc E,RW C)(s:ByteArray)(hmax:s.size<=1048576)(ao narrow aj:Nat)(hP:ao<=4/\narrow<=3/\aj<=3)(th:Bool)(w:Wd){t:Bl}(ht:Sp.tree s.data.toList=.ok t) :
  Calls prog 10 #[χ s,J #[I O (dn E),I O (ao:Nat),I O (narrow:Nat),I O (aj:Nat),U th]] w λe w'=>∃(C:Rc E) (F:jg),e=υ (φ #[Z (Y ⟨C.gf,0,M⟩) F.1.length F.1.length,Z (Y ⟨C.gs,0,M⟩) F.2.length F.2.length,I O 0,I O 0])/\bE C F w'/\F=bU (Dm (⟨fm th t⟩:aw E)) ⟨ao,narrow,aj⟩ t/\ω w w':=by
 have hr:=λw':Wd=>pY s hmax w'
 unfold iE at hr;rw[ht]at hr;have HR:=hid hr;have HRD:=hid hRD;have HRW:=hid hRW;clear hRD hRW;obtain⟨s1,s2,s3⟩:=rQ ht;have HFW:Hid ((bD t).length<=800):=Fy ht;have TW:Hid (Sp.Small (0,0) (Sp.pB t) (Sp.qB t)):=by unfold Hid Sp.Small;simp only;omega
 have ub:=hid s3;obtain⟨n,hn⟩:∃n,n=Sp.pB t+1:=⟨_,rfl⟩;obtain⟨m,hm⟩:∃m,m=Sp.qB t:=⟨_,rfl⟩;have Ut:Hid (n=Sp.pB t+1/\m=Sp.qB t):=⟨hn,hm⟩;have hn4:n<=401:=À;have hm4:m<=400:=À;obtain⟨cz,Nh,No⟩:=Sj n À;have Xi:=hid Nh;have Ua:=yA m À;obtain⟨sz,ea⟩:∃x,x=(cL (List.replicate m 0)).toArray:=⟨_,rfl⟩;rw[<-ea]at Ua;have xd:=hid ea;obtain⟨q1,q2,q3⟩:=hP;have p1:¬((ao:Nat):Int)<0:=À;have p2:¬4<((ao:Nat):Int):=À;have p3:¬((narrow:Nat):Int)<0:=À;have p4:¬3<((narrow:Nat):Int):=À;have p5:¬((aj:Nat):Int)<0:=À;have p6:¬3<((aj:Nat):Int):=À;have h3:=heap_alloc_new w (L #[I O (dn E),I O (ao:Nat),I O (narrow:Nat),I O (aj:Nat),U th] 46);have HH:=hid h3;clear hr h3 s1 s2 s3 hn hm Nh ea ht;go_enter func10,ntmps10;go_wp2_with fail;refine(HR.out _).mono ?_;rintro e w1⟨hb,pb,rfl,Uu,F9⟩;have HB:Hid (ω w w1):=(below_alloc1 _ _).trans (hb.mono Ä);have h3:=(hb.block _ (ah HH.out)).trans HH.out;obtain⟨ns,first,qa,qc,nv,ct,hpc,sL,Kn,zU,vh,hq3,Z4⟩:=Bj.az F9 TW.out;rw[<-Ut.1,<-Ut.2]at hpc;obtain⟨qs,Tg⟩:∃qs,qs=i6 t:=⟨_,rfl⟩;rw[<-Tg]at hpc zU vh Z4;have HQS:=hid Tg;have hq8:qs.length<=800:=by rw[Tg,gM,gC,List.length_map];exact HFW.out
 have nM:=hid sL;have HLK:=hid Kn;have HQ4:=hid Z4;have Na:=hid hpc;have H3:=hid h3;clear Tg sL Kn Z4 hb F9 Uu HR HH hpc;have c0:=cell_of H3.out 0 (v:=I O (dn E)) rfl;have c1:=cell_of H3.out 1 (v:=I O (ao:Nat)) rfl;have c2:=cell_of H3.out 2 (v:=I O (narrow:Nat)) rfl;have c3:=cell_of H3.out 3 (v:=I O (aj:Nat)) rfl;clear h3;go_upto_region 4 with fail
 go_cut [62] from 25 to 61 (λv62 wc=>v62=U false/\w1=wc)
 case first=>
  rcases JV E with⟨-,d1,-⟩|⟨-,d1,-⟩
  all_goals
   rw[d1]at c0;clear d1;go_wp2_with fail;go_meet;exact⟨by first|rfl|simp_all,rfl⟩
 case rest=>
 obtain⟨rfl,rfl⟩:=hcut;go_upto_region 6 with fail;clear c0 c1 c2 c3 p1 p2 p3 p4 p5 p6;obtain⟨k3,e3⟩:∃k,k=w.heap.size:=⟨_,rfl⟩;rw[<-e3];rw[<-e3]at H3;clear e3
 go_cut [11] from 63 (λv11 wc=>∃b gf gs:Nat,v11=ρ (Y ⟨b,0,M⟩)/\Hid (jy (E:=E) w1 ⟨w1.heap.size,b,pb,gf,gs,ao,narrow,aj,th,Z M 0 0⟩ n m 0 wc))
 case first=>
  have Uc:w1.drew.heap[pb]?=Y (L #[nv,I O first,I O (n:Nat),I O (m:Nat),Z qa qs.length qc] 110)/\w1.drew.heap[k3]?=Y (L #[I O (dn E),I O (ao:Nat),I O (narrow:Nat),I O (aj:Nat),U th] 46):=⟨Na.out,H3.out⟩;refine wp_region_held_drew (S:=λw':Wd=>w'.heap[pb]?=Y (L #[nv,I O first,I O (n:Nat),I O (m:Nat),Z qa qs.length qc] 110)/\w'.heap[k3]?=Y (L #[I O (dn E),I O (ao:Nat),I O (narrow:Nat),I O (aj:Nat),U th] 46)) Ã Uc (λaa=>?_);refine tq 0 (ρ (Y ⟨pb,0,M⟩)) aa ?_;refine tk 1 (J #[I O (dn E),I O (ao:Nat),I O (narrow:Nat),I O (aj:Nat),U th]) rfl (λw' h=>by have q0:=cell_of h.2 0 rfl;have q1:=cell_of h.2 1 rfl;have q2:=cell_of h.2 2 rfl;have q3:=cell_of h.2 3 rfl;have q4:=cell_of h.2 4 rfl;go_simp) aa ?_;refine tq 2 (ρ (Y ⟨pb,0,M⟩)) aa ?_;refine tq 3 (ρ (Y ⟨pb,0,M⟩)) aa ?_;refine tq 4 (ρ (Y ⟨pb,2,M⟩)) aa ?_;refine tk 5 (I O (n:Nat)) rfl (λw' h=>by have q:=cell_of h.1 2 rfl;go_simp) aa ?_;refine tq 7 (ρ (Y ⟨pb,0,M⟩)) aa ?_;refine tq 8 (ρ (Y ⟨pb,0,M⟩)) aa ?_;refine tq 9 (ρ (Y ⟨pb,3,M⟩)) aa ?_;refine tk 10 (I O (m:Nat)) rfl (λw' h=>by have q:=cell_of h.1 3 rfl;go_simp) aa ?_;have HK:Hid (∀W W':Wd,ω W W'->(W.heap[pb]?=Y (L #[nv,I O first,I O (n:Nat),I O (m:Nat),Z qa qs.length qc] 110)/\W.heap[k3]?=Y (L #[I O (dn E),I O (ao:Nat),I O (narrow:Nat),I O (aj:Nat),U th] 46))->(W'.heap[pb]?=Y (L #[nv,I O first,I O (n:Nat),I O (m:Nat),Z qa qs.length qc] 110)/\W'.heap[k3]?=Y (L #[I O (dn E),I O (ao:Nat),I O (narrow:Nat),I O (aj:Nat),U th] 46))):=λW W' b h=>⟨(b.block _ (ah h.1)).trans h.1,(b.block _ (ah h.2)).trans h.2⟩
  have HV:Hid (ω w1 w1.drew):=(Å).drew;clear Uc;generalize w1.drew=V at*;refine zZ 6 11 (λK hK=>?c1) (λK hK=>?c2)
  case' c1=>
   simp only[bG,gd];go_simp;refine hK.out _ _ (HK.out _ _ (below_alloc1 V (L cz 56)) aa) (λaa=>?_);clear hK K;refine bP 11 λK hK=>?_
   simp only[bG];go_simp;refine hK.out _ _ (HK.out _ _ (below_alloc1 _ (L sz 3)) aa) (λaa=>?_);clear hK K;obtain⟨g1,g2,gb⟩:=ft (w:=V) (o1:=L cz 56) (o2:=L sz 3) Å;have HX:Hid (((V.alloc (L cz 56)).alloc (L sz 3)).heap[V.heap.size]?=Y (L cz 56)/\((V.alloc (L cz 56)).alloc (L sz 3)).heap[V.heap.size+1]?=Y (L sz 3)/\ω w1 ((V.alloc (L cz 56)).alloc (L sz 3))/\w1.heap.size<=V.heap.size/\w1.heap.size<=V.heap.size+1):=⟨g1,g2,HV.trans (gb.mono HV.size),HV.size,Nat.le_succ_of_le HV.size⟩;clear g1 g2 gb;generalize (V.alloc (L cz 56)).alloc (L sz 3)=X at*;generalize V.heap.size+1=gs at*;generalize V.heap.size=gf at*
  case' c2=>
   simp only[bG,gd];go_simp;refine hK.out _ _ (HK.out _ _ (below_alloc1 V (L sz 3)) aa) (λaa=>?_);clear hK K;refine bP 6 λK hK=>?_
   simp only[bG];go_simp;refine hK.out _ _ (HK.out _ _ (below_alloc1 _ (L cz 56)) aa) (λaa=>?_);clear hK K;obtain⟨g1,g2,gb⟩:=ft (w:=V) (o1:=L sz 3) (o2:=L cz 56) Å;have HX:Hid (((V.alloc (L sz 3)).alloc (L cz 56)).heap[V.heap.size+1]?=Y (L cz 56)/\((V.alloc (L sz 3)).alloc (L cz 56)).heap[V.heap.size]?=Y (L sz 3)/\ω w1 ((V.alloc (L sz 3)).alloc (L cz 56))/\w1.heap.size<=V.heap.size+1/\w1.heap.size<=V.heap.size):=⟨g2,g1,HV.trans (gb.mono HV.size),Nat.le_succ_of_le HV.size,HV.size⟩;clear g1 g2 gb;generalize (V.alloc (L sz 3)).alloc (L cz 56)=X at*;generalize V.heap.size+1=gf at*;generalize V.heap.size=gs at*
  all_goals
   have hbu:=Pv pb (dn E) (ao:Nat) (narrow:Nat) (aj:Nat) th (Y ⟨gf,0,M⟩) n (Y ⟨gs,0,M⟩) m;refine tq 12 (J #[ρ (Y ⟨pb,0,M⟩),I O (dn E),I O (ao:Nat),I O (narrow:Nat),I O (aj:Nat),U th,Z M 0 0,Z (Y ⟨gf,0,M⟩) n n,Z (Y ⟨gs,0,M⟩) m m]) aa ?_;refine bP 13 λK hK=>?_
   simp only[bG];go_simp;refine hK.out _ _ (HK.out _ _ (below_alloc1 X (L #[ρ (Y ⟨pb,0,M⟩),I O (dn E),I O (ao:Nat),I O (narrow:Nat),I O (aj:Nat),U th,Z M 0 0,Z (Y ⟨gf,0,M⟩) n n,Z (Y ⟨gs,0,M⟩) m m] 112)) aa) (λaa=>?_);clear hK K;refine bP 14 λK hK=>?_
   simp only[bG];go_simp;refine hK.out _ _ aa (λ_=>?_);clear hK K;refine wpAnyH_done Ã ?_ _;have HZ:Hid (jy (E:=E) w1 ⟨w1.heap.size,X.heap.size,pb,gf,gs,ao,narrow,aj,th,Z M 0 0⟩ n m 0 (X.alloc (L #[ρ (Y ⟨pb,0,M⟩),I O (dn E),I O (ao:Nat),I O (narrow:Nat),I O (aj:Nat),U th,Z M 0 0,Z (Y ⟨gf,0,M⟩) n n,Z (Y ⟨gs,0,M⟩) m m] 112))):=by obtain⟨x1,x2,x3,x4,x5⟩:=HX.out;have b:=below_alloc1 X (L #[ρ (Y ⟨pb,0,M⟩),I O (dn E),I O (ao:Nat),I O (narrow:Nat),I O (aj:Nat),U th,Z M 0 0,Z (Y ⟨gf,0,M⟩) n n,Z (Y ⟨gs,0,M⟩) m m] 112);exact⟨x3.trans (b.mono x3.size),heap_alloc_new _ _,⟨cz,(b.block _ (ah x1)).trans x1,Xi.out,λp hp=>absurd hp (Nat.not_lt_zero _)⟩,by rw[<-xd.out];exact(b.block _ (ah x2)).trans x2,rfl,x3.size,x4,x5⟩
   clear hbu aa;go_wp2_with fail;go_meet;exact⟨_,gf,gs,rfl,HZ⟩
 case rest=>
  obtain⟨b,gf,gs,rfl,hAz⟩:=hcut;clear No Ua Xi xd;go_wp2_with fail
  go_loopw [12] (λv12 wr=>∃i:Nat,i<=n/\v12=I O i/\Hid (jy (E:=E) w1 ⟨w1.heap.size,b,pb,gf,gs,ao,narrow,aj,th,Z M 0 0⟩ n m i wr)) (λv12 _=>n-(intOf v12).toNat)
  case atStart=>exact⟨0,Ì,rfl,hAz⟩
  case round=>
   obtain⟨i,hi,rfl,hq⟩:=hrel;clear hAz;have tY:=cell_of ((hq.KA.block _ (ah Na.out)).trans Na.out) 2 (v:=I O (n:Nat)) rfl;by_cases hin:i<n
   .have WD:((i:Nat):Int)<((n:Nat):Int):=À
    have nO:((n:Nat):Int)<=401:=À;obtain⟨J2,HJ⟩:∃J2,Hid (J2=i*2):=⟨_,rfl⟩;have HN:Hid (∀W:Wd,jy (E:=E) w1 ⟨w1.heap.size,b,pb,gf,gs,ao,narrow,aj,th,Z M 0 0⟩ n m i W->jy (E:=E) w1 ⟨w1.heap.size,b,pb,gf,gs,ao,narrow,aj,th,Z M 0 0⟩ n m (i+1) ((W.setCell ⟨gf,J2,M⟩ (U true)).setCell ⟨gf,J2+1,M⟩ (Z M 0 0))):=λW h=>by rw[HJ.out];exact h.pt hin
    go_upto_region 10 with fail;have h0:jy (E:=E) w1 ⟨w1.heap.size,b,pb,gf,gs,ao,narrow,aj,th,Z M 0 0⟩ n m i wr.drew:=hq.call (Å).drew;have HF:Hid (∀W:Wd,jy (E:=E) w1 ⟨w1.heap.size,b,pb,gf,gs,ao,narrow,aj,th,Z M 0 0⟩ n m i W->W.cell? ⟨b,7,M⟩=Y (Z (Y ⟨gf,0,M⟩) n n)/\(∃u,W.cell? ⟨gf,J2,M⟩=Y u)/\(∃u,W.cell? ⟨gf,J2+1,M⟩=Y u)/\W.frozen? ⟨gf,J2,M⟩=false/\W.frozen? ⟨gf,J2+1,M⟩=false):=λW h=>by obtain⟨c,c1,c2,_⟩:=h.gf;rw[HJ.out];exact⟨cell_of h.aV 7 rfl,⟨_,cell_of c1 _ (Ü À)⟩,⟨_,cell_of c1 _ (Ü À)⟩,ay c1 _,ay c1 _⟩
    refine wp_region_held_drew (S:=λw':Wd=>w'.cell? ⟨b,7,M⟩=Y (Z (Y ⟨gf,0,M⟩) n n)) Ã (HF.out _ h0).1 (λaa=>?_);have H0:=hid h0;clear h0 hq tY;generalize wr.drew=V at*;refine tq 0 (ρ (Y ⟨b,0,M⟩)) aa ?_;refine tq 1 (ρ (Y ⟨b,0,M⟩)) aa ?_;refine tq 2 (ρ (Y ⟨b,7,M⟩)) aa ?_;refine tq 3 (Z (Y ⟨gf,0,M⟩) n n) aa ?_;refine tq 4 (I O (i:Nat)) aa ?_;refine bP 5 λK hK=>?_
    simp only[bG,gd];go_simp;refine(fO _).mono ?_;rintro r w8⟨rfl,b8⟩;have H8:=hid (H0.call b8);go_wp2_with fail;refine hK.out _ _ (HF.out _ H8.out).1 (λaa=>?_);clear hK K b8 H0;refine tk 6 (ρ (Y ⟨gf,J2,M⟩)) rfl (λw' h=>by rw[HJ.out];go_simp) aa ?_;obtain⟨_,⟨u1,f1⟩,⟨u2,f2⟩,f3,f4⟩:=HF.out _ H8.out;have H9:=hid (HN.out _ H8.out);refine bP 7 λK hK=>?_
    simp only[bG];go_simp;refine hK.out _ _ (by have q:=cell_of H9.aV 7 (v:=Z (Y ⟨gf,0,M⟩) n n) rfl;exact q) (λ_=>?_);clear hK K f1 f2 f3 f4 H8;refine wpAnyH_done Ã ?_ _;go_wp2_with fail;exact⟨⟨i+1,À,by go_num,H9⟩,by simp[intOf];omega⟩
   .obtain rfl:i=n:=À
    obtain⟨ii,WD,hiz,his,hib⟩:=info_parts OI;have HB0:Hid (w1.heap.size<=wr.heap.size/\b<wr.heap.size/\gf<wr.heap.size/\gs<wr.heap.size):=by obtain⟨c,c1,_,_⟩:=hq.gf;exact⟨hq.KA.size,ah hq.aV,ah c1,ah hq.gs⟩
    obtain⟨B,eB⟩:∃B,B=wr.heap.size:=⟨_,rfl⟩;have HBB:Hid (w1.heap.size<=B/\b<B/\gf<B/\gs<B):=by rw[eB];exact HB0.out
    have DI:Hid (jy (E:=E) w1 ⟨w1.heap.size,b,pb,gf,gs,ao,narrow,aj,th,Z M 0 0⟩ i m i wr/\wr.ownsRow B 3 1 (Z M 0 0) (0*2) ((xD (qs.take 0)).map λz=>I O z)/\B<=wr.heap.size):=⟨hq.out,⟨rfl,.inl ⟨rfl,rfl⟩⟩,À⟩;have HQI:Hid (∀q∈qs,pr q):=by intro q hqm;rw[HQS.out,gM]at hqm;exact ub.out q hqm
    clear HB0 eB hq;go_wp2_with fail;clear tY
    go_loopw [13] (λWO wr=>∃(j:Nat) (sv:Value),j<=qs.length/\(th=false->j=0)/\WO=I O j/\Hid (jy (E:=E) w1 ⟨w1.heap.size,b,pb,gf,gs,ao,narrow,aj,th,sv⟩ i m i wr/\wr.ownsRow B 3 1 sv (j*2) ((xD (qs.take j)).map λz=>I O z)/\B<=wr.heap.size)) (λWO _=>qs.length-(intOf WO).toNat)
    case atStart=>exact⟨0,Z M 0 0,Ì,λ_=>rfl,rfl,DI⟩
    case round=>
     obtain⟨j,sv,hj,hjt,rfl,hq⟩:=hrel;clear DI;have h3:=(hq.1.KA.block _ (ah H3.out)).trans H3.out;have Uu:=(hq.1.KA.block _ (ah Na.out)).trans Na.out;have g4:=cell_of h3 4 (v:=U th) rfl;have p4:=cell_of Uu 4 (v:=Z qa qs.length qc) rfl;have abv:((qs.length:Nat):Int)<=2000:=À;have HPB:=hid Uu;clear h3 Uu;have more:(th=true/\j<qs.length)∨(th=false∨th=true/\¬j<qs.length):=by
      cases th<;>by_cases h:j<qs.length<;>simp[h]
     rcases more with⟨rfl,Ga⟩|Qo
     .obtain⟨q,Y8⟩:∃q,qs[j]?=Y q:=⟨_,Î Ga⟩
      have wJ:((j:Nat):Int)<((qs.length:Nat):Int):=À;obtain⟨gq,rfl,hgq,hcq⟩:=HQ4.out j q Y8;have aas:wr.cell? ⟨gq,j,M⟩=Y (I O q):=by rw[hq.1.KA.cell (p:=⟨gq,j,M⟩) hgq];exact hcq
      obtain⟨i1,i2⟩:=HQI.out q (Ù Y8);have Nc:IntKind.i64.wrap (-q)=-q:=by rw[IntKind.wrap_i64];omega
      have jX:Hid ((xD (qs.take (j+1))).map (λz=>Value.int O z)=((xD (qs.take j)).map λz=>Value.int O z)++[I O q,I O (-q)]):=by unfold Hid;rw[P2 qs j q Y8,List.map_append];rfl
      have HGQ:=hid hgq;go_upto_region 14 with fail;have h0:jy (E:=E) w1 ⟨w1.heap.size,b,pb,gf,gs,ao,narrow,aj,true,sv⟩ i m i wr.drew:=hq.1.call (Å).drew;have eu:wr.drew.ownsRow B 3 1 sv (j*2) ((xD (qs.take j)).map λz=>Value.int O z):=aY hq.2.1 (λ_ _=>rfl);have hBW:B<=wr.drew.heap.size:=hq.2.2;have Uc:wr.drew.heap[pb]?=Y (L #[nv,I O first,I O (i:Nat),I O (m:Nat),Z (Y ⟨gq,0,M⟩) qs.length qc] 110)/\wr.drew.cell? ⟨gq,j,M⟩=Y (I O q):=⟨HPB.out,aas⟩;obtain⟨sa,sc,rfl⟩:∃a c,sv=Z a (j*2) c:=by
       rcases eu.2 with⟨a1,a2⟩|⟨g',cap,cur,a1,_⟩
       .exact⟨M,0,by rw[a1,a2]⟩
       .exact⟨_,_,a1⟩
      refine wp_region_held_drew (S:=λw':Wd=>w'.heap[pb]?=Y (L #[nv,I O first,I O (i:Nat),I O (m:Nat),Z (Y ⟨gq,0,M⟩) qs.length qc] 110)/\w'.cell? ⟨gq,j,M⟩=Y (I O q)) Ã Uc (λaa=>?_);clear Uc g4 p4 HPB aas hcq hgq hq;generalize wr.drew=V at*;have m6:=cell_of h0.aV 6 (v:=Z sa (j*2) sc) rfl;refine tq 0 (ρ (Y ⟨b,0,M⟩)) aa ?_;refine tq 1 (ρ (Y ⟨b,0,M⟩)) aa ?_;refine tq 2 (ρ (Y ⟨b,0,M⟩)) aa ?_;refine tq 3 (ρ (Y ⟨b,6,M⟩)) aa ?_;refine tq 5 (ρ (Y ⟨pb,0,M⟩)) aa ?_;refine tq 6 (ρ (Y ⟨pb,0,M⟩)) aa ?_;refine tq 7 (ρ (Y ⟨pb,4,M⟩)) aa ?_;refine tk 8 (Z (Y ⟨gq,0,M⟩) qs.length qc) rfl (λw' h=>by have q4:=cell_of h.1 4 (v:=Z (Y ⟨gq,0,M⟩) qs.length qc) rfl;go_simp) aa ?_;refine tq 9 (I O (j:Nat)) aa ?_;refine tq 10 (ρ (Y ⟨gq,j,M⟩)) aa ?_;refine tk 11 (I O q) rfl (λw' h=>by have q4:=h.2;go_simp) aa ?_;refine tq 12 (ρ (Y ⟨pb,0,M⟩)) aa ?_;refine tq 13 (ρ (Y ⟨pb,0,M⟩)) aa ?_;refine tq 14 (ρ (Y ⟨pb,4,M⟩)) aa ?_;refine tk 15 (Z (Y ⟨gq,0,M⟩) qs.length qc) rfl (λw' h=>by have q4:=cell_of h.1 4 (v:=Z (Y ⟨gq,0,M⟩) qs.length qc) rfl;go_simp) aa ?_;refine tq 16 (I O (j:Nat)) aa ?_;refine tq 17 (ρ (Y ⟨gq,j,M⟩)) aa ?_;refine tk 18 (I O q) rfl (λw' h=>by have q4:=h.2;go_simp) aa ?_;refine tq 19 (I O (-q)) aa ?_;have HKS:Hid (∀W W':Wd,Below w1.heap.size W W'->(W.heap[pb]?=Y (L #[nv,I O first,I O (i:Nat),I O (m:Nat),Z (Y ⟨gq,0,M⟩) qs.length qc] 110)/\W.cell? ⟨gq,j,M⟩=Y (I O q))->(W'.heap[pb]?=Y (L #[nv,I O first,I O (i:Nat),I O (m:Nat),Z (Y ⟨gq,0,M⟩) qs.length qc] 110)/\W'.cell? ⟨gq,j,M⟩=Y (I O q))):=λW W' bb h=>⟨(bb.block _ (ah Na.out)).trans h.1,by rw[bb.cell (p:=⟨gq,j,M⟩) HGQ.out];exact h.2⟩
      have hwV:=h0.KA.size;have m6':(V.alloc (L #[I O q,I O (-q)] 3)).cell? ⟨b,6,M⟩=Y (Z sa (j*2) sc):=by rw[(below_alloc1 V (L #[I O q,I O (-q)] 3)).cell (p:=⟨b,6,M⟩) (ah h0.aV)];exact m6
      refine zZ 4 20 (λK hK=>?d1) (λK hK=>?d2)
      case' d1=>
       simp only[bG,gd];go_simp;refine hK.out _ _ aa (λaa=>?_);clear hK K;refine bP 20 λK hK=>?_
       simp only[bG];go_simp;refine hK.out _ _ (HKS.out _ _ ((below_alloc1 V (L #[I O q,I O (-q)] 3)).mono hwV) aa) (λaa=>?_);clear hK K
      case' d2=>
       simp only[bG,gd];go_simp;refine hK.out _ _ (HKS.out _ _ ((below_alloc1 V (L #[I O q,I O (-q)] 3)).mono hwV) aa) (λaa=>?_);clear hK K;refine bP 4 λK hK=>?_
       simp only[bG];go_simp;refine hK.out _ _ aa (λaa=>?_);clear hK K
      all_goals
       have hX:=h0.call (below_alloc1 V (L #[I O q,I O (-q)] 3));have hRX:(V.alloc (L #[I O q,I O (-q)] 3)).ownsRow B 3 1 (Z sa (j*2) sc) (j*2) ((xD (qs.take j)).map λz=>Value.int O z):=aY eu (λk hk=>Below.heap_alloc _ _ _ (bk eu k hk).2.1);have re:=heap_alloc_new V (L #[I O q,I O (-q)] 3);have hBX:B<=(V.alloc (L #[I O q,I O (-q)] 3)).heap.size:=by simp;omega
       clear m6 m6' h0 eu;generalize V.alloc (L #[I O q,I O (-q)] 3)=X at*;generalize V.heap.size=kx at*;obtain⟨v',w',hr,g2,g3,_,_⟩:=run_append_own_at (P:=prog) X B 25 25 3 ii (I O 0) 1 8 underlying25 WD hiz his hib rfl É _ _ _ hRX ⟨kx,0,M⟩ 2 2 [I O q,I O (-q)] rfl (World.news_of_block (cs:=#[I O q,I O (-q)]) (t:=3) (fr:=(0,0)) re) (by simp[Value.oneCell']) (by unfold maxLen;omega) À hBX;have hBw:Below B X w':=(Å).grown g3 hBX (λk hk=>(bk hRX k hk).1);obtain⟨u1,u2,u3,u4⟩:=HBB.out;have ZP:=hX.grown u1 hBw u2 u3 u4;obtain⟨gn,cn,rfl⟩:∃a c,v'=Z a (j*2+2) c:=by
        rcases g2.2 with⟨_,a2⟩|⟨g',cap,cur,a1,_⟩
        .omega
        .exact⟨_,_,a1⟩
       refine bP 21 λK hK=>?_
       simp only[bG];rw[Á Ê];refine VW _ _ _ rfl rfl rfl hr ?_;simp only[Act.put];refine hK.out _ _ (HKS.out _ _ (hBw.mono u1) aa) (λaa=>?_);clear hK K hr;refine tq 22 (ρ (Y ⟨b,0,M⟩)) aa ?_;refine tq 23 (ρ (Y ⟨b,6,M⟩)) aa ?_;have x6:=cell_of ZP.aV 6 (v:=Z sa (j*2) sc) rfl;have f6:=ay ZP.aV 6;have HF:Hid (jy (E:=E) w1 ⟨w1.heap.size,b,pb,gf,gs,ao,narrow,aj,true,Z gn (j*2+2) cn⟩ i m i (w'.setCell ⟨b,6,M⟩ (Z gn (j*2+2) cn))/\(w'.setCell ⟨b,6,M⟩ (Z gn (j*2+2) cn)).ownsRow B 3 1 (Z gn (j*2+2) cn) ((j+1)*2) ((xD (qs.take (j+1))).map λz=>I O z)/\B<=(w'.setCell ⟨b,6,M⟩ (Z gn (j*2+2) cn)).heap.size):=by
        refine⟨ZP.steps _,?_,?_⟩
        .rw[jX.out,show(j+1)*2=j*2+2 by omega]
         exact aY g2 (λk hk=>Æ _ _ _ _ (by have:=(bk g2 k hk).1;show k≠b;omega))
        .have:=hBw.size;simp only[World.setCell,Array.size_modify];omega
       refine bP 24 λK hK=>?_
       simp only[bG];go_simp;refine hK.out _ _ (HKS.out _ _ ((Å).setCell (p:=⟨b,6,M⟩) ZP.lb _) aa) (λ_=>?_);clear hK K x6 f6 ZP hX hRX re g2 g3 hBw aa;refine wpAnyH_done Ã ?_ _;go_wp2_with fail;exact⟨⟨j+1,_,À,(λh=>by cases h),by go_num,HF⟩,by simp[intOf];omega⟩
     .obtain⟨μ,hL⟩:∃μ:List Int,μ=xD (qs.take j):=⟨_,rfl⟩
      have HL:Hid (μ=if th then xD qs else []):=by
       unfold Hid
       rcases Qo with rfl|⟨rfl,hn⟩
       .rw[hL,hjt rfl];rfl
       .rw[hL,List.take_of_length_le À];rfl
      have ZK:gw (E:=E) ⟨w1.heap.size,b,pb,gf,gs,ao,narrow,aj,th,sv⟩ μ wr:=by
       obtain⟨_,eu,_⟩:=hq.out;have hlen:μ.length=j*2:=by rw[hL,Ru,List.length_take,Nat.min_eq_left hj]
       refine⟨?_,À⟩
       rcases eu.2 with⟨a1,a2⟩|⟨Gh,cap,cur,a1,a2,a3,a4,a5,a6,a7⟩
       .exact .inl ⟨List.eq_nil_of_length_eq_zero À,a1⟩
       .obtain⟨_,_,b3,b4⟩:=HBB.out
        refine .inr ⟨Gh,cap,cur,by rw[hlen];exact a1,a3,λk z hz=>?_,by show Gh≠gf;omega,by show Gh≠gs;omega,À,a5⟩;have hk:=(Í.1 hz).1;have q2:(cur.toList.take (j*2*1))[k]?=Y (I O z):=by rw[a7,List.getElem?_map,<-hL,hz];rfl
        rw[List.getElem?_take_of_lt À]at q2;rw[<-Ý];exact q2
      have HSP:=hid ZK;have Kk:Hid (bE (E:=E) ⟨w1.heap.size,b,pb,gf,gs,ao,narrow,aj,th,sv⟩ (List.replicate i M,List.replicate m 0) wr):=hq.1.ra HRD.out À À;have HBQ:=hid hq.1.KA;have aae:gf<wr.heap.size/\gs<wr.heap.size:=by obtain⟨_,_,b3,b4⟩:=HBB.out;have:=hq.2.2;omega
      clear ZK hq hjt hL;have TY:=Ia;obtain⟨zz,xi⟩:∃zz,zz=ö:=⟨_,rfl⟩;rw[<-xi]at TY;have Xu:Hid (zz=gi (λ_=>zT)):=by rw[xi];exact OM
      clear xi;have hE:(th=false∨th=true/\¬((j:Nat):Int)<((qs.length:Nat):Int)):=by
       rcases Qo with h|⟨h1,h2⟩
       .exact .inl h
       .exact .inr ⟨h1,À⟩
      clear Qo;have QH:=hid aae;clear aae
      rcases hE with hE|⟨hE,hE2⟩
      all_goals
       rw[hE]at g4;clear hE;go_upto_region 16 with fail;obtain⟨y1,y2,yb⟩:=ft (w:=wr) (o1:=L zz 117) (o2:=L #[U false,Z (Y ⟨wr.heap.size,0,M⟩) 8 8] 56) Å;have HY:Hid (bE _ _ _/\gw _ μ _/\ω w1 _):=And.intro (Kk.call yb) (And.intro (HSP.bH (RK.aF yb Kk.le)) (HBQ.trans (yb.mono HBQ.size)));have hlq:=HBQ.size;clear yb Kk HSP HBQ g4 p4 HPB TY;try clear hE2
       generalize (wr.alloc (L zz 117)).alloc (L #[U false,Z (Y ⟨wr.heap.size,0,M⟩) 8 8] 56)=κ at*;obtain⟨mN,e14⟩:∃k,k=wr.heap.size+1:=⟨_,rfl⟩;rw[<-e14];rw[<-e14]at y2;have aan:w1.heap.size<=mN/\gf<mN/\gs<mN:=by have:=QH.out;omega
       clear e14 QH;generalize wr.heap.size=oN at*;have HYY:Hid (κ.heap[oN]?=Y (L zz 117)/\κ.heap[mN]?=Y (L #[U false,Z (Y ⟨oN,0,M⟩) 8 8] 56)/\w1.heap.size<=mN/\gf<mN/\gs<mN):=⟨y1,y2,aan⟩;clear y1 y2 hlq aan;obtain⟨es,u,hu⟩:∃es u,cJ (⟨[-32768,32767]++μ⟩:aw E) ⟨w1.heap.size,b,pb,gf,gs,ao,narrow,aj,th,sv⟩ t (0,0) (Y λ_=>zT)=(es,u):=⟨_,_,rfl⟩;obtain⟨rg1,rg2⟩:=SP (⟨[-32768,32767]++μ⟩:aw E) ⟨w1.heap.size,b,pb,gf,gs,ao,narrow,aj,th,sv⟩ TW.out (λ_=>zT) hu;have W8:=Vt (⟨[-32768,32767]++μ⟩:aw E) ⟨w1.heap.size,b,pb,gf,gs,ao,narrow,aj,th,sv⟩ TW.out hu;rw[<-Ut.1,<-Ut.2]at rg1 rg2 W8;have MW:=hid W8;have ZE:=hid rg2;have hD:=λ(W:Wd) (h1:bE (E:=E) ⟨w1.heap.size,b,pb,gf,gs,ao,narrow,aj,th,sv⟩ (List.replicate i M,List.replicate m 0) W) (h2:gw (E:=E) ⟨w1.heap.size,b,pb,gf,gs,ao,narrow,aj,th,sv⟩ μ W) (h3:ω w1 W) (h4:W.heap[oN]?=Y (L zz 117))=>VI (⟨[-32768,32767]++μ⟩:aw E) μ rfl (C:=⟨w1.heap.size,b,pb,gf,gs,ao,narrow,aj,th,sv⟩) (HRW.out _) ⟨q1,q2,q3⟩ nM.out ub.out rfl (ah Na.out) HLK.out h3 h1 h2 (e:=λ_=>zT) (ge:=oN) (λ_=>JH) (by rw[<-Xu.out];exact h4) hu rg1
       have HDO:=hid hD;have QX:Hid (eR E u):=by have q:eR E (cJ (⟨[-32768,32767]++μ⟩:aw E) ⟨w1.heap.size,b,pb,gf,gs,ao,narrow,aj,th,sv⟩ t (0,0) (Y λ_=>zT)).2:=Hr _ _ ub.out (0,0) (λe' h=>by cases h;exactλ_=>JH);rw[hu]at q;exact q
       clear hu rg1 rg2 W8 hD
       -- does
       have Uc:κ.drew.heap[pb]?=Y (L #[nv,I O first,I O (i:Nat),I O (m:Nat),Z qa qs.length qc] 110):=(HY.2.2.block _ (ah Na.out)).trans Na.out;have HDC:=hid (HDO.out κ.drew (HY.1.call (Å).drew) (HY.2.1.bH (RK.aF (Å).drew HY.1.le)) (HY.2.2.trans ((Å).drew)) HYY.1);have UI:Hid (ω w1 κ.drew):=HY.2.2.trans ((Å).drew);have hk:κ.drew.heap[mN]?=Y (L #[U false,Z (Y ⟨oN,0,M⟩) 8 8] 56):=HYY.2.1;have XM:=hid hk;obtain⟨DE,Tt,_⟩:=aI hk;refine wp_region_held_drew (S:=λw':Wd=>w'.heap[pb]?=Y (L #[nv,I O first,I O (i:Nat),I O (m:Nat),Z qa qs.length qc] 110)) Ã Uc (λaa=>?_);clear Uc hk HDO HY;generalize κ.drew=V at*;refine tq 0 (ρ (Y ⟨b,0,M⟩)) aa ?_;refine tq 1 (ρ (Y ⟨pb,0,M⟩)) aa ?_;refine tq 2 (ρ (Y ⟨pb,0,M⟩)) aa ?_;refine tq 3 (ρ (Y ⟨pb,1,M⟩)) aa ?_;refine tk 4 (I O first) rfl (λw' h=>by have q:=cell_of h 1 rfl;go_simp) aa ?_;refine bP 5 λK hK=>?_
       simp only[bG,gd];go_simp;refine hK.out _ _ aa (λaa=>?_);clear hK K;refine bP 6 λK hK=>?_
       simp only[bG];go_simp;refine HDC.mono ?_;rintro r w2⟨a2,n2,c2,rfl,ra2,k2,gN⟩;have DK:w2.heap[pb]?=Y (L #[nv,I O first,I O (i:Nat),I O (m:Nat),Z qa qs.length qc] 110):=(k2.below.block _ (ah Na.out)).trans aa;obtain⟨v1,v2,v3⟩:=HYY.2.2;have hbx:w2.heap[mN]?=Y (L #[U false,Z (Y ⟨oN,0,M⟩) 8 8] 56):=(k2.others _ (ah XM.out) (by show mN≠gf;omega) (by show mN≠gs;omega)).trans XM.out;obtain⟨z0,z1,xe,xo,_⟩:=aI hbx;have Uk:pb≠mN:=by have:=ah Na.out;omega
       have Gr:((w2.setCell ⟨mN,0,M⟩ (U u.isNone)).setCell ⟨mN,1,M⟩ (Z a2 n2 c2)).heap[pb]?=Y (L #[nv,I O first,I O (i:Nat),I O (m:Nat),Z qa qs.length qc] 110):=by rw[Æ _ _ _ _ Uk,Æ _ _ _ _ Uk];exact DK
       have H4':Hid (bE (E:=E) ⟨w1.heap.size,b,pb,gf,gs,ao,narrow,aj,th,sv⟩ (told (⟨[-32768,32767]++μ⟩:aw E) true (List.replicate i M,List.replicate m 0) es) ((w2.setCell ⟨mN,0,M⟩ (U u.isNone)).setCell ⟨mN,1,M⟩ (Z a2 n2 c2))/\dL ((w2.setCell ⟨mN,0,M⟩ (U u.isNone)).setCell ⟨mN,1,M⟩ (Z a2 n2 c2)) (J #[U u.isNone,Z a2 n2 c2]) u/\((w2.setCell ⟨mN,0,M⟩ (U u.isNone)).setCell ⟨mN,1,M⟩ (Z a2 n2 c2)).heap[mN]?=Y (Obj.cells #[U u.isNone,Z a2 n2 c2] 56)/\ω w1 ((w2.setCell ⟨mN,0,M⟩ (U u.isNone)).setCell ⟨mN,1,M⟩ (Z a2 n2 c2))):=And.intro (ra2.Mm hbx (by show mN≠gf;omega) (U u.isNone) (Z a2 n2 c2)) (And.intro (gN.put hbx (U u.isNone) (Z a2 n2 c2)) (And.intro (by rw[ai (ai hbx 0 (U u.isNone)) 1 (Z a2 n2 c2)];rfl) (((UI.trans k2.below).setCell (p:=⟨mN,0,M⟩) v1 _).setCell (p:=⟨mN,1,M⟩) v1 _)));clear DE Tt ra2 k2 gN HDC UI XM hbx;go_wp2_with fail;refine hK.out _ _ DK (λaa=>?_);clear hK K;refine bP 7 λK hK=>?_
       simp only[bG];go_simp;refine hK.out _ _ Gr (λaa=>?_);clear hK K;refine wpAnyH_done Ã ?_ _;have zV:=hid Gr;clear z0 z1 xe xo DK Gr aa;generalize (w2.setCell ⟨mN,0,M⟩ (U u.isNone)).setCell ⟨mN,1,M⟩ (Z a2 n2 c2)=w3 at*;go_wp2_with fail
       -- come
       have hS1:w3.drew.heap[pb]?=Y (L #[nv,I O first,I O (i:Nat),I O (m:Nat),Z qa qs.length qc] 110)/\w3.drew.heap[mN]?=Y (Obj.cells #[U u.isNone,Z a2 n2 c2] 56):=⟨zV.out,H4'.2.2.1⟩;have XY:=hid (yD (⟨[-32768,32767]++μ⟩:aw E) ⟨w1.heap.size,b,pb,gf,gs,ao,narrow,aj,th,sv⟩ _ ((Sp.pB t:Nat):Int) u _ true w3.drew (H4'.1.call (Å).drew) (H4'.2.1.below (Å).drew) QX.out ZE.out);have UI:Hid (ω w1 w3.drew):=H4'.2.2.2.trans ((Å).drew);have aaY:IntKind.i64.wrap (((i:Nat):Int)-1)=((Sp.pB t:Nat):Int):=by rw[IntKind.wrap_i64,Ut.1];have:=hn4;have:=Ut.1;omega
       refine wp_region_held_drew (S:=λw':Wd=>w'.heap[pb]?=Y (L #[nv,I O first,I O (i:Nat),I O (m:Nat),Z qa qs.length qc] 110)/\w'.heap[mN]?=Y (Obj.cells #[U u.isNone,Z a2 n2 c2] 56)) Ã hS1 (λaa=>?_);clear hS1 zV H4';generalize w3.drew=V3 at*;refine tq 0 (ρ (Y ⟨b,0,M⟩)) aa ?_;refine tq 1 (ρ (Y ⟨pb,0,M⟩)) aa ?_;refine tq 2 (ρ (Y ⟨pb,0,M⟩)) aa ?_;refine tq 3 (ρ (Y ⟨pb,2,M⟩)) aa ?_;refine tk 4 (I O (i:Nat)) rfl (λw' h=>by have q:=cell_of h.1 2 rfl;go_simp) aa ?_;refine tq 5 (I O ((Sp.pB t:Nat):Int)) aa ?_;refine tk 6 (J #[U u.isNone,Z a2 n2 c2]) rfl (λw' h=>by have q:=cell_of h.2 0 (v:=U u.isNone) rfl;have q2:=cell_of h.2 1 (v:=Z a2 n2 c2) rfl;go_simp) aa ?_;refine bP 7 λK hK=>?_
       simp only[bG,gd];go_simp;refine XY.mono ?_;rintro r w4⟨rfl,Tu,k4⟩;rw[MW.out]at Tu;have QK:w4.heap[pb]?=Y (L #[nv,I O first,I O (i:Nat),I O (m:Nat),Z qa qs.length qc] 110)/\w4.heap[mN]?=Y (Obj.cells #[U u.isNone,Z a2 n2 c2] 56):=⟨(k4.below.block _ (ah Na.out)).trans aa.1,(k4.others _ (ah aa.2) (by show mN≠gf;omega) (by show mN≠gs;omega)).trans aa.2⟩;have Ko:Hid (ω w1 w4):=UI.trans k4.below;have XV:Hid (bU (Dm (⟨[-32768,32767]++μ⟩:aw E)) (iL (E:=E) ⟨w1.heap.size,b,pb,gf,gs,ao,narrow,aj,th,sv⟩) t=bU (Dm (⟨fm th t⟩:aw E)) ⟨ao,narrow,aj⟩ t):=by
        have q:fm th t=[-32768,32767]++μ:=by unfold fm;rw[HL.out,HQS.out,gM];rfl
        unfold Hid;rw[q];rfl
       obtain⟨F4,hF4⟩:∃F4:jg,F4=bU (Dm (⟨[-32768,32767]++μ⟩:aw E)) (iL (E:=E) ⟨w1.heap.size,b,pb,gf,gs,ao,narrow,aj,th,sv⟩) t:=⟨_,rfl⟩;rw[<-hF4]at Tu;have HF4:Hid (F4=_):=hF4.trans XV.out;have HR4:=hid Tu;have m7:=cell_of Tu.aV 7 (v:=Z (Y ⟨gf,0,M⟩) F4.1.length F4.1.length) rfl;have m8:=cell_of Tu.aV 8 (v:=Z (Y ⟨gs,0,M⟩) F4.2.length F4.2.length) rfl;clear hF4 Tu k4 XY UI aa XV MW ZE aaY;go_wp2_with fail;refine hK.out _ _ QK (λ_=>?_);clear hK K QK;refine wpAnyH_done Ã ?_ _;go_wp2_with fail;go_quiet (fail);have HEN:Hid (bE (E:=E) ⟨w1.heap.size,b,pb,gf,gs,ao,narrow,aj,th,sv⟩ F4 (w4.drewN nq)/\ω w (w4.drewN nq)):=⟨HR4.call (qi _ _),HB.trans ((Ko.trans ((qi _ _).mono Ko.size)).mono HB.size)⟩;clear m7 m8 HR4 Ko;go_wp2_with fail;try simp only[Exit.inBlock,Exit.then]
       refine Ç (v:=φ #[Z (Y ⟨gf,0,M⟩) F4.1.length F4.1.length,Z (Y ⟨gs,0,M⟩) F4.2.length F4.2.length,I O 0,I O 0]) (by simp[results,results10,go_sem]) rfl ?_;exact⟨⟨w1.heap.size,b,pb,gf,gs,ao,narrow,aj,th,sv⟩,F4,rfl,HEN.1,HF4.out,HEN.2⟩
end RG
end
section
namespace RG
open Go.RowKit W
variable {E: Bool}
section
variable{a a':Option Addr}
theorem rm(s:ByteArray)(hs:s.size<=1048576)(ch ao narrow aj:Int)(th:Bool)(w:Wd)(k p:Int)
  (hP:Calls prog 8 #[χ s,J #[I O ch,I O ao,I O narrow,I O aj,U th]] w λe w'=>∃t u,e=υ (φ #[J #[Z M 0 0,Z M 0 0],σ t u])/\(Calls prog 9 #[σ t u] (w'.alloc (L #[Z M 0 0,Z M 0 0] 33)) λe w2=>e=υ (φ #[I O k,I O p])/\Below (w'.alloc (L #[Z M 0 0,Z M 0 0] 33)).heap.size (w'.alloc (L #[Z M 0 0,Z M 0 0] 33)) w2)/\ω w w')
  (hR:∀W:Wd,Calls prog 10 #[χ s,J #[I O ch,I O ao,I O narrow,I O aj,U th]] W λe w'=>e=υ (φ #[Z M 0 0,Z M 0 0,I O k,I O p])/\ω W w'):
  Calls prog 5 #[χ s,I O ch,I O ao,I O narrow,I O aj,U th] w λe w'=>e=υ (U true)/\ω w w':=by
 have gN:¬(1048576:Int)<(s.size:Int):=À;have HP:=hid hP;have HR:=hid hR;clear hP hR;go_enter func5,ntmps5;go_wp2_with fail;refine HP.mono ?_;rintro e w1⟨tt,uu,rfl,hT,b1⟩;have HB:Hid (ω w (w1.alloc (L #[Z M 0 0,Z M 0 0] 33))):=b1.trans ((below_alloc1 _ _).mono b1.size);have hx:=heap_alloc_new w1 (L #[Z M 0 0,Z M 0 0] 33);have HT:=hid hT;clear hT b1 HP;go_upto_region 4 with fail;generalize w1.alloc (L #[Z M 0 0,Z M 0 0] 33)=W at*;generalize w1.heap.size=oN at*;go_wp2_with fail;refine HT.mono ?_;rintro e w2⟨rfl,b2⟩;have py:=(b2.block _ (ah hx)).trans hx;have nI:Hid (ω w w2):=HB.trans (b2.mono HB.size);clear b2 hx HB HT;go_wp2_with fail;refine(HR.out w2).mono ?_;rintro e w3⟨rfl,b3⟩;have BJ:=(b3.block _ (ah py)).trans py;have zV:Hid (ω w w3):=nI.trans (b3.mono nI.size);clear b3 py nI HR;obtain⟨x0,x1,_⟩:=aI BJ;go_wp2_with fail;refine(A8 k w3).mono ?_;rintro e w4⟨rfl,rfl⟩;go_wp2_with fail
 go_loopw [21] (λv wr=>v=I O 0/\wr=w4) (λ_ _=>0)
 case atStart=>exact⟨rfl,rfl⟩
 case round=>
  obtain⟨rfl,rfl⟩:=hrel;go_wp2_with fail
  go_loopw [23] (λv wq=>v=I O 0/\wq=wr) (λ_ _=>0)
  case atStart=>exact⟨rfl,rfl⟩
  case round=>
   obtain⟨rfl,rfl⟩:=hrel;go_wp2_with fail;go_ret;exact⟨rfl,zV.out⟩
structure DR(w:Wd)(oN:Nat)(a:Option Addr)(n:Nat)(a':Option Addr)(m:Nat)(C:Rc E)(F:jg)(W:Wd):Prop where
 x:W.heap[oN]?=Y (L #[Z a n n,Z a' m m] 33)
 f:Co W a n a' m F
 ra:bE C F W
 b:ω w W
theorem DR.call{w:Wd}{oN:Nat}{n:Nat}{m:Nat}{C:Rc E}{F:jg}{W W':Wd}(h:DR w oN a n a' m C F W)(k:ω W W'):DR w oN a n a' m C F W':=
 ⟨(k.block _ (ah h.x)).trans h.x,h.f.below k,h.ra.call k,h.b.trans (k.mono h.b.size)⟩
theorem ru(s:ByteArray)(hs:s.size<=1048576)(ao narrow aj:Nat)(th:Bool)(w:Wd)(F:jg)
  (hP:Calls prog 8 #[χ s,J #[I O (dn E),I O (ao:Nat),I O (narrow:Nat),I O (aj:Nat),U th]] w λe w'=>∃v,e=υ (φ #[v,.nilIface])/\tN w.heap.size w' v F/\ω w w')
  (hR:∀W:Wd,Calls prog 10 #[χ s,J #[I O (dn E),I O (ao:Nat),I O (narrow:Nat),I O (aj:Nat),U th]] W λe w'=>∃(C:Rc E),e=υ (φ #[Z (Y ⟨C.gf,0,M⟩) F.1.length F.1.length,Z (Y ⟨C.gs,0,M⟩) F.2.length F.2.length,I O 0,I O 0])/\bE C F w'/\ω W w'):
  Calls prog 5 #[χ s,I O (dn E),I O (ao:Nat),I O (narrow:Nat),I O (aj:Nat),U th] w λe w'=>e=υ (U true)/\ω w w':=by
 have gN:¬(1048576:Int)<(s.size:Int):=À;have HP:=hid hP;have HR:=hid hR;clear hP hR;go_enter func5,ntmps5;go_wp2_with fail;refine HP.mono ?_;rintro e w1⟨v,rfl,hv,b1⟩;obtain⟨a,n,a',m,rfl,hV⟩:=Co.of hv;have hx:=heap_alloc_new w1 (L #[Z a n n,Z a' m m] 33);have bl:=below_alloc1 w1 (L #[Z a n n,Z a' m m] 33);have H1:Hid (Co (w1.alloc (L #[Z a n n,Z a' m m] 33)) a n a' m F/\ω w (w1.alloc (L #[Z a n n,Z a' m m] 33))/\(w1.alloc (L #[Z a n n,Z a' m m] 33)).heap[w1.heap.size]?=Y (L #[Z a n n,Z a' m m] 33)):=⟨hV.below bl,b1.trans (bl.mono b1.size),hx⟩;have XR:Hid (n=F.1.length/\m=F.2.length):=⟨hV.n,hV.m⟩;clear hv hV b1 bl hx HP;go_upto_region 4 with fail;generalize w1.alloc (L #[Z a n n,Z a' m m] 33)=W at*;generalize w1.heap.size=oN at*;go_wp2_with fail;refine(PO W).mono ?_;rintro e w2⟨rfl,b2⟩;have H2:Hid (Co w2 a n a' m F/\ω w w2/\w2.heap[oN]?=Y (L #[Z a n n,Z a' m m] 33)):=⟨H1.1.below b2,H1.2.1.trans (b2.mono H1.2.1.size),(b2.block _ (ah H1.2.2)).trans H1.2.2⟩;clear b2 H1;go_wp2_with fail;refine(HR.out w2).mono ?_;rintro e w3⟨C,rfl,ra3,b3⟩;have H3:Hid (DR w oN a n a' m C F w3):=⟨(b3.block _ (ah H2.2.2)).trans H2.2.2,H2.1.below b3,ra3,H2.2.1.trans (b3.mono H2.2.1.size)⟩;have hf1:((n:Nat):Int)<=1000:=by have:=ra3.Dw.1;have:=XR.1;omega
 have hf2:((m:Nat):Int)<=1000:=by have:=ra3.Dw.2;have:=XR.2;omega
 rw[<-XR.1,<-XR.2];clear b3 H2 HR ra3;obtain⟨x0,x1,_⟩:=aI H3.x;go_wp2_with fail;refine(A8 0 w3).mono ?_;rintro e w4⟨rfl,rfl⟩;go_wp2_with fail;clear x0 x1
 go_loopw [21] (λv wr=>∃j:Nat,j<=n/\v=I O j/\Hid (DR w oN a n a' m C F wr)) (λv _=>n-(intOf v).toNat)
 case atStart=>exact⟨0,Ì,rfl,H3⟩
 case round=>
  obtain⟨j,hj,rfl,hq⟩:=hrel;clear H3;by_cases Uo:j<n
  .have wJ:((j:Nat):Int)<((n:Nat):Int):=À
   obtain⟨st,im⟩:∃st,F.1[j]?=Y st:=⟨_,Î (by have:=XR.1;omega)⟩;obtain⟨g,rfl,_⟩:=hq.f.f j st im;have f17:=tM st;obtain⟨u,v,hu,hv,Jd,_⟩:=hq.ra.f j st im;obtain⟨va,vn,vc,ev⟩:=Jd.form;injection ev with ev
   have ev2:=Ë Array.toList ev;simp at ev2;obtain⟨rfl,rfl⟩:=ev2;obtain⟨J2,HJ⟩:∃J2,Hid (J2=j*2):=⟨_,rfl⟩;have HF:Hid (∀W:Wd,ω wr W->W.heap[oN]?=Y (L #[Z (Y ⟨g,0,M⟩) n n,Z a' m m] 33)/\W.rangeAt g (j*17) (uH st).toList/\W.cell? ⟨C.gf,J2,M⟩=Y (U st.isNone)/\W.cell? ⟨C.gf,J2+1,M⟩=Y (Z va vn vc)/\dL W (J #[U st.isNone,Z va vn vc]) st):=λW bW=>by
    have hW:=hq.call bW;obtain⟨g',e',r1⟩:=hW.f.f j st im;cases e'
    rw[HJ.out];exact⟨hW.x,r1,by rw[bW.cell (p:=⟨C.gf,j*2,M⟩) (jO hu)];exact hu,by rw[bW.cell (p:=⟨C.gf,j*2+1,M⟩) (jO hv)];exact hv,Jd.below bW⟩
   have HQ:=hid hq;clear hu hv Jd ev hq;go_upto_region 11 with fail;refine wp_region_held_drew (S:=λw':Wd=>w'.heap[oN]?=Y (L #[Z (Y ⟨g,0,M⟩) n n,Z a' m m] 33)/\w'.rangeAt g (j*17) (uH st).toList/\w'.cell? ⟨C.gf,J2,M⟩=Y (U st.isNone)/\w'.cell? ⟨C.gf,J2+1,M⟩=Y (Z va vn vc)/\dL w' (J #[U st.isNone,Z va vn vc]) st) Ã (HF.out _ (Å).drew) (λaa=>?_);have HD:Hid (ω wr wr.drew):=(Å).drew;generalize wr.drew=V at*;refine tq 0 (ρ (Y ⟨oN,0,M⟩)) aa ?_;refine tk 1 (Z (Y ⟨g,0,M⟩) n n) rfl (λw' h=>by have q:=cell_of h.1 0 (v:=Z (Y ⟨g,0,M⟩) n n) rfl;go_simp) aa ?_;refine tq 2 (I O (j:Nat)) aa ?_;refine tq 3 (ρ (Y ⟨g,j*17,M⟩)) aa ?_;refine nu 4 rfl (yieldsIf_load_mid Ê _ _ rfl _ _ rfl (uH st).toList _ (λw' h=>h.2.1) underlying53 rfl (by rw[CO,è,f17])) aa ?_;refine tq 5 (Z (Y ⟨C.gf,0,M⟩) n n) aa ?_;refine tq 6 (I O (j:Nat)) aa ?_;refine tk 7 (ρ (Y ⟨C.gf,J2,M⟩)) rfl (λw' h=>by rw[HJ.out];go_simp) aa ?_;refine tk 8 (J #[U st.isNone,Z va vn vc]) rfl (λw' h=>by have q:=h.2.2.1;have q2:=h.2.2.2.1;go_simp) aa ?_;have HC:=hid (yk st _ V aa.2.2.2.2);refine bP 9 λK hK=>?_
   simp only[bG,gd,Array.toArray_toList];go_simp;refine HC.mono ?_;rintro e w8⟨rfl,b8⟩;have WU:Hid (ω wr w8):=HD.trans (b8.mono HD.size);clear HC aa b8 HD;go_wp2_with fail;refine hK.out _ _ (HF.out _ WU.out) (λaa=>?_);clear hK K;refine bP 10 λK hK=>?_
   simp only[bG];go_simp;refine hK.out _ _ aa (λ_=>?_);clear hK K aa;refine wpAnyH_done Ã ?_ _;have H9:Hid (DR w oN (Y ⟨g,0,M⟩) n a' m C F w8):=HQ.call WU.out;clear HF HQ WU;go_wp2_with fail;exact⟨⟨j+1,À,by go_num,H9⟩,by simp[intOf];omega⟩
  .obtain rfl:j=n:=À
   go_wp2_with fail
   go_loopw [23] (λv wq=>∃i:Nat,i<=m/\v=I O i/\Hid (DR w oN a j a' m C F wq)) (λv _=>m-(intOf v).toNat)
   case atStart=>exact⟨0,Ì,rfl,hq⟩
   case round=>
    obtain⟨i,hi,rfl,vh⟩:=hrel;clear hq;by_cases him:i<m
    .have WD:((i:Nat):Int)<((m:Nat):Int):=À
     obtain⟨q,Tk⟩:∃q,F.2[i]?=Y q:=⟨_,Î (by have:=XR.2;omega)⟩;obtain⟨g,rfl,y0⟩:=vh.f.s i q Tk;obtain⟨y1,_⟩:=vh.ra.s i q Tk;obtain⟨x0,x1,_⟩:=aI vh.x;go_upto_region 17 with fail;go_quiet (fail);have H9:Hid (DR w oN a j (Y ⟨g,0,M⟩) m C F (wr.drewN nq)):=vh.call (qi _ _);clear vh x0 x1 y0 y1;go_wp2_with fail;exact⟨⟨i+1,À,by go_num,H9⟩,by simp[intOf];omega⟩
    .obtain rfl:i=m:=À
     have Nf:=hid vh.b;clear vh;go_wp2_with fail;go_ret;exact⟨rfl,Nf.out⟩
end
end RG
end
end Go.Proofs.YtiopfihjmkfdmabGreatDoor
