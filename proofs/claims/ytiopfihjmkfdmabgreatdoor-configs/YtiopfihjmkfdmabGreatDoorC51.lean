import Derived.Test.YtiopfihjmkfdmabGreatDoorC48
import Derived.Test.YtiopfihjmkfdmabGreatDoorC50
namespace Go.Proofs.YtiopfihjmkfdmabGreatDoor
open Go.Value renaming int->I,slice->Z,agg->J,bool->U,pointer->ρ,iface->σ,tuple->φ
open Go.IntKind renaming i64->O,i16->ψ
open Option renaming none->M,some->Y
open Go.Obj renaming cells->L
open Go.Ending renaming returned->υ
open Go.Proofs.Tryz Sp
open Go.RowKit
set_option maxRecDepth 100000
set_option maxHeartbeats 16000000
namespace W
variable {E: Bool}{G: aw E}
theorem tK(w:Wd)(G:aw E)(dv:Value)(ch:Int)(ao narrow aj:Nat)(th:Bool)(p q:Nat)(hp:p<=1000)(hq:q<=1000)(sF:narrow<=1000)(hun:aj<=1000)(v nv:Value)(hv:∃a n c,v=Z a n c)(QS:∃a n c,nv=Z a n c)(t:Sp.Bl)(hN:đ G dv w)(QB:Sp.Small (0,0) (Sp.pB t) (Sp.qB t))(lo hi:Nat)(w0:Wd)(Gc:eS lo hi w0 w)(Kh:hi<=w.heap.size)(hB:ą E (0,0) lo hi w0 v t ((p:Int),(q:Int))) :
  Calls prog (G.ix 22 21) #[J #[v,I O (p:Nat),I O (q:Nat),nv],J #[I O ch,I O (ao:Nat),I O (narrow:Nat),I O (aj:Nat),U th],σ (G.ix 92 87) dv] w λr w'=>∃g h,r=υ (J #[Z (Y ⟨g,0,M⟩) (p+1) (p+1),Z (Y ⟨h,0,M⟩) q q])/\w'.heap[g]?=Y (L (fl (bU (Dm G) ⟨ao,narrow,aj⟩ t).1).toArray 53)/\w'.heap[h]?=Y (L (cL (bU (Dm G) ⟨ao,narrow,aj⟩ t).2).toArray 3)/\w.heap.size<=g/\w.heap.size<=h/\ω w w':=by
 cases E
 all_goals
  try dsimp only[aw.ix,aw.kd]at*
  obtain⟨T,hT⟩:∃T:fS,T=o9 (Dm G) ⟨ao,narrow,aj⟩ t (0,0):=⟨_,rfl⟩;have HLP:Hid (cW (Dm G) ⟨ao,narrow,aj⟩ T t (0,0)):=by rw[hT];exact fv (Dm G) ⟨ao,narrow,aj⟩ _ t (0,0) QB (λp s _ _=>rfl)
  obtain⟨n,hn⟩:∃n,n=p+1:=⟨_,rfl⟩;have hmS:=EU (G:=G) n À;have hmI:=yA q À;obtain⟨fc0,hfc0⟩:∃x,x=(G.cX (List.replicate n M)).toArray:=⟨_,rfl⟩;obtain⟨sc0,hsc0⟩:∃x,x=(cL (List.replicate q 0)).toArray:=⟨_,rfl⟩;rw[<-hfc0]at hmS;rw[<-hsc0]at hmI;have Zv:IntKind.i64.wrap ((p:Nat)+1:Int)=((n:Nat):Int):=by rw[IntKind.wrap_i64];omega
  have HNP:=hid hn;obtain⟨va,vn,vc,rfl⟩:=hv;obtain⟨na,nn,nc,rfl⟩:=QS;obtain⟨pa,hpa⟩:∃pa,pa=#[Value.slice va vn vc,I O (p:Nat),I O (q:Nat),Z na nn nc]:=⟨_,rfl⟩;obtain⟨ca,QP⟩:∃ca,ca=#[Value.int O ch,I O (ao:Nat),I O (narrow:Nat),I O (aj:Nat),U th]:=⟨_,rfl⟩;have H0:Hid (Aa w pa ca (((w.alloc (L #[Z va vn vc,I O (p:Nat),I O (q:Nat),Z na nn nc] 79)).alloc (L #[I O ch,I O (ao:Nat),I O (narrow:Nat),I O (aj:Nat),U th] 39)).alloc (L #[Z M 0 0,Z M 0 0] 33))):=by obtain⟨k0,k1,k2,kb⟩:=bQ (w:=w) (o1:=L #[Z va vn vc,I O (p:Nat),I O (q:Nat),Z na nn nc] 79) (o2:=L #[I O ch,I O (ao:Nat),I O (narrow:Nat),I O (aj:Nat),U th] 39) (o3:=L #[Z M 0 0,Z M 0 0] 33) Å;rw[hpa,QP];exact⟨k0,k1,k2,kb⟩
  have hp0:pa[0]?=Y (Z va vn vc):=by rw[hpa];rfl
  have tV:pa[1]?=Y (I O (p:Nat)):=by rw[hpa];rfl
  have tY:pa[2]?=Y (I O (q:Nat)):=by rw[hpa];rfl
  have Qq:ca[0]?=Y (I O ch):=by rw[QP];rfl
  have F8:ca[1]?=Y (I O (ao:Nat)):=by rw[QP];rfl
  have px:ca[2]?=Y (I O (narrow:Nat)):=by rw[QP];rfl
  have zH:ca[3]?=Y (I O (aj:Nat)):=by rw[QP];rfl
  have wO:ca[4]?=Y (U th):=by rw[QP];rfl
  have HFC:=hid hfc0;have HSC:=hid hsc0;have HN:=hid hN;have nM:=hid hB;have HSO:=hid Gc;clear hT hfc0 hsc0 hpa QP hN hB Gc hn;try dsimp only[aw.ix,aw.kd]
  first|go_enter func22,ntmps22|go_enter func21,ntmps21
  go_wp2_with fail;generalize ((w.alloc (L #[Z va vn vc,I O (p:Nat),I O (q:Nat),Z na nn nc] 79)).alloc (L #[I O ch,I O (ao:Nat),I O (narrow:Nat),I O (aj:Nat),U th] 39)).alloc (L #[Z M 0 0,Z M 0 0] 33)=W0 at*
  go_cut [7] from 9 to 21 (λv7 wc=>∃kw m fb gf gs:Nat,v7=ρ (Y ⟨kw,0,M⟩)/\SL w G T dv ch ao narrow aj th n q kw m fb gf gs (List.replicate n M,List.replicate q 0) wc/\Aa w pa ca wc)
  case first=>
   have H1:Aa w pa ca W0.drew:=H0.call (Å).drew;refine wp_region_held_drew (S:=λw':Wd=>Aa w pa ca w') Ã H1 (λaa=>?_);clear H0 H1;generalize W0.drew=Wd at*;refine tq 0 (σ (G.ix 92 87) dv) aa ?_;refine tk 1 (J #[I O ch,I O (ao:Nat),I O (narrow:Nat),I O (aj:Nat),U th]) rfl (λw' h=>by(have d0:=cell_of h.c 0 Qq);(have d1:=cell_of h.c 1 F8);(have d2:=cell_of h.c 2 px);(have d3:=cell_of h.c 3 zH);have d4:=cell_of h.c 4 wO;go_simp) aa ?_;refine tq 3 (ρ (Y ⟨w.heap.size,1,M⟩)) aa ?_;refine tk 4 (I O (p:Nat)) rfl (λw' h=>by have d:=cell_of h.p 1 tV;go_simp) aa ?_;refine tq 5 (I O (n:Nat)) aa ?_;refine tq 7 (ρ (Y ⟨w.heap.size,2,M⟩)) aa ?_;refine tk 8 (I O (q:Nat)) rfl (λw' h=>by have d:=cell_of h.p 2 tY;go_simp) aa ?_;have ξ:Dc G w pa ca fc0 sc0 n q M M M M M Wd:=⟨aa,λ_ h=>(by cases h),λ_ h=>(by cases h),λ_ h=>(by cases h),λ_ _ _ h=>(by cases h),λ_ h=>(by cases h)⟩;generalize Wd=W at*;refine Ļ 2 6 9 13 (λK hK=>?_) (λK hK=>?_) (λK hK=>?_) (λK hK=>?_)
   all_goals
    repeat'
     simp only[bG,gd];go_simp
     first
      |(change K _ (W.alloc (.map #[] 0));replace ξ:=ξ.am;clear aa;refine hK.out _ _ ξ.s (λaa=>?_);clear hK K;generalize W.heap.size=m at*;generalize W.alloc (.map #[] 0)=W at*)
      |(replace ξ:=ξ.af;clear aa;refine hK.out _ _ ξ.s (λaa=>?_);clear hK K;generalize W.heap.size=gf at*;generalize W.alloc (L fc0 (G.ix 174 157))=W at*)
      |(replace ξ:=ξ.ag;clear aa;refine hK.out _ _ ξ.s (λaa=>?_);clear hK K;generalize W.heap.size=gs at*;generalize W.alloc (L sc0 3)=W at*)
      |(replace ξ:=ξ.ab;clear aa;refine hK.out _ _ ξ.s (λaa=>?_);clear hK K;generalize W.heap.size=fb at*;generalize W.alloc (ā G n q gf gs)=W at*)
      |(replace ξ:=ξ.ak;clear aa;refine hK.out _ _ ξ.s (λaa=>?_);clear hK K;generalize W.heap.size=kw at*;generalize W.alloc (L j9 (G.ix 171 154))=W at*)
     try (refine nu 10 rfl (lq Ê rfl Ã (Ĥ (G:=G) n q gf gs)) aa ?_ (hr:=by decide +kernel))
     try (refine nu 12 rfl (lq Ê rfl Ã (Į (G:=G) dv ch ao narrow aj th m fb)) aa ?_ (hr:=by decide +kernel))
     first
      |refine Yy 6 9 13 (λK hK=>?_) (λK hK=>?_) (λK hK=>?_) (hr:=by decide +kernel)
      |refine Yy 2 9 13 (λK hK=>?_) (λK hK=>?_) (λK hK=>?_) (hr:=by decide +kernel)
      |refine Yy 2 6 13 (λK hK=>?_) (λK hK=>?_) (λK hK=>?_) (hr:=by decide +kernel)
      |refine Yy 2 6 9 (λK hK=>?_) (λK hK=>?_) (λK hK=>?_) (hr:=by decide +kernel)
      |refine Yy 2 11 13 (λK hK=>?_) (λK hK=>?_) (λK hK=>?_) (hr:=by decide +kernel)
      |refine zZ 2 6 (λK hK=>?_) (λK hK=>?_) (hr:=by decide +kernel)
      |refine zZ 2 9 (λK hK=>?_) (λK hK=>?_) (hr:=by decide +kernel)
      |refine zZ 2 13 (λK hK=>?_) (λK hK=>?_) (hr:=by decide +kernel)
      |refine zZ 6 9 (λK hK=>?_) (λK hK=>?_) (hr:=by decide +kernel)
      |refine zZ 6 13 (λK hK=>?_) (λK hK=>?_) (hr:=by decide +kernel)
      |refine zZ 9 13 (λK hK=>?_) (λK hK=>?_) (hr:=by decide +kernel)
      |refine zZ 2 11 (λK hK=>?_) (λK hK=>?_) (hr:=by decide +kernel)
      |refine zZ 11 13 (λK hK=>?_) (λK hK=>?_) (hr:=by decide +kernel)
      |refine bP 2 (λK hK=>?_) (hr:=by decide +kernel)
      |refine bP 6 (λK hK=>?_) (hr:=by decide +kernel)
      |refine bP 9 (λK hK=>?_) (hr:=by decide +kernel)
      |refine bP 13 (λK hK=>?_) (hr:=by decide +kernel)
      |refine bP 11 (λK hK=>?_) (hr:=by decide +kernel)
      |refine Shut.out ?_
   all_goals
    unfold Shut;refine bP 14 λK hK=>?_
    simp only[bG,gd];rw[Á Ê];have aW:=SL.fin (T:=T) (ch:=ch) (ao:=ao) (narrow:=narrow) (aj:=aj) (th:=th) HN.out ⟨(ξ.xk kw rfl).1,(ξ.xf gf rfl).1,(ξ.xg gs rfl).1,(ξ.xm m rfl).1,(ξ.xb fb gf gs rfl rfl rfl).1⟩ (ξ.xm m rfl).2 (by rw[<-HFC.out];exact(ξ.xf gf rfl).2) (by rw[<-HSC.out];exact(ξ.xg gs rfl).2) (ξ.xb fb gf gs rfl rfl rfl).2 (ξ.xk kw rfl).2 ξ.s;refine wp_store_mid _ _ _ rfl _ _ (G.At dv ch ao narrow aj th m (Y ⟨fb,0,M⟩)) rfl rfl (by rw[show(G.At dv ch ao narrow aj th m (Y ⟨fb,0,M⟩)).size=8 from rfl];exact bO (ξ.xk kw rfl).2) (by rw[CP (G:=G)];rfl) (G.S7 _ _ _ _ _ _ _ _) ?_;refine hK.out _ _ aW.2 (λ_=>?_);clear hK K;refine wpAnyH_done Ã ?_ _;go_wp2_with fail;go_meet
    case rel=>exact⟨_,_,_,_,_,rfl,aW⟩
  case rest=>
   obtain⟨kw,m,fb,gf,gs,rfl,⟨hl,Ur,hA⟩,hS⟩:=hcut;have fH:(G.wk (z6 w dv ch ao narrow aj th n q m fb gf gs) true).size=8:=rfl;have wL:(G.wk (z6 w dv ch ao narrow aj th n q m fb gf gs) true)[7]?=Y (ρ (Y ⟨fb,0,M⟩)):=rfl;have FV:Sp.cB t (0,0)=((p:Int),(q:Int)):=nM.cb;have Yo:=gp t (0,0) QB;rw[FV]at Yo;have hpe:p=Sp.pB t:=by injection Yo with h1 h2;simp at h1;omega
   have hqe:q=Sp.qB t:=by injection Yo with h1 h2;simp at h2;omega
   have Ng:=HNP.out;obtain⟨F0,hF0⟩:∃F0:Fd,F0=(List.replicate n M,List.replicate q 0):=⟨_,rfl⟩;have l1:F0.1.length=n:=by rw[hF0];simp
   have l2:F0.2.length=q:=by rw[hF0];simp
   rw[<-hF0]at hA;obtain⟨RR,hRR⟩:∃RR:List cE×ST,RR=Sp.cJ (Dm G) ⟨ao,narrow,aj⟩ t (0,0) (Y λ_=>G.iC 0):=⟨_,rfl⟩;have Xv:dk true F0 RR.1:=λ_ ev hev=>by
    rw[hRR]at hev;have:=j0 (D:=Dm G) ⟨ao,narrow,aj⟩ t (0,0) QB _ ev hev;cases ev with
    |aA a s=>obtain⟨e1,e2⟩:=this;simp at e1 e2;exact⟨e1,by rw[l1];omega⟩
    |site a s=>obtain⟨e1,e2⟩:=this;simp at e1 e2;exact⟨e1,by rw[l2];omega⟩
   have ZU:∀k:Fin 8,G.Wv ((λ_=>G.iC 0:Fin 8->Sp.Iv) k):=λ_=>(Kr G).wnum 0 ⟨À,À⟩
   have Nc:Sp.Wf (Kr G) RR.2:=by rw[hRR];exact gH (K:=Kr G) _ t nM.ok _ _ (Sp.Wf.some ZU)
   have MW:Hid (bU (Dm G) ⟨ao,narrow,aj⟩ t=told G true (told G true F0 RR.1) (vT G (p:Nat) RR.2)):=by unfold Hid bU;rw[FV,<-aH,hF0,hRR];show Sp.tell (Dm G) (List.replicate (((p:Nat):Int)+1).toNat M,List.replicate (((q:Nat):Int)).toNat 0) _=_;rw[show(((p:Nat):Int)+1).toNat=n by omega,show(((q:Nat):Int)).toNat=q by omega];rfl
   have hM:sH w pa ca (z6 w dv ch ao narrow aj th n q m fb gf gs) G T kw F0 wc:=⟨hA,Ur,hS⟩;obtain⟨ua,hua⟩:∃ua,ua=G.aQ RR.2:=⟨_,rfl⟩;have rI:ua.size=17:=by rw[hua];exact G.aG _
   have Nq:ua.all (·.oneCell')=true:=by rw[hua];exact G.aZ _
   obtain⟨xa,oQ⟩:∃xa,xa=G.aQ (Y λ_=>G.iC 0):=⟨_,rfl⟩;have hBA:=nM.calls (z6 w dv ch ao narrow aj th n q m fb gf gs) G T true wc (λk h1 h2 h3=>by rw[hS.b.block k À];exact HSO.out k h1 h2 h3) Kh sF hun HLP.out;have AD:Hid (∀W,aB (z6 w dv ch ao narrow aj th n q m fb gf gs) wc W->sH w pa ca (z6 w dv ch ao narrow aj th n q m fb gf gs) G T kw F0 W->Calls prog (G.ix 47 42) #[J (G.wk (z6 w dv ch ao narrow aj th n q m fb gf gs) true),Z va vn vc,J xa] W λr w'=>r=υ (J ua)/\sH w pa ca (z6 w dv ch ao narrow aj th n q m fb gf gs) G T kw (told G true F0 RR.1) w'/\aB (z6 w dv ch ao narrow aj th n q m fb gf gs) W w'):=λW hk hW=>by
    have h1:Calls prog (G.ix 47 42) #[J (G.wk (z6 w dv ch ao narrow aj th n q m fb gf gs) true),Z va vn vc,J (G.aQ (Y λ_=>G.iC 0))] W (jh (z6 w dv ch ao narrow aj th n q m fb gf gs) G T F0 true W RR.1 RR.2):=by rw[hRR]at Xv⊢;exact hBA F0 W (Y λ_=>G.iC 0) hk hW.a (Sp.Wf.some ZU) Xv
    unfold jh at h1;rw[<-hua,<-oQ]at h1;exact h1.mono λr w' k=>⟨k.1,hW.bH rfl ⟨hl.2.1,hl.2.2.1,hl.2.2.2⟩ k.2.1 k.2.2,k.2.2⟩
   have HNU:Hid (∀W,sH w pa ca (z6 w dv ch ao narrow aj th n q m fb gf gs) G T kw F0 W->Calls prog (G.ix 302 279) #[dv,I ψ 0] W λe w'=>e=υ (J #[I G.kd (G.iC 0).a,I G.kd (G.iC 0).b])/\ω W w'):=λW hW=>Kb hW.a.does 0 À À
   have TW:Hid (∀W,Calls prog (G.ix 48 43) #[J #[I G.kd (G.iC 0).a,I G.kd (G.iC 0).b]] W λe w'=>e=υ (J xa)/\ω W w'):=λW=>by rw[oQ];exact rS (G.iC 0) W
   have XA:Hid (∀W,sH w pa ca (z6 w dv ch ao narrow aj th n q m fb gf gs) G T kw (told G true F0 RR.1) W->Calls prog (G.ix 49 44) #[J (G.wk (z6 w dv ch ao narrow aj th n q m fb gf gs) true),I O (p:Nat),J ua] W λr w'=>r=υ (φ #[])/\sH w pa ca (z6 w dv ch ao narrow aj th n q m fb gf gs) G T kw (told G true (told G true F0 RR.1) (vT G (p:Nat) RR.2)) w'/\aB (z6 w dv ch ao narrow aj th n q m fb gf gs) W w'):=λW hW=>by have h1:=nX (z6 w dv ch ao narrow aj th n q m fb gf gs) G T (told G true F0 RR.1) true W hW.a (p:Nat) RR.2 Nc (λ_=>⟨À,by rw[(jR G true F0 RR.1).1,l1];omega⟩);rw[<-hua]at h1;exact h1.mono λr w' k=>⟨k.1,hW.bH rfl ⟨hl.2.1,hl.2.2.1,hl.2.2.2⟩ k.2.1 k.2.2,k.2.2⟩
   obtain⟨F2,hF2⟩:∃F2,F2=told G true (told G true F0 RR.1) (vT G (p:Nat) RR.2):=⟨_,rfl⟩;rw[<-hF2]at XA MW;have l3:F2.1.length=n:=by rw[hF2,(jR ..).1,(jR ..).1,l1]
   have l4:F2.2.length=q:=by rw[hF2,(jR ..).2,(jR ..).2,l2]
   have HFS:Hid (∀W,sH w pa ca (z6 w dv ch ao narrow aj th n q m fb gf gs) G T kw F2 W->Calls prog (G.ix 50 46) #[σ (G.ix 92 87) dv,Z (Y ⟨gf,0,M⟩) n n] W λr w'=>r=υ (Z (Y ⟨W.heap.size,0,M⟩) n n)/\w'.heap[W.heap.size]?=Y (L (fl F2.1).toArray 53)/\ω W w'):=λW hW=>by have h1:=En (B:=w.heap.size) (G:=G) dv gf n F2.1 W hW.a.does hW.a.Dt hW.a.wfF À;rw[l3]at h1;exact h1
   have HM:=hid hM;have hwm:∀w,(method 580 (G.ix 92 87) dv "Number").run prog w=.ok ((G.ix 302 279),dv) w:=λw=>Ã
   have WB:=hid l3;have HL4:=hid l4;have HL:=hid hl;clear hF2 l1 l2 l3 l4 hF0 hRR Xv ZU Nc hM hA Ur hS hBA hua oQ FV Yo hpe hqe Ng hl nM HSO HLP HN hmS hmI HFC HSC Zv;obtain⟨wa,uf⟩:∃wa,wa=G.wk (z6 w dv ch ao narrow aj th n q m fb gf gs) true:=⟨_,rfl⟩;rw[<-uf]at fH wL AD XA;have hMO:∀F W,sH w pa ca (z6 w dv ch ao narrow aj th n q m fb gf gs) G T kw F W->W.heap[kw]?=Y (L wa (G.ix 171 154)):=λF W hW=>by rw[uf];exact hW.o
   have HMO:=hid hMO;clear uf hMO;generalize hCC:z6 w dv ch ao narrow aj th n q m fb gf gs=C at*;have XY:=hid hCC;clear hCC;go_wp2_with fail
   go_cut [8] from 22 to 28 (λv8 wd=>∃k8:Nat,v8=ρ (Y ⟨k8,0,M⟩)/\Hid (sH w pa ca C G T kw (told G true F0 RR.1) wd/\wd.heap[k8]?=Y (L ua (G.ix 174 157))/\k8≠C.gf/\k8≠C.gs/\k8≠C.m))
   case first=>
    have M0:sH w pa ca C G T kw F0 wc.drew:=HM.call (Å).drew;have K0:aB C wc wc.drew:=aB.aF (Å).drew HM.a.le;refine wp_region_held_drew (S:=λw':Wd=>∃F',sH w pa ca C G T kw F' w') Ã ⟨_,M0⟩ (λaa=>?_);generalize wc.drew=V0 at*;refine nu 0 rfl (G.se rfl _ rfl _ _ rfl (wa) (λw' h=>(h.elim λF h=>aT (HMO.out F _ h))) fH) aa ?_;refine tq 1 (ρ (Y ⟨w.heap.size,0,M⟩)) aa ?_;refine tk 2 (Z va vn vc) rfl (λw' h=>by obtain⟨_,h⟩:=h;have d:=cell_of h.s.p 0 hp0;go_simp) aa ?_;refine tq 3 (σ (G.ix 92 87) dv) aa ?_;refine zZ 4 7 ?_ ?_
    .intro K hK
     simp only[bG,gd];go_simp;refine(HNU.out _ M0).mono ?_;rintro r V1⟨rfl,b1⟩;go_wp2_with fail;have M1:=M0.call b1;have K1:=K0.trans (aB.aF b1 M0.a.le);refine hK.out _ _ ⟨_,M1⟩ (λaa=>?_);clear hK K b1;refine zZ 5 7 ?_ ?_
     .intro K hK
      simp only[bG];go_simp;refine(TW.out _).mono ?_;rintro r V2⟨rfl,b2⟩;go_wp2_with fail;have M2:=M1.call b2;have K2:=K1.trans (aB.aF b2 M1.a.le);refine hK.out _ _ ⟨_,M2⟩ (λaa=>?_);clear hK K b2;refine zZ 6 7 ?_ ?_
      .intro K hK
       simp only[bG];go_simp;refine(AD.out _ K2 M2).mono ?_;rintro r V3⟨rfl,M3,b3⟩;go_wp2_with fail;have K3:=K2.trans b3;refine hK.out _ _ ⟨_,M3⟩ (λaa=>?_);clear hK K b3;refine bP 7 ?_
       .intro K hK
        simp only[bG];have pC:=heap_alloc_new V3 (L G.zS (G.ix 174 157));have M4:=M3.call (below_alloc1 V3 (L G.zS (G.ix 174 157)));have K4:=K3.trans (aB.aF (below_alloc1 V3 (L G.zS (G.ix 174 157))) M3.a.le);have XP:wc.heap.size<=V3.heap.size:=K3.below.size;go_simp;refine hK.out _ _ ⟨_,M4⟩ (λaa=>?_);clear hK K;generalize V3.alloc (L G.zS (G.ix 174 157))=V4 at*;generalize V3.heap.size=a4 at*;refine bP 8 λK hK=>?_
        simp only[bG];rw[Á Ê];refine lY (G:=G) _ _ rfl rfl rfl (bO pC) rI Nq ?_;have df:=HM.a.lt;have db:a4≠C.gf/\a4≠C.gs/\a4≠C.m:=⟨À,À,À⟩;have aW:sH w pa ca C G T kw (told G true F0 RR.1) (V4.setCells a4 0 ua.toList):=M4.put HM.out XP ua.toList;refine hK.out _ _ ⟨_,aW⟩ (λ_=>?_);clear hK K;refine wpAnyH_done Ã ?_ _;go_wp2_with fail;go_meet
        case rel=>exact⟨_,rfl,aW,ar pC (by rw[rI];rfl),db⟩
      .intro K hK
       simp only[bG];have tQ:=heap_alloc_new V2 (L G.zS (G.ix 174 157));have M5:=M2.call (below_alloc1 V2 (L G.zS (G.ix 174 157)));have K5:=K2.trans (aB.aF (below_alloc1 V2 (L G.zS (G.ix 174 157))) M2.a.le);have BK:wc.heap.size<=V2.heap.size:=K2.below.size;go_simp;refine hK.out _ _ ⟨_,M5⟩ (λaa=>?_);clear hK K;generalize V2.alloc (L G.zS (G.ix 174 157))=V5 at*;generalize V2.heap.size=a5 at*;refine bP 6 ?_
       .intro K hK
        simp only[bG];go_simp;refine(AD.out _ K5 M5).mono ?_;rintro r V6⟨rfl,M6,b6⟩;go_wp2_with fail;have K6:=K5.trans b6;have I0:=b6.bf HM.a BK tQ;refine hK.out _ _ ⟨_,M6⟩ (λaa=>?_);clear hK K b6;refine bP 8 λK hK=>?_
        simp only[bG];rw[Á Ê];refine lY (G:=G) _ _ rfl rfl rfl (bO I0) rI Nq ?_;have df:=HM.a.lt;have db:a5≠C.gf/\a5≠C.gs/\a5≠C.m:=⟨À,À,À⟩;have aW:sH w pa ca C G T kw (told G true F0 RR.1) (V6.setCells a5 0 ua.toList):=M6.put HM.out BK ua.toList;refine hK.out _ _ ⟨_,aW⟩ (λ_=>?_);clear hK K;refine wpAnyH_done Ã ?_ _;go_wp2_with fail;go_meet
        case rel=>exact⟨_,rfl,aW,ar I0 (by rw[rI];rfl),db⟩
     .intro K hK
      simp only[bG];have Kt:=heap_alloc_new V1 (L G.zS (G.ix 174 157));have M7:=M1.call (below_alloc1 V1 (L G.zS (G.ix 174 157)));have K7:=K1.trans (aB.aF (below_alloc1 V1 (L G.zS (G.ix 174 157))) M1.a.le);have Kj:wc.heap.size<=V1.heap.size:=K1.below.size;go_simp;refine hK.out _ _ ⟨_,M7⟩ (λaa=>?_);clear hK K;generalize V1.alloc (L G.zS (G.ix 174 157))=V7 at*;generalize V1.heap.size=a7 at*;refine bP 5 ?_
      .intro K hK
       simp only[bG];go_simp;refine(TW.out _).mono ?_;rintro r V8⟨rfl,b8⟩;go_wp2_with fail;have M8:=M7.call b8;have K8:=K7.trans (aB.aF b8 M7.a.le);have ZG:=(b8.block _ (ah Kt)).trans Kt;refine hK.out _ _ ⟨_,M8⟩ (λaa=>?_);clear hK K b8;refine bP 6 ?_
       .intro K hK
        simp only[bG];go_simp;refine(AD.out _ K8 M8).mono ?_;rintro r V9⟨rfl,M9,b9⟩;go_wp2_with fail;have K9:=K8.trans b9;have hz9:=b9.bf HM.a Kj ZG;refine hK.out _ _ ⟨_,M9⟩ (λaa=>?_);clear hK K b9;refine bP 8 λK hK=>?_
        simp only[bG];rw[Á Ê];refine lY (G:=G) _ _ rfl rfl rfl (bO hz9) rI Nq ?_;have df:=HM.a.lt;have db:a7≠C.gf/\a7≠C.gs/\a7≠C.m:=⟨À,À,À⟩;have aW:sH w pa ca C G T kw (told G true F0 RR.1) (V9.setCells a7 0 ua.toList):=M9.put HM.out Kj ua.toList;refine hK.out _ _ ⟨_,aW⟩ (λ_=>?_);clear hK K;refine wpAnyH_done Ã ?_ _;go_wp2_with fail;go_meet
        case rel=>exact⟨_,rfl,aW,ar hz9 (by rw[rI];rfl),db⟩
    .intro K hK
     simp only[bG,gd];have Z8:=heap_alloc_new V0 (L G.zS (G.ix 174 157));have UG:=M0.call (below_alloc1 V0 (L G.zS (G.ix 174 157)));have K10:=K0.trans (aB.aF (below_alloc1 V0 (L G.zS (G.ix 174 157))) M0.a.le);have aaj:wc.heap.size<=V0.heap.size:=K0.below.size;go_simp;refine hK.out _ _ ⟨_,UG⟩ (λaa=>?_);clear hK K;generalize V0.alloc (L G.zS (G.ix 174 157))=V10 at*;generalize V0.heap.size=QY at*;refine bP 4 ?_
     .intro K hK
      simp only[bG];go_simp;refine(HNU.out _ UG).mono ?_;rintro r V11⟨rfl,b11⟩;go_wp2_with fail;have Up:=UG.call b11;have K11:=K10.trans (aB.aF b11 UG.a.le);have Y6:=(b11.block _ (ah Z8)).trans Z8;refine hK.out _ _ ⟨_,Up⟩ (λaa=>?_);clear hK K b11;refine bP 5 ?_
      .intro K hK
       simp only[bG];go_simp;refine(TW.out _).mono ?_;rintro r V12⟨rfl,b12⟩;go_wp2_with fail;have M12:=Up.call b12;have K12:=K11.trans (aB.aF b12 Up.a.le);have aaR:=(b12.block _ (ah Y6)).trans Y6;refine hK.out _ _ ⟨_,M12⟩ (λaa=>?_);clear hK K b12;refine bP 6 ?_
       .intro K hK
        simp only[bG];go_simp;refine(AD.out _ K12 M12).mono ?_;rintro r V13⟨rfl,M13,b13⟩;go_wp2_with fail;have K13:=K12.trans b13;have ZO:=b13.bf HM.a aaj aaR;refine hK.out _ _ ⟨_,M13⟩ (λaa=>?_);clear hK K b13;refine bP 8 λK hK=>?_
        simp only[bG];rw[Á Ê];refine lY (G:=G) _ _ rfl rfl rfl (bO ZO) rI Nq ?_;have df:=HM.a.lt;have db:QY≠C.gf/\QY≠C.gs/\QY≠C.m:=⟨À,À,À⟩;have aW:sH w pa ca C G T kw (told G true F0 RR.1) (V13.setCells QY 0 ua.toList):=M13.put HM.out aaj ua.toList;refine hK.out _ _ ⟨_,aW⟩ (λ_=>?_);clear hK K;refine wpAnyH_done Ã ?_ _;go_wp2_with fail;go_meet
        case rel=>exact⟨_,rfl,aW,ar ZO (by rw[rI];rfl),db⟩
   case rest=>
    obtain⟨k8,rfl,hr⟩:=hcut;have M0:sH w pa ca C G T kw (told G true F0 RR.1) wc.drew:=hr.1.call (Å).drew;have Z0:wc.drew.heap[k8]?=Y (L ua (G.ix 174 157)):=hr.2.1;have db:=hr.2.2;have HM0:=hid M0;go_wp2_with fail;refine wp_region_held_drew (S:=λw':Wd=>(∃F',sH w pa ca C G T kw F' w')/\w'.heap[k8]?=Y (L ua (G.ix 174 157))) Ã ⟨⟨_,M0⟩,Z0⟩ (λaa=>?_);clear M0 Z0 AD HNU TW;refine nu 0 rfl (G.se rfl _ rfl _ _ rfl (wa) (λw' h=>(h.1.elim λF h=>aT (HMO.out F _ h))) fH) aa ?_;refine nu 4 rfl (G.nw rfl _ rfl _ _ rfl (ua) (λw' h=>aT h.2) rI) aa ?_;refine tq 1 (ρ (Y ⟨w.heap.size,1,M⟩)) aa ?_;refine tk 2 (I O (p:Nat)) rfl (λw' h=>by obtain⟨⟨_,h⟩,_⟩:=h;have d:=cell_of h.s.p 1 tV;go_simp) aa ?_;refine bP 3 λK hK=>?_
    simp only[bG,gd];go_simp;refine(fX _ _).mono ?_;rintro r w1⟨rfl,rfl⟩;go_wp2_with fail;refine hK.out _ _ aa (λaa=>?_);clear hK K;refine bP 5 λK hK=>?_
    simp only[bG];go_simp;refine(XA.out _ HM0.out).mono ?_;rintro r w2⟨rfl,M2,b2⟩;go_wp2_with fail;refine hK.out _ _ ⟨⟨_,M2⟩,(b2.others _ (ah aa.2) db.1 db.2.1 db.2.2).trans aa.2⟩ (λ_=>?_);clear hK K aa b2;refine wpAnyH_done Ã ?_ _;have HM2:=hid M2;clear M2 hr db HM0 XA;go_wp2_with fail;have M3:sH w pa ca C G T kw F2 w2.drew:=HM2.call (Å).drew;have eC:=XY.out;have DO:∀W,sH w pa ca C G T kw F2 W->W.heap[fb]?=Y (L #[Z (Y ⟨gf,0,M⟩) n n,Z (Y ⟨gs,0,M⟩) q q] (G.ix 169 152)):=λW hW=>by have:=hW.a.DO;rw[<-eC]at this;rw[WB.out,HL4.out]at this;exact this
    have HFB:=hid DO;have xW:∀W,sH w pa ca C G T kw F2 W->W.heap[gs]?=Y (L (cL F2.2).toArray 3):=λW hW=>by have:=hW.a.xW;rw[<-eC]at this;exact this
    have HGS:=hid xW;clear DO xW eC;have XB:=hid M3;have nJ:w2.drew.heap[w.heap.size+1+1]?=Y (L #[Z M 0 0,Z M 0 0] 33):=M3.s.z;refine wp_region_held_drew (S:=λw':Wd=>(w'.heap[kw]?=Y (L wa (G.ix 171 154))/\w'.heap[fb]?=Y (L #[Z (Y ⟨gf,0,M⟩) n n,Z (Y ⟨gs,0,M⟩) q q] (G.ix 169 152)))/\∃c:Array Value,c.size=2/\w'.heap[w.heap.size+1+1]?=Y (L c 33)) Ã ⟨⟨HMO.out _ _ M3,HFB.out _ M3⟩,_,rfl,nJ⟩ (λaa=>?_);clear M3;refine tq 0 (σ (G.ix 92 87) dv) aa ?_;refine tq 1 (ρ (Y ⟨kw,7,M⟩)) aa ?_;refine tk 2 (ρ (Y ⟨fb,0,M⟩)) rfl (λw' h=>by have d:=cell_of h.1.1 7 wL;go_simp) aa ?_;refine tq 3 (ρ (Y ⟨fb,0,M⟩)) aa ?_;refine tq 4 (ρ (Y ⟨fb,0,M⟩)) aa ?_;refine tk 5 (Z (Y ⟨gf,0,M⟩) n n) rfl (λw' h=>by have d:=cell_of h.1.2 0 (v:=Z (Y ⟨gf,0,M⟩) n n) rfl;go_simp) aa ?_;refine tq 7 (ρ (Y ⟨kw,7,M⟩)) aa ?_;refine tk 8 (ρ (Y ⟨fb,0,M⟩)) rfl (λw' h=>by have d:=cell_of h.1.1 7 wL;go_simp) aa ?_;refine tq 9 (ρ (Y ⟨fb,0,M⟩)) aa ?_;refine tq 10 (ρ (Y ⟨fb,1,M⟩)) aa ?_;refine tk 11 (Z (Y ⟨gs,0,M⟩) q q) rfl (λw' h=>by have d:=cell_of h.1.2 1 (v:=Z (Y ⟨gs,0,M⟩) q q) rfl;go_simp) aa ?_;refine bP 6 λK hK=>?_
    simp only[bG,gd];go_simp;refine(HFS.out _ XB.out).mono ?_;rintro r w4⟨rfl,XS,b4⟩;go_wp2_with fail;have pC:=(b4.block _ (ah nJ)).trans nJ;have QK:(w4.heap[kw]?=Y (L wa (G.ix 171 154))/\w4.heap[fb]?=Y (L #[Z (Y ⟨gf,0,M⟩) n n,Z (Y ⟨gs,0,M⟩) q q] (G.ix 169 152))):=⟨(b4.block _ (ah aa.1.1)).trans aa.1.1,(b4.block _ (ah aa.1.2)).trans aa.1.2⟩;refine hK.out _ _ ⟨QK,_,rfl,pC⟩ (λaa=>?_);clear hK K;refine nu 12 (v:=J #[Z (Y ⟨w2.drew.heap.size,0,M⟩) n n,Z (Y ⟨gs,0,M⟩) q q]) rfl (lq Ê rfl (vals:=#[(0,Z (Y ⟨w2.drew.heap.size,0,M⟩) n n),(1,Z (Y ⟨gs,0,M⟩) q q)]) Ã (Pa _ _ ⟨_,_,_,rfl⟩ ⟨_,_,_,rfl⟩)) aa ?_;have Dz:=XB.s.lt;have aal:=(b4.block _ (ah (HGS.out _ XB.out))).trans (HGS.out _ XB.out);have hll:=HL.out;have hkf:kw≠w.heap.size+1+1:=À;have hfz:fb≠w.heap.size+1+1:=λe=>by
     have h1:=QK.2;rw[e,pC]at h1;injection h1 with h1
     injection h1 with _ h1 _
     exact absurd h1 (Nat.ne_of_beq_eq_false rfl)
    have je:=ar pC (d:=#[Z (Y ⟨w2.drew.heap.size,0,M⟩) n n,Z (Y ⟨gs,0,M⟩) q q]) rfl;refine bP 13 λK hK=>?_
    simp only[bG,gd];rw[Á Ê];refine wp_store_mid _ _ _ rfl _ _ #[Z (Y ⟨w2.drew.heap.size,0,M⟩) n n,Z (Y ⟨gs,0,M⟩) q q] rfl rfl (show w4.there (w.heap.size+1+1) 0 2 from bO pC) (by rw[Cf];rfl) (by simp[Value.oneCell']) ?_;refine hK.out _ _ ⟨⟨(al _ _ _ _ hkf).trans QK.1,(al _ _ _ _ hfz).trans QK.2⟩,_,rfl,je⟩ (λ_=>?_);clear hK K;refine wpAnyH_done Ã ?_ _;have Zw:ω w (w4.setCells (w.heap.size+1+1) 0 (#[Value.slice (Y ⟨w2.drew.heap.size,0,M⟩) n n,Z (Y ⟨gs,0,M⟩) q q]:Array Value).toList):=au (b:=w.heap.size+1+1) À _ _ _ _ (XB.s.b.trans (b4.mono XB.s.b.size));have Yd:=hid je;have Xl:=hid Zw;have HG4:Hid (_=_):=(al (b:=w.heap.size+1+1) (#[Value.slice (Y ⟨w2.drew.heap.size,0,M⟩) n n,Z (Y ⟨gs,0,M⟩) q q]:Array Value).toList 0 w4 w2.drew.heap.size À).trans XS;have HS4:Hid (_=_):=(al (b:=w.heap.size+1+1) (#[Value.slice (Y ⟨w2.drew.heap.size,0,M⟩) n n,Z (Y ⟨gs,0,M⟩) q q]:Array Value).toList 0 w4 gs À).trans aal;have hlg:w.heap.size<=w2.drew.heap.size:=XB.s.b.size;have hlh:w.heap.size<=gs:=À;clear je Zw XS aal b4 aa QK pC nJ;go_wp2_with fail;refine Ç (IF rfl _ _ rfl Yd.out rfl) rfl ⟨w2.drew.heap.size,gs,?_,?_,?_,hlg,hlh,Xl.out⟩
    .rw[HNP.out]
    .rw[MW.out];exact HG4.out
    .rw[MW.out];exact HS4.out
end W
end Go.Proofs.YtiopfihjmkfdmabGreatDoor
