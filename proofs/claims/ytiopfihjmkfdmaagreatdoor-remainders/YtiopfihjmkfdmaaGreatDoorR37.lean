import Derived.Test.YtiopfihjmkfdmaaGreatDoorR35
import Derived.Test.YtiopfihjmkfdmaaGreatDoorR36
namespace Go.Proofs.YtiopfihjmkfdmaaGreatDoor
open Go.Value renaming int→I,slice→Z,agg→J,bool→U,pointer→ρ,iface→σ,tuple→φ
open Go.IntKind renaming i64→O,i16→ψ
open Option renaming none→M,some→Y
open Go.Obj renaming cells→L
open Go.Ending renaming returned→υ
open Go.Proofs.Tryz Sp
open Go.RowKit
set_option maxRecDepth 100000
set_option maxHeartbeats 16000000
namespace W
variable {δ : Bool}{π : ar δ}
theorem Be(w:Wd)(π:ar δ)(dv:Value)(bY:Int)(al narrow ai:Nat)(th:Bool)(p q:Nat)(hp:p<=1000)(hq:q<=1000)(qO:narrow<=1000)(hun:ai<=1000)(v nv:Value)(hv:∃a n c,v=Z a n c)(NQ:∃a n c,nv=Z a n c)(t:Sp.Bl)(hN:RpN π dv w)(TU:Sp.Small (0,0) (Sp.pB t) (Sp.qB t))(lo hi:Nat)(w0:Wd)(DU:eu lo hi w0 w)(Iq:hi<=w.heap.size)(hB:BlA δ (0,0) lo hi w0 v t ((p:Int),(q:Int))) :
  Calls prog (π.ix 51 50) #[J #[v,I O (p:Nat),I O (q:Nat),nv],J #[I O bY,I O (al:Nat),I O (narrow:Nat),I O (ai:Nat),U th],σ (π.ix 133 128) dv] w fun r w'=>∃g h,r=υ (J #[Z (Y ⟨g,0,M⟩) (p+1) (p+1),Z (Y ⟨h,0,M⟩) q q])/\w'.heap[g]?=Y (L (eH (cE (Dm π) ⟨al,narrow,ai⟩ t).1).toArray 76)/\w'.heap[h]?=Y (L (cF (cE (Dm π) ⟨al,narrow,ai⟩ t).2).toArray 3)/\w.heap.size<=g/\w.heap.size<=h/\ω w w':=by
 cases δ
 all_goals
  try dsimp only [ar.ix,ar.kd]at *
  obtain⟨T,hT⟩:∃T:eQ,T=ot (Dm π) ⟨al,narrow,ai⟩ t (0,0):=⟨_,rfl⟩;have HLP:Hid (cL (Dm π) ⟨al,narrow,ai⟩ T t (0,0)):=by rw[hT];exact eN (Dm π) ⟨al,narrow,ai⟩ _ t (0,0) TU (fun p s _ _=>rfl)
  obtain⟨n,hn⟩:∃n,n=p+1:=⟨_,rfl⟩;have hmS:=Dl (π:=π) n (by omega);have hmI:=wA q (by omega);obtain⟨fc0,hfc0⟩:∃x,x=(π.cO (List.replicate n M)).toArray:=⟨_,rfl⟩;obtain⟨sc0,hsc0⟩:∃x,x=(cF (List.replicate q 0)).toArray:=⟨_,rfl⟩;rw[<-hfc0]at hmS;rw[<-hsc0]at hmI;have VK:IntKind.i64.wrap ((p:Nat)+1:Int)=((n:Nat):Int):=by rw[IntKind.wrap_i64];omega
  have HNP:=hid hn;obtain⟨va,vn,vc,rfl⟩:=hv;obtain⟨na,nn,nc,rfl⟩:=NQ;obtain⟨pa,hpa⟩:∃pa,pa=#[Value.slice va vn vc,I O (p:Nat),I O (q:Nat),Z na nn nc]:=⟨_,rfl⟩;obtain⟨ca,NT⟩:∃ca,ca=#[Value.int O bY,I O (al:Nat),I O (narrow:Nat),I O (ai:Nat),U th]:=⟨_,rfl⟩;have H0:Hid (xW w pa ca (((w.alloc (L #[Z va vn vc,I O (p:Nat),I O (q:Nat),Z na nn nc] 86)).alloc (L #[I O bY,I O (al:Nat),I O (narrow:Nat),I O (ai:Nat),U th] 58)).alloc (L #[Z M 0 0,Z M 0 0] 64))):=by obtain⟨k0,k1,k2,kb⟩:=cH (w:=w) (o1:=L #[Z va vn vc,I O (p:Nat),I O (q:Nat),Z na nn nc] 86) (o2:=L #[I O bY,I O (al:Nat),I O (narrow:Nat),I O (ai:Nat),U th] 58) (o3:=L #[Z M 0 0,Z M 0 0] 64) (Below.refl _ _);rw[hpa,NT];exact⟨k0,k1,k2,kb⟩
  have hp0:pa[0]?=Y (Z va vn vc):=by rw[hpa];rfl
  have rY:pa[1]?=Y (I O (p:Nat)):=by rw[hpa];rfl
  have sk:pa[2]?=Y (I O (q:Nat)):=by rw[hpa];rfl
  have NU:ca[0]?=Y (I O bY):=by rw[NT];rfl
  have D5:ca[1]?=Y (I O (al:Nat)):=by rw[NT];rfl
  have so:ca[2]?=Y (I O (narrow:Nat)):=by rw[NT];rfl
  have Bz:ca[3]?=Y (I O (ai:Nat)):=by rw[NT];rfl
  have uH:ca[4]?=Y (U th):=by rw[NT];rfl
  have YN:=hid hfc0;have HSC:=hid hsc0;have HN:=hid hN;have mH:=hid hB;have HSO:=hid DU;clear hT hfc0 hsc0 hpa NT hN hB DU hn;try dsimp only [ar.ix,ar.kd]
  first | go_enter func51,ntmps51 | go_enter func50,ntmps50
  go_wp2_with fail;generalize ((w.alloc (L #[Z va vn vc,I O (p:Nat),I O (q:Nat),Z na nn nc] 86)).alloc (L #[I O bY,I O (al:Nat),I O (narrow:Nat),I O (ai:Nat),U th] 58)).alloc (L #[Z M 0 0,Z M 0 0] 64)=W0 at *
  go_cut [7] from 9 to 21 (fun v7 wc=>∃kw m fb gf gs:Nat,v7=ρ (Y ⟨kw,0,M⟩)/\PK w π T dv bY al narrow ai th n q kw m fb gf gs (List.replicate n M,List.replicate q 0) wc/\xW w pa ca wc)
  case first =>
   have H1:xW w pa ca W0.drew:=H0.call (Below.refl _ _).drew;refine wp_region_held_drew (S:=fun w':Wd=>xW w pa ca w') (by kernel_rfl) H1 (fun aa=>?_);clear H0 H1;generalize W0.drew=Wd at *;refine tq 0 (σ (π.ix 133 128) dv) aa ?_;refine tk 1 (J #[I O bY,I O (al:Nat),I O (narrow:Nat),I O (ai:Nat),U th]) rfl (fun w' h=>by(have d0:=cell_of h.c 0 NU);(have d1:=cell_of h.c 1 D5);(have d2:=cell_of h.c 2 so);(have d3:=cell_of h.c 3 Bz);have d4:=cell_of h.c 4 uH;go_simp) aa ?_;refine tq 3 (ρ (Y ⟨w.heap.size,1,M⟩)) aa ?_;refine tk 4 (I O (p:Nat)) rfl (fun w' h=>by have d:=cell_of h.p 1 rY;go_simp) aa ?_;refine tq 5 (I O (n:Nat)) aa ?_;refine tq 7 (ρ (Y ⟨w.heap.size,2,M⟩)) aa ?_;refine tk 8 (I O (q:Nat)) rfl (fun w' h=>by have d:=cell_of h.p 2 sk;go_simp) aa ?_;have ξ:Aw π w pa ca fc0 sc0 n q M M M M M Wd:=⟨aa,fun _ h=>(by cases h),fun _ h=>(by cases h),fun _ h=>(by cases h),fun _ _ _ h=>(by cases h),fun _ h=>(by cases h)⟩;generalize Wd=W at *;refine rd4 2 6 9 13 (fun K hK=>?_) (fun K hK=>?_) (fun K hK=>?_) (fun K hK=>?_)
   all_goals
    repeat'
     simp only[bp,fB];go_simp
     first
      | (change K _ (W.alloc (.map #[] 0));replace ξ:=ξ.am;clear aa;refine hK.out _ _ ξ.s (fun aa=>?_);clear hK K;generalize W.heap.size=m at *;generalize W.alloc (.map #[] 0)=W at *)
      | (replace ξ:=ξ.af;clear aa;refine hK.out _ _ ξ.s (fun aa=>?_);clear hK K;generalize W.heap.size=gf at *;generalize W.alloc (L fc0 (π.ix 220 203))=W at *)
      | (replace ξ:=ξ.ag;clear aa;refine hK.out _ _ ξ.s (fun aa=>?_);clear hK K;generalize W.heap.size=gs at *;generalize W.alloc (L sc0 3)=W at *)
      | (replace ξ:=ξ.ab;clear aa;refine hK.out _ _ ξ.s (fun aa=>?_);clear hK K;generalize W.heap.size=fb at *;generalize W.alloc (Zw π n q gf gs)=W at *)
      | (replace ξ:=ξ.ak;clear aa;refine hK.out _ _ ξ.s (fun aa=>?_);clear hK K;generalize W.heap.size=kw at *;generalize W.alloc (L ju (π.ix 217 200))=W at *)
     try (refine mB 10 rfl (j6 (by rfl) rfl (by kernel_rfl) (bFd (π:=π) n q gf gs)) aa ?_ (hr:=by decide +kernel))
     try (refine mB 12 rfl (j6 (by rfl) rfl (by kernel_rfl) (bWk (π:=π) dv bY al narrow ai th m fb)) aa ?_ (hr:=by decide +kernel))
     first
      | refine Vp 6 9 13 (fun K hK=>?_) (fun K hK=>?_) (fun K hK=>?_) (hr:=by decide +kernel)
      | refine Vp 2 9 13 (fun K hK=>?_) (fun K hK=>?_) (fun K hK=>?_) (hr:=by decide +kernel)
      | refine Vp 2 6 13 (fun K hK=>?_) (fun K hK=>?_) (fun K hK=>?_) (hr:=by decide +kernel)
      | refine Vp 2 6 9 (fun K hK=>?_) (fun K hK=>?_) (fun K hK=>?_) (hr:=by decide +kernel)
      | refine Vp 2 11 13 (fun K hK=>?_) (fun K hK=>?_) (fun K hK=>?_) (hr:=by decide +kernel)
      | refine xX 2 6 (fun K hK=>?_) (fun K hK=>?_) (hr:=by decide +kernel)
      | refine xX 2 9 (fun K hK=>?_) (fun K hK=>?_) (hr:=by decide +kernel)
      | refine xX 2 13 (fun K hK=>?_) (fun K hK=>?_) (hr:=by decide +kernel)
      | refine xX 6 9 (fun K hK=>?_) (fun K hK=>?_) (hr:=by decide +kernel)
      | refine xX 6 13 (fun K hK=>?_) (fun K hK=>?_) (hr:=by decide +kernel)
      | refine xX 9 13 (fun K hK=>?_) (fun K hK=>?_) (hr:=by decide +kernel)
      | refine xX 2 11 (fun K hK=>?_) (fun K hK=>?_) (hr:=by decide +kernel)
      | refine xX 11 13 (fun K hK=>?_) (fun K hK=>?_) (hr:=by decide +kernel)
      | refine bD 2 (fun K hK=>?_) (hr:=by decide +kernel)
      | refine bD 6 (fun K hK=>?_) (hr:=by decide +kernel)
      | refine bD 9 (fun K hK=>?_) (hr:=by decide +kernel)
      | refine bD 13 (fun K hK=>?_) (hr:=by decide +kernel)
      | refine bD 11 (fun K hK=>?_) (hr:=by decide +kernel)
      | refine Shut.out ?_
   all_goals
    unfold Shut;refine bD 14 fun K hK=>?_
    simp only[bp,fB];rw[if_pos (by rfl)];have aS:=PK.fin (T:=T) (bY:=bY) (al:=al) (narrow:=narrow) (ai:=ai) (th:=th) HN.out ⟨(ξ.xk kw rfl).1,(ξ.xf gf rfl).1,(ξ.xg gs rfl).1,(ξ.xm m rfl).1,(ξ.xb fb gf gs rfl rfl rfl).1⟩ (ξ.xm m rfl).2 (by rw[<-YN.out];exact(ξ.xf gf rfl).2) (by rw[<-HSC.out];exact(ξ.xg gs rfl).2) (ξ.xb fb gf gs rfl rfl rfl).2 (ξ.xk kw rfl).2 ξ.s;refine wp_store_mid _ _ _ rfl _ _ (π.yi dv bY al narrow ai th m (Y ⟨fb,0,M⟩)) rfl rfl (by rw[show(π.yi dv bY al narrow ai th m (Y ⟨fb,0,M⟩)).size=8 from rfl];exact bM (ξ.xk kw rfl).2) (by rw[AB (π:=π)];rfl) (π.Pa _ _ _ _ _ _ _ _) ?_;refine hK.out _ _ aS.2 (fun _=>?_);clear hK K;refine wpAnyH_done (by kernel_rfl) ?_ _;go_wp2_with fail;go_meet
    case rel=>exact⟨_,_,_,_,_,rfl,aS⟩
  case rest =>
   obtain⟨kw,m,fb,gf,gs,rfl,⟨hl,RA,hA⟩,hS⟩:=hcut;have ef:(π.wk (x8 w dv bY al narrow ai th n q m fb gf gs) true).size=8:=rfl;have uB:(π.wk (x8 w dv bY al narrow ai th n q m fb gf gs) true)[7]?=Y (ρ (Y ⟨fb,0,M⟩)):=rfl;have Ox:Sp.cB t (0,0)=((p:Int),(q:Int)):=mH.cb;have XF:=fY t (0,0) TU;rw[Ox]at XF;have hpe:p=Sp.pB t:=by injection XF with h1 h2;simp at h1;omega
   have hqe:q=Sp.qB t:=by injection XF with h1 h2;simp at h2;omega
   have KI:=HNP.out;obtain⟨F0,hF0⟩:∃F0:Fd,F0=(List.replicate n M,List.replicate q 0):=⟨_,rfl⟩;have l1:F0.1.length=n:=by rw[hF0];simp
   have l2:F0.2.length=q:=by rw[hF0];simp
   rw[<-hF0]at hA;obtain⟨RR,hRR⟩:∃RR:List bV × ST,RR=Sp.cD (Dm π) ⟨al,narrow,ai⟩ t (0,0) (Y fun _=>π.gz 0):=⟨_,rfl⟩;have TK:cV true F0 RR.1:=fun _ ev hev=>by
    rw[hRR]at hev;have:=jy (D:=Dm π) ⟨al,narrow,ai⟩ t (0,0) TU _ ev hev;cases ev with
    | ay a s=>obtain⟨e1,e2⟩:=this;simp at e1 e2;exact⟨e1,by rw[l1];omega⟩
    | site a s=>obtain⟨e1,e2⟩:=this;simp at e1 e2;exact⟨e1,by rw[l2];omega⟩
   have W8:∀k:Fin 8,π.Wv ((fun _=>π.gz 0:Fin 8->Sp.Iv) k):=fun _=>(Kr π).wnum 0 ⟨by omega,by omega⟩
   have Kp:Sp.Wf (Kr π) RR.2:=by rw[hRR];exact fX (K:=Kr π) _ t mH.ok _ _ (Sp.Wf.some W8)
   have Ke:Hid (cE (Dm π) ⟨al,narrow,ai⟩ t=told π true (told π true F0 RR.1) (tL π (p:Nat) RR.2)):=by unfold Hid cE;rw[Ox,<-aF,hF0,hRR];show Sp.tell (Dm π) (List.replicate (((p:Nat):Int)+1).toNat M,List.replicate (((q:Nat):Int)).toNat 0) _=_;rw[show(((p:Nat):Int)+1).toNat=n by omega,show(((q:Nat):Int)).toNat=q by omega];rfl
   have hM:qQ w pa ca (x8 w dv bY al narrow ai th n q m fb gf gs) π T kw F0 wc:=⟨hA,RA,hS⟩;obtain⟨ua,hua⟩:∃ua,ua=π.aI RR.2:=⟨_,rfl⟩;have lD:ua.size=17:=by rw[hua];exact π.aD _
   have BY:ua.all (·.oneCell')=true:=by rw[hua];exact π.aV _
   obtain⟨xa,nJ⟩:∃xa,xa=π.aI (Y fun _=>π.gz 0):=⟨_,rfl⟩;have hBA:=mH.calls (x8 w dv bY al narrow ai th n q m fb gf gs) π T true wc (fun k h1 h2 h3=>by rw[hS.b.block k (by omega)];exact HSO.out k h1 h2 h3) Iq qO hun HLP.out;have yP:Hid (∀W,au (x8 w dv bY al narrow ai th n q m fb gf gs) wc W->qQ w pa ca (x8 w dv bY al narrow ai th n q m fb gf gs) π T kw F0 W->Calls prog (π.ix 82 78) #[J (π.wk (x8 w dv bY al narrow ai th n q m fb gf gs) true),Z va vn vc,J xa] W fun r w'=>r=υ (J ua)/\qQ w pa ca (x8 w dv bY al narrow ai th n q m fb gf gs) π T kw (told π true F0 RR.1) w'/\au (x8 w dv bY al narrow ai th n q m fb gf gs) W w'):=fun W hk hW=>by
    have h1:Calls prog (π.ix 82 78) #[J (π.wk (x8 w dv bY al narrow ai th n q m fb gf gs) true),Z va vn vc,J (π.aI (Y fun _=>π.gz 0))] W (fE (x8 w dv bY al narrow ai th n q m fb gf gs) π T F0 true W RR.1 RR.2):=by rw[hRR]at TK ⊢;exact hBA F0 W (Y fun _=>π.gz 0) hk hW.a (Sp.Wf.some W8) TK
    unfold fE at h1;rw[<-hua,<-nJ]at h1;exact h1.mono fun r w' k=>⟨k.1,hW.bF rfl ⟨hl.2.1,hl.2.2.1,hl.2.2.2⟩ k.2.1 k.2.2,k.2.2⟩
   have ZR:Hid (∀W,qQ w pa ca (x8 w dv bY al narrow ai th n q m fb gf gs) π T kw F0 W->Calls prog (π.ix 324 301) #[dv,I ψ 0] W fun e w'=>e=υ (J #[I π.kd (π.gz 0).a,I π.kd (π.gz 0).b])/\ω W w'):=fun W hW=>Hx hW.a.does 0 (by omega) (by omega)
   have QW:Hid (∀W,Calls prog (π.ix 83 79) #[J #[I π.kd (π.gz 0).a,I π.kd (π.gz 0).b]] W fun e w'=>e=υ (J xa)/\ω W w'):=fun W=>by rw[nJ];exact qA (π.gz 0) W
   have Ts:Hid (∀W,qQ w pa ca (x8 w dv bY al narrow ai th n q m fb gf gs) π T kw (told π true F0 RR.1) W->Calls prog (π.ix 84 80) #[J (π.wk (x8 w dv bY al narrow ai th n q m fb gf gs) true),I O (p:Nat),J ua] W fun r w'=>r=υ (φ #[])/\qQ w pa ca (x8 w dv bY al narrow ai th n q m fb gf gs) π T kw (told π true (told π true F0 RR.1) (tL π (p:Nat) RR.2)) w'/\au (x8 w dv bY al narrow ai th n q m fb gf gs) W w'):=fun W hW=>by have h1:=nE (x8 w dv bY al narrow ai th n q m fb gf gs) π T (told π true F0 RR.1) true W hW.a (p:Nat) RR.2 Kp (fun _=>⟨by omega,by rw[(iY π true F0 RR.1).1,l1];omega⟩);rw[<-hua]at h1;exact h1.mono fun r w' k=>⟨k.1,hW.bF rfl ⟨hl.2.1,hl.2.2.1,hl.2.2.2⟩ k.2.1 k.2.2,k.2.2⟩
   obtain⟨F2,hF2⟩:∃F2,F2=told π true (told π true F0 RR.1) (tL π (p:Nat) RR.2):=⟨_,rfl⟩;rw[<-hF2]at Ts Ke;have l3:F2.1.length=n:=by rw[hF2,(iY ..).1,(iY ..).1,l1]
   have l4:F2.2.length=q:=by rw[hF2,(iY ..).2,(iY ..).2,l2]
   have HFS:Hid (∀W,qQ w pa ca (x8 w dv bY al narrow ai th n q m fb gf gs) π T kw F2 W->Calls prog (π.ix 85 81) #[σ (π.ix 133 128) dv,Z (Y ⟨gf,0,M⟩) n n] W fun r w'=>r=υ (Z (Y ⟨W.heap.size,0,M⟩) n n)/\w'.heap[W.heap.size]?=Y (L (eH F2.1).toArray 76)/\ω W w'):=fun W hW=>by have h1:=CU (B:=w.heap.size) (π:=π) dv gf n F2.1 W hW.a.does hW.a.BK hW.a.wfF (by omega);rw[l3]at h1;exact h1
   have HM:=hid hM;have hwm:∀w,(method 587 (π.ix 133 128) dv "Number").run prog w=.ok ((π.ix 324 301),dv) w:=fun w=>by kernel_rfl
   have Uc:=hid l3;have HL4:=hid l4;have HL:=hid hl;clear hF2 l1 l2 l3 l4 hF0 hRR TK W8 Kp hM hA RA hS hBA hua nJ Ox XF hpe hqe KI hl mH HSO HLP HN hmS hmI YN HSC VK;obtain⟨wa,uT⟩:∃wa,wa=π.wk (x8 w dv bY al narrow ai th n q m fb gf gs) true:=⟨_,rfl⟩;rw[<-uT]at ef uB yP Ts;have hMO:∀F W,qQ w pa ca (x8 w dv bY al narrow ai th n q m fb gf gs) π T kw F W->W.heap[kw]?=Y (L wa (π.ix 217 200)):=fun F W hW=>by rw[uT];exact hW.o
   have ZL:=hid hMO;clear uT hMO;generalize hCC:x8 w dv bY al narrow ai th n q m fb gf gs=C at *;have UN:=hid hCC;clear hCC;go_wp2_with fail
   go_cut [8] from 22 to 28 (fun v8 wd=>∃k8:Nat,v8=ρ (Y ⟨k8,0,M⟩)/\Hid (qQ w pa ca C π T kw (told π true F0 RR.1) wd/\wd.heap[k8]?=Y (L ua (π.ix 220 203))/\k8≠C.gf/\k8≠C.gs/\k8≠C.m))
   case first =>
    have M0:qQ w pa ca C π T kw F0 wc.drew:=HM.call (Below.refl _ _).drew;have K0:au C wc wc.drew:=au.aB (Below.refl _ _).drew HM.a.le;refine wp_region_held_drew (S:=fun w':Wd=>∃F',qQ w pa ca C π T kw F' w') (by kernel_rfl) ⟨_,M0⟩ (fun aa=>?_);generalize wc.drew=V0 at *;refine mB 0 rfl (π.qq rfl _ rfl _ _ rfl (wa) (fun w' h=>(h.elim fun F h=>aP (ZL.out F _ h))) ef) aa ?_;refine tq 1 (ρ (Y ⟨w.heap.size,0,M⟩)) aa ?_;refine tk 2 (Z va vn vc) rfl (fun w' h=>by obtain⟨_,h⟩:=h;have d:=cell_of h.s.p 0 hp0;go_simp) aa ?_;refine tq 3 (σ (π.ix 133 128) dv) aa ?_;refine xX 4 7 ?_ ?_
    ·intro K hK
     simp only[bp,fB];go_simp;refine(ZR.out _ M0).mono ?_;rintro r V1⟨rfl,b1⟩;go_wp2_with fail;have M1:=M0.call b1;have K1:=K0.trans (au.aB b1 M0.a.le);refine hK.out _ _ ⟨_,M1⟩ (fun aa=>?_);clear hK K b1;refine xX 5 7 ?_ ?_
     ·intro K hK
      simp only[bp];go_simp;refine(QW.out _).mono ?_;rintro r V2⟨rfl,b2⟩;go_wp2_with fail;have M2:=M1.call b2;have K2:=K1.trans (au.aB b2 M1.a.le);refine hK.out _ _ ⟨_,M2⟩ (fun aa=>?_);clear hK K b2;refine xX 6 7 ?_ ?_
      ·intro K hK
       simp only[bp];go_simp;refine(yP.out _ K2 M2).mono ?_;rintro r V3⟨rfl,M3,b3⟩;go_wp2_with fail;have K3:=K2.trans b3;refine hK.out _ _ ⟨_,M3⟩ (fun aa=>?_);clear hK K b3;refine bD 7 ?_
       ·intro K hK
        simp only[bp];have uR:=heap_alloc_new V3 (L π.zS (π.ix 220 203));have M4:=M3.call (below_alloc1 V3 (L π.zS (π.ix 220 203)));have K4:=K3.trans (au.aB (below_alloc1 V3 (L π.zS (π.ix 220 203))) M3.a.le);have Ut:wc.heap.size<=V3.heap.size:=K3.below.size;go_simp;refine hK.out _ _ ⟨_,M4⟩ (fun aa=>?_);clear hK K;generalize V3.alloc (L π.zS (π.ix 220 203))=V4 at *;generalize V3.heap.size=a4 at *;refine bD 8 fun K hK=>?_
        simp only[bp];rw[if_pos (by rfl)];refine lk (π:=π) _ _ rfl rfl rfl (bM uR) lD BY ?_;have cR:=HM.a.lt;have dF:a4≠C.gf/\a4≠C.gs/\a4≠C.m:=⟨by omega,by omega,by omega⟩;have aS:qQ w pa ca C π T kw (told π true F0 RR.1) (V4.setCells a4 0 ua.toList):=M4.put HM.out Ut ua.toList;refine hK.out _ _ ⟨_,aS⟩ (fun _=>?_);clear hK K;refine wpAnyH_done (by kernel_rfl) ?_ _;go_wp2_with fail;go_meet
        case rel=>exact⟨_,rfl,aS,ao uR (by rw[lD];rfl),dF⟩
      ·intro K hK
       simp only[bp];have BR:=heap_alloc_new V2 (L π.zS (π.ix 220 203));have M5:=M2.call (below_alloc1 V2 (L π.zS (π.ix 220 203)));have K5:=K2.trans (au.aB (below_alloc1 V2 (L π.zS (π.ix 220 203))) M2.a.le);have zY:wc.heap.size<=V2.heap.size:=K2.below.size;go_simp;refine hK.out _ _ ⟨_,M5⟩ (fun aa=>?_);clear hK K;generalize V2.alloc (L π.zS (π.ix 220 203))=V5 at *;generalize V2.heap.size=a5 at *;refine bD 6 ?_
       ·intro K hK
        simp only[bp];go_simp;refine(yP.out _ K5 M5).mono ?_;rintro r V6⟨rfl,M6,b6⟩;go_wp2_with fail;have K6:=K5.trans b6;have OE:=b6.aU HM.a zY BR;refine hK.out _ _ ⟨_,M6⟩ (fun aa=>?_);clear hK K b6;refine bD 8 fun K hK=>?_
        simp only[bp];rw[if_pos (by rfl)];refine lk (π:=π) _ _ rfl rfl rfl (bM OE) lD BY ?_;have cR:=HM.a.lt;have dF:a5≠C.gf/\a5≠C.gs/\a5≠C.m:=⟨by omega,by omega,by omega⟩;have aS:qQ w pa ca C π T kw (told π true F0 RR.1) (V6.setCells a5 0 ua.toList):=M6.put HM.out zY ua.toList;refine hK.out _ _ ⟨_,aS⟩ (fun _=>?_);clear hK K;refine wpAnyH_done (by kernel_rfl) ?_ _;go_wp2_with fail;go_meet
        case rel=>exact⟨_,rfl,aS,ao OE (by rw[lD];rfl),dF⟩
     ·intro K hK
      simp only[bp];have Ie:=heap_alloc_new V1 (L π.zS (π.ix 220 203));have M7:=M1.call (below_alloc1 V1 (L π.zS (π.ix 220 203)));have K7:=K1.trans (au.aB (below_alloc1 V1 (L π.zS (π.ix 220 203))) M1.a.le);have Iu:wc.heap.size<=V1.heap.size:=K1.below.size;go_simp;refine hK.out _ _ ⟨_,M7⟩ (fun aa=>?_);clear hK K;generalize V1.alloc (L π.zS (π.ix 220 203))=V7 at *;generalize V1.heap.size=a7 at *;refine bD 5 ?_
      ·intro K hK
       simp only[bp];go_simp;refine(QW.out _).mono ?_;rintro r V8⟨rfl,b8⟩;go_wp2_with fail;have M8:=M7.call b8;have K8:=K7.trans (au.aB b8 M7.a.le);have XU:=(b8.block _ (ad Ie)).trans Ie;refine hK.out _ _ ⟨_,M8⟩ (fun aa=>?_);clear hK K b8;refine bD 6 ?_
       ·intro K hK
        simp only[bp];go_simp;refine(yP.out _ K8 M8).mono ?_;rintro r V9⟨rfl,M9,b9⟩;go_wp2_with fail;have K9:=K8.trans b9;have hz9:=b9.aU HM.a Iu XU;refine hK.out _ _ ⟨_,M9⟩ (fun aa=>?_);clear hK K b9;refine bD 8 fun K hK=>?_
        simp only[bp];rw[if_pos (by rfl)];refine lk (π:=π) _ _ rfl rfl rfl (bM hz9) lD BY ?_;have cR:=HM.a.lt;have dF:a7≠C.gf/\a7≠C.gs/\a7≠C.m:=⟨by omega,by omega,by omega⟩;have aS:qQ w pa ca C π T kw (told π true F0 RR.1) (V9.setCells a7 0 ua.toList):=M9.put HM.out Iu ua.toList;refine hK.out _ _ ⟨_,aS⟩ (fun _=>?_);clear hK K;refine wpAnyH_done (by kernel_rfl) ?_ _;go_wp2_with fail;go_meet
        case rel=>exact⟨_,rfl,aS,ao hz9 (by rw[lD];rfl),dF⟩
    ·intro K hK
     simp only[bp,fB];have VP:=heap_alloc_new V0 (L π.zS (π.ix 220 203));have Rz:=M0.call (below_alloc1 V0 (L π.zS (π.ix 220 203)));have K10:=K0.trans (au.aB (below_alloc1 V0 (L π.zS (π.ix 220 203))) M0.a.le);have Xu:wc.heap.size<=V0.heap.size:=K0.below.size;go_simp;refine hK.out _ _ ⟨_,Rz⟩ (fun aa=>?_);clear hK K;generalize V0.alloc (L π.zS (π.ix 220 203))=V10 at *;generalize V0.heap.size=Oy at *;refine bD 4 ?_
     ·intro K hK
      simp only[bp];go_simp;refine(ZR.out _ Rz).mono ?_;rintro r V11⟨rfl,YW⟩;go_wp2_with fail;have Re:=Rz.call YW;have K11:=K10.trans (au.aB YW Rz.a.le);have Wc:=(YW.block _ (ad VP)).trans VP;refine hK.out _ _ ⟨_,Re⟩ (fun aa=>?_);clear hK K YW;refine bD 5 ?_
      ·intro K hK
       simp only[bp];go_simp;refine(QW.out _).mono ?_;rintro r V12⟨rfl,X1⟩;go_wp2_with fail;have VX:=Re.call X1;have K12:=K11.trans (au.aB X1 Re.a.le);have ZB:=(X1.block _ (ad Wc)).trans Wc;refine hK.out _ _ ⟨_,VX⟩ (fun aa=>?_);clear hK K X1;refine bD 6 ?_
       ·intro K hK
        simp only[bp];go_simp;refine(yP.out _ K12 VX).mono ?_;rintro r V13⟨rfl,M13,b13⟩;go_wp2_with fail;have K13:=K12.trans b13;have VL:=b13.aU HM.a Xu ZB;refine hK.out _ _ ⟨_,M13⟩ (fun aa=>?_);clear hK K b13;refine bD 8 fun K hK=>?_
        simp only[bp];rw[if_pos (by rfl)];refine lk (π:=π) _ _ rfl rfl rfl (bM VL) lD BY ?_;have cR:=HM.a.lt;have dF:Oy≠C.gf/\Oy≠C.gs/\Oy≠C.m:=⟨by omega,by omega,by omega⟩;have aS:qQ w pa ca C π T kw (told π true F0 RR.1) (V13.setCells Oy 0 ua.toList):=M13.put HM.out Xu ua.toList;refine hK.out _ _ ⟨_,aS⟩ (fun _=>?_);clear hK K;refine wpAnyH_done (by kernel_rfl) ?_ _;go_wp2_with fail;go_meet
        case rel=>exact⟨_,rfl,aS,ao VL (by rw[lD];rfl),dF⟩
   case rest =>
    obtain⟨k8,rfl,hr⟩:=hcut;have M0:qQ w pa ca C π T kw (told π true F0 RR.1) wc.drew:=hr.1.call (Below.refl _ _).drew;have Z0:wc.drew.heap[k8]?=Y (L ua (π.ix 220 203)):=hr.2.1;have dF:=hr.2.2;have HM0:=hid M0;go_wp2_with fail;refine wp_region_held_drew (S:=fun w':Wd=>(∃F',qQ w pa ca C π T kw F' w')/\w'.heap[k8]?=Y (L ua (π.ix 220 203))) (by kernel_rfl) ⟨⟨_,M0⟩,Z0⟩ (fun aa=>?_);clear M0 Z0 yP ZR QW;refine mB 0 rfl (π.qq rfl _ rfl _ _ rfl (wa) (fun w' h=>(h.1.elim fun F h=>aP (ZL.out F _ h))) ef) aa ?_;refine mB 4 rfl (π.mv rfl _ rfl _ _ rfl (ua) (fun w' h=>aP h.2) lD) aa ?_;refine tq 1 (ρ (Y ⟨w.heap.size,1,M⟩)) aa ?_;refine tk 2 (I O (p:Nat)) rfl (fun w' h=>by obtain⟨⟨_,h⟩,_⟩:=h;have d:=cell_of h.s.p 1 rY;go_simp) aa ?_;refine bD 3 fun K hK=>?_
    simp only[bp,fB];go_simp;refine(fA _ _).mono ?_;rintro r w1⟨rfl,rfl⟩;go_wp2_with fail;refine hK.out _ _ aa (fun aa=>?_);clear hK K;refine bD 5 fun K hK=>?_
    simp only[bp];go_simp;refine(Ts.out _ HM0.out).mono ?_;rintro r w2⟨rfl,M2,b2⟩;go_wp2_with fail;refine hK.out _ _ ⟨⟨_,M2⟩,(b2.others _ (ad aa.2) dF.1 dF.2.1 dF.2.2).trans aa.2⟩ (fun _=>?_);clear hK K aa b2;refine wpAnyH_done (by kernel_rfl) ?_ _;have Ya:=hid M2;clear M2 hr dF HM0 Ts;go_wp2_with fail;have M3:qQ w pa ca C π T kw F2 w2.drew:=Ya.call (Below.refl _ _).drew;have eC:=UN.out;have BX:∀W,qQ w pa ca C π T kw F2 W->W.heap[fb]?=Y (L #[Z (Y ⟨gf,0,M⟩) n n,Z (Y ⟨gs,0,M⟩) q q] (π.ix 215 198)):=fun W hW=>by have:=hW.a.BX;rw[<-eC]at this;rw[Uc.out,HL4.out]at this;exact this
    have HFB:=hid BX;have vo:∀W,qQ w pa ca C π T kw F2 W->W.heap[gs]?=Y (L (cF F2.2).toArray 3):=fun W hW=>by have:=hW.a.vo;rw[<-eC]at this;exact this
    have HGS:=hid vo;clear BX vo eC;have TR:=hid M3;have tz:w2.drew.heap[w.heap.size+1+1]?=Y (L #[Z M 0 0,Z M 0 0] 64):=M3.s.z;refine wp_region_held_drew (S:=fun w':Wd=>(w'.heap[kw]?=Y (L wa (π.ix 217 200))/\w'.heap[fb]?=Y (L #[Z (Y ⟨gf,0,M⟩) n n,Z (Y ⟨gs,0,M⟩) q q] (π.ix 215 198)))/\∃c:Array Value,c.size=2/\w'.heap[w.heap.size+1+1]?=Y (L c 64)) (by kernel_rfl) ⟨⟨ZL.out _ _ M3,HFB.out _ M3⟩,_,rfl,tz⟩ (fun aa=>?_);clear M3;refine tq 0 (σ (π.ix 133 128) dv) aa ?_;refine tq 1 (ρ (Y ⟨kw,7,M⟩)) aa ?_;refine tk 2 (ρ (Y ⟨fb,0,M⟩)) rfl (fun w' h=>by have d:=cell_of h.1.1 7 uB;go_simp) aa ?_;refine tq 3 (ρ (Y ⟨fb,0,M⟩)) aa ?_;refine tq 4 (ρ (Y ⟨fb,0,M⟩)) aa ?_;refine tk 5 (Z (Y ⟨gf,0,M⟩) n n) rfl (fun w' h=>by have d:=cell_of h.1.2 0 (v:=Z (Y ⟨gf,0,M⟩) n n) rfl;go_simp) aa ?_;refine tq 7 (ρ (Y ⟨kw,7,M⟩)) aa ?_;refine tk 8 (ρ (Y ⟨fb,0,M⟩)) rfl (fun w' h=>by have d:=cell_of h.1.1 7 uB;go_simp) aa ?_;refine tq 9 (ρ (Y ⟨fb,0,M⟩)) aa ?_;refine tq 10 (ρ (Y ⟨fb,1,M⟩)) aa ?_;refine tk 11 (Z (Y ⟨gs,0,M⟩) q q) rfl (fun w' h=>by have d:=cell_of h.1.2 1 (v:=Z (Y ⟨gs,0,M⟩) q q) rfl;go_simp) aa ?_;refine bD 6 fun K hK=>?_
    simp only[bp,fB];go_simp;refine(HFS.out _ TR.out).mono ?_;rintro r w4⟨rfl,Ub,b4⟩;go_wp2_with fail;have uR:=(b4.block _ (ad tz)).trans tz;have Rm:(w4.heap[kw]?=Y (L wa (π.ix 217 200))/\w4.heap[fb]?=Y (L #[Z (Y ⟨gf,0,M⟩) n n,Z (Y ⟨gs,0,M⟩) q q] (π.ix 215 198))):=⟨(b4.block _ (ad aa.1.1)).trans aa.1.1,(b4.block _ (ad aa.1.2)).trans aa.1.2⟩;refine hK.out _ _ ⟨Rm,_,rfl,uR⟩ (fun aa=>?_);clear hK K;refine mB 12 (v:=J #[Z (Y ⟨w2.drew.heap.size,0,M⟩) n n,Z (Y ⟨gs,0,M⟩) q q]) rfl (j6 (by rfl) rfl (vals:=#[(0,Z (Y ⟨w2.drew.heap.size,0,M⟩) n n),(1,Z (Y ⟨gs,0,M⟩) q q)]) (by kernel_rfl) (ME _ _ ⟨_,_,_,rfl⟩ ⟨_,_,_,rfl⟩)) aa ?_;have BF:=TR.s.lt;have Xl:=(b4.block _ (ad (HGS.out _ TR.out))).trans (HGS.out _ TR.out);have hll:=HL.out;have hkf:kw≠w.heap.size+1+1:=by omega
    have hfz:fb≠w.heap.size+1+1:=fun e=>by
     have h1:=Rm.2;rw[e,uR]at h1;injection h1 with h1
     injection h1 with _ h1 _
     exact absurd h1 (Nat.ne_of_beq_eq_false rfl)
    have iz:=ao uR (d:=#[Z (Y ⟨w2.drew.heap.size,0,M⟩) n n,Z (Y ⟨gs,0,M⟩) q q]) rfl;refine bD 13 fun K hK=>?_
    simp only[bp,fB];rw[if_pos (by rfl)];refine wp_store_mid _ _ _ rfl _ _ #[Z (Y ⟨w2.drew.heap.size,0,M⟩) n n,Z (Y ⟨gs,0,M⟩) q q] rfl rfl (show w4.there (w.heap.size+1+1) 0 2 from bM uR) (by rw[My];rfl) (by simp[Value.oneCell']) ?_;refine hK.out _ _ ⟨⟨(aj _ _ _ _ hkf).trans Rm.1,(aj _ _ _ _ hfz).trans Rm.2⟩,_,rfl,iz⟩ (fun _=>?_);clear hK K;refine wpAnyH_done (by kernel_rfl) ?_ _;have hBf:ω w (w4.setCells (w.heap.size+1+1) 0 (#[Value.slice (Y ⟨w2.drew.heap.size,0,M⟩) n n,Z (Y ⟨gs,0,M⟩) q q]:Array Value).toList):=aq (b:=w.heap.size+1+1) (by omega) _ _ _ _ (TR.s.b.trans (b4.mono TR.s.b.size));have Yu:=hid iz;have Wo:=hid hBf;have HG4:Hid (_=_):=(aj (b:=w.heap.size+1+1) (#[Value.slice (Y ⟨w2.drew.heap.size,0,M⟩) n n,Z (Y ⟨gs,0,M⟩) q q]:Array Value).toList 0 w4 w2.drew.heap.size (by omega)).trans Ub;have HS4:Hid (_=_):=(aj (b:=w.heap.size+1+1) (#[Value.slice (Y ⟨w2.drew.heap.size,0,M⟩) n n,Z (Y ⟨gs,0,M⟩) q q]:Array Value).toList 0 w4 gs (by omega)).trans Xl;have hlg:w.heap.size<=w2.drew.heap.size:=TR.s.b.size;have hlh:w.heap.size<=gs:=by omega
    clear iz hBf Ub Xl b4 aa Rm uR tz;go_wp2_with fail;refine bodyPost_ret (Ew rfl _ _ rfl Yu.out rfl) rfl ⟨w2.drew.heap.size,gs,?_,?_,?_,hlg,hlh,Wo.out⟩
    ·rw[HNP.out]
    ·rw[Ke.out];exact HG4.out
    ·rw[Ke.out];exact HS4.out
end W
end Go.Proofs.YtiopfihjmkfdmaaGreatDoor
