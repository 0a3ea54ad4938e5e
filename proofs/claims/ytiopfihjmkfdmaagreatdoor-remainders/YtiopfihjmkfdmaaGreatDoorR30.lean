import Derived.Test.YtiopfihjmkfdmaaGreatDoorR12
import Derived.Test.YtiopfihjmkfdmaaGreatDoorR26
import Derived.Deep.CutRange
namespace Go.Proofs.YtiopfihjmkfdmaaGreatDoor
open Option renaming some→Y,none→M
open Go.Obj renaming cells→L
open Go.Value renaming agg→J,bool→U,int→I,pointer→ρ,iface→σ,slice→Z,tuple→φ
open Go.IntKind renaming i64→O
open Go.Ending renaming returned→υ
open Go.Proofs.Tryz Sp
open Go.RowKit
set_option maxRecDepth 100000
set_option maxHeartbeats 16000000
section
namespace W
variable {δ : Bool}{π : ar δ}
section
variable{C:Cx}
variable{T:eQ}
variable{F F0:Fd}
variable{w W W':Wd}
variable{wa xa ja xj:Array Value}
structure iI(C:Cx)(π:ar δ)(T:eQ)(F:Fd)(w:Wd)(wa xa:Array Value)(W:Wd):Prop where
 a:aK C π T F W
 k:au C w W
 o:W.heap[w.heap.size]?=Y (L wa (π.ix 217 200))
 x:W.heap[w.heap.size+1]?=Y (L xa (π.ix 220 203))
 z:W.heap[w.heap.size+1+1]?=Y (L π.zS (π.ix 220 203))
theorem iI.bF{π:ar δ}(h0:aK C π T F0 w)(h:iI C π T F w wa xa W)(ha:aK C π T F W')(hk:au C W W'):iI C π T F w wa xa W' :=
 ⟨ha,h.k.trans hk,hk.aU h0 (Nat.le_refl _) h.o,hk.aU h0 (by omega) h.x,hk.aU h0 (by omega) h.z⟩
theorem iI.call{π:ar δ}(h:iI C π T F w wa xa W)(k:ω W W'):iI C π T F w wa xa W' :=
 ⟨h.a.call k,h.k.trans (au.aB k h.a.le),(k.block _ (ad h.o)).trans h.o,(k.block _ (ad h.x)).trans h.x,(k.block _ (ad h.z)).trans h.z⟩
theorem iI.put{π:ar δ}(h0:aK C π T F0 w)(h:iI C π T F w wa xa W){p:Nat}(hp:w.heap.size+1+1<p)(d:Array Value):iI C π T F w wa xa (W.setCells p 0 d.toList):=by have hb:Below w.heap.size W (W.setCells p 0 d.toList):=aq (b:=p) (by omega) d.toList 0 W _ (Below.refl _ _);exact⟨h0.upon h.a hb,au.upon h0 h.k hb,(aj _ _ _ _ (by omega)).trans h.o,(aj _ _ _ _ (by omega)).trans h.x,(aj _ _ _ _ (by omega)).trans h.z⟩
theorem iI.Vg{π:ar δ}(h0:aK C π T F0 w)(h:iI C π T F w wa xa W)(d:Array Value)(h1:xa.size=17)(h2:d.size=17):iI C π T F w wa d (W.setCells (w.heap.size+1) 0 d.toList):=by have hb:Below w.heap.size W (W.setCells (w.heap.size+1) 0 d.toList):=aq (b:=w.heap.size+1) (by omega) d.toList 0 W _ (Below.refl _ _);exact⟨h0.upon h.a hb,au.upon h0 h.k hb,(aj _ _ _ _ (by omega)).trans h.o,ao h.x (by rw[h1,h2]),(aj _ _ _ _ (by omega)).trans h.z⟩
theorem MM(x y:Operand)(ja xj:Array Value)(w:Wd):(eqGuard .eql (π.ix 220 203) x y (J ja) (J xj)).run prog w=.ok () w:=by
 have h0:prog.eqGuardType prog.depth (π.ix 220 203)=false:=by cases δ<;>kernel_rfl
 unfold eqGuard;simp[h0,go_sem]
theorem EE{ops:Array Oper}{rest:List Oper}{op:Oper}{a:Act}{Q:Exit->Act->Wd->Prop}(qM:op.guard=M)(x y:Operand)(ho:op.op=.binOp .eql (π.ix 220 203) x y (π.ix 220 203))(hx:a.eval x=J ja)(hy:a.eval y=J xj){r:Bool}(heq:(Op.equal (π.ix 220 203) (J ja) (J xj)).run prog w=.ok r w)
  (k:wpList prog ops Q rest (a.put op.dst (U r)) w):wpList prog ops Q (op :: rest) a w :=
 wpList_plain qM fun _ hK=>by unfold Oper.wp execOp;simp only[ho,hx,hy,binOp,Sem.run_bind,Sem.run_pure,Result.andThen_ok,MM,heq];exact hK _ _ k
theorem E7(π:ar δ):(Dm π).fuel<=100000000:=Nat.le_of_ble_eq_true rfl
theorem yr(C:Cx)(π:ar δ)(T:eQ)(F:Fd)(b:Bool)(w:Wd)(s:ST)(hs:Sp.Wf (Kr π) s)(h:aK C π T F w)(c1 c2 c3 c4:Value)(next:ST->ST)(XL:∀i,Sp.Wf (Kr π) i->Sp.Wf (Kr π) (next i))(h0:s=M->next M=M)
  (hN:∀W i,au C w W->aK C π T F W->Sp.Wf (Kr π) i->Calls prog (π.ix 245 242) #[J (π.aI i),c1,c2,c3,c4] W fun e w'=>e=υ (J (π.aI (next i)))/\aK C π T F w'/\au C W w') :
  Calls prog (π.ix 246 243) #[J (π.wk C b),J (π.aI s),.func (.func (π.ix 245 242)) #[] #[c1,c2,c3,c4]] w fun e w'=>e=υ (J (π.aI (Sp.fixF (Dm π) next C.al (Dm π).fuel 1 s)))/\aK C π T F w'/\au C w w':=by
 cases δ
 all_goals
  try dsimp only [ar.ix,ar.kd]at *
  have ef:=π.cy C b;have jR:=π.jM C b;have OG:(π.wk C b)[2]?=Y (I O (C.al:Nat)):=rfl;obtain⟨ο,hU⟩:∃ο,Sp.fixF (Dm π) next C.al (Dm π).fuel 1 s=ο:=⟨_,rfl⟩;rw[hU];have T0:Hid (pH (Kr π) next C.al ο 1 (Dm π).fuel s):=pH.start hU hs h0;have HN:=hid hN;have HNW:=hid XL;have HJ:Hid (∀W s t u,aK C π T F W->Sp.jn (Dm π) s t=u->Sp.Wf (Kr π) s->Sp.Wf (Kr π) t->Calls _ _ _ W _):=fun W s t u hW e1 e2 e3=>o0 C.dv C.bY C.al C.narrow C.ai C.th C.m (if b then Y ⟨C.fb,0,M⟩ else M) s t u W hW.does e1 e2 e3
  have hfs:=E7 π;generalize uT:π.wk C b=wa at *;have HWA:=hid uT;obtain⟨xa,nJ⟩:∃xa,xa=π.aI s:=⟨_,rfl⟩;rw[<-nJ];have H0:Hid (iI C π T F w wa xa (((w.alloc (L wa (π.ix 217 200))).alloc (L xa (π.ix 220 203))).alloc (L π.zS (π.ix 220 203)))):=by obtain⟨k0,k1,k2,kb⟩:=cH (w:=w) (o1:=L wa (π.ix 217 200)) (o2:=L xa (π.ix 220 203)) (o3:=L π.zS (π.ix 220 203)) (Below.refl _ _);exact⟨h.call kb,au.aB kb h.le,k0,k1,k2⟩
  have HA:=hid h;have OB:=hid nJ;clear h hN XL h0 uT nJ hU hs;try dsimp only [ar.ix,ar.kd]
  first | go_enter func246,ntmps246 | go_enter func243,ntmps243
  go_wp2_with fail;generalize ((w.alloc (L wa (π.ix 217 200))).alloc (L xa (π.ix 220 203))).alloc (L π.zS (π.ix 220 203))=W0 at *
  go_loopw [7] (fun v7 wr=>∃(k f:Nat) (sj:ST) (xj:Array Value),v7=I O k/\Hid (iI C π T F w wa xj wr)/\Hid (pH (Kr π) next C.al ο k f sj)/\Hid (xj=π.aI sj)) (fun v7 _=>(Dm π).fuel+1 - (intOf v7).toNat)
  case atStart=>exact⟨1,(Dm π).fuel,s,xa,rfl,H0,T0,OB⟩
  case round =>
   obtain⟨k,f,sj,xj,rfl,hq,ht,hx⟩:=hrel;clear H0 T0;have fu:xj.size=17:=by rw[hx.out];exact π.aD sj
   have x1:xj.all (·.oneCell')=true:=by rw[hx.out];exact π.aV sj
   obtain⟨nx,eO⟩:∃nx,nx=π.aI (next sj):=⟨_,rfl⟩;obtain⟨ja,hja⟩:∃ja,ja=π.aI (Sp.jn (Dm π) sj (next sj)):=⟨_,rfl⟩;have BD:ja.size=17:=by rw[hja];exact π.aD _
   have j1:ja.all (·.oneCell')=true:=by rw[hja];exact π.aV _
   have YY:=hid hja;have wj:=ht.wf;have wn:=HNW.out _ wj;have J1:Hid (∀W,iI C π T F w wa xj W->Calls prog (π.ix 245 242) #[J xj,c1,c2,c3,c4] W fun e w'=>e=υ (J nx)/\iI C π T F w wa xj w'/\au C W w'):=fun W hW=>by have:=HN.out W sj hW.k hW.a wj;rw[<-hx.out,<-eO]at this;exact this.mono fun e w' q=>⟨q.1,hW.bF HA.out q.2.1 q.2.2,q.2.2⟩
   have Ys:Hid (∀W,iI C π T F w wa xj W->Calls prog (π.ix 116 113) #[J wa,J xj,J nx] W fun e w'=>e=υ (J ja)/\iI C π T F w wa xj w'/\au C W w'):=fun W hW=>by have:=HJ.out W sj (next sj) _ hW.a rfl wj wn;rw[<-hx.out,<-eO,<-hja]at this;have h2:Calls prog (π.ix 116 113) #[J (π.wk C b),J xj,J nx] W _:=this;rw[HWA.out]at h2;exact h2.mono fun e w' q=>⟨q.1,hW.call q.2,au.aB q.2 hW.a.le⟩
   clear hja eO HJ HN;go_wp2_with fail
   go_cut [8] from 9 (fun v8 wc=>∃p:Nat,v8=ρ (Y ⟨p,0,M⟩)/\Hid (w.heap.size+1+1<p/\iI C π T F w wa xj wc/\wc.heap[p]?=Y (L ja (π.ix 220 203))))
   case first =>
    have H1:Hid (iI C π T F w wa xj wr.drew):=hq.call (Below.refl _ _).drew;refine wp_region_held_drew (S:=fun w':Wd=>iI C π T F w wa xj w') (by kernel_rfl) H1.out (fun aa=>?_);refine mB 0 rfl (π.qq rfl _ rfl _ _ rfl (wa) (fun w' h=>aP h.o) ef) aa ?_;refine mB 1 rfl (π.mv rfl _ rfl _ _ rfl (xj) (fun w' h=>aP h.x) fu) aa ?_;refine mB 3 rfl (π.mv rfl _ rfl _ _ rfl (xj) (fun w' h=>aP h.x) fu) aa ?_;refine tq 2 (.func (.func (π.ix 245 242)) #[] #[c1,c2,c3,c4]) aa ?_;refine xX 4 6 ?_ ?_
    ·intro K hK
     simp only[bp,fB];go_simp;refine(J1.out _ aa).mono ?_;rintro e w1⟨rfl,a1,b1⟩;go_wp2_with fail;refine hK.out _ _ a1 (fun aa=>?_);clear hK K b1 a1;refine xX 5 6 ?_ ?_
     ·intro K hK
      simp only[bp];go_simp;refine(Ys.out _ aa).mono ?_;rintro e w2⟨rfl,a2,b2⟩;go_wp2_with fail;refine hK.out _ _ a2 (fun aa=>?_);clear hK K b2 a2;refine bD 6 fun K hK=>?_
      simp only[bp];have hp:w.heap.size+1+1<w2.heap.size:=ad aa.z;have kb:=below_alloc1 w2 (L π.zS (π.ix 220 203));have hz:=heap_alloc_new w2 (L π.zS (π.ix 220 203));have hh:=aa.call kb;go_simp;refine hK.out _ _ hh (fun aa=>?_);clear hK K hh;refine bD 7 fun K hK=>?_
      rw[if_pos (by rfl)];refine wp_store_mid _ _ _ rfl _ _ ja rfl rfl (by rw[BD];exact bM hz) (by rw[eh (π:=π),BD]) j1 ?_;refine hK.out _ _ (aa.put HA.out hp ja) (fun _=>?_);clear hK K;refine wpAnyH_done (by kernel_rfl) ?_ _;go_wp2_with fail;go_meet
      case rel=>exact⟨_,rfl,hp,aa.put HA.out hp ja,ao hz (by rw[BD];rfl)⟩
     ·intro K hK
      simp only[bp];have hp:w.heap.size+1+1<w1.heap.size:=ad aa.z;have kb:=below_alloc1 w1 (L π.zS (π.ix 220 203));have hz:=heap_alloc_new w1 (L π.zS (π.ix 220 203));have hh:=aa.call kb;clear kb;go_simp;refine hK.out _ _ hh (fun aa=>?_);clear hK K hh;refine bD 5 fun K hK=>?_
      simp only[bp];go_simp;refine(Ys.out _ aa).mono ?_;rintro e w2⟨rfl,hh,b2⟩;have hz:=b2.aU HA.out (by omega) hz;clear b2;go_wp2_with fail;refine hK.out _ _ hh (fun aa=>?_);clear hK K hh;refine bD 7 fun K hK=>?_
      rw[if_pos (by rfl)];refine wp_store_mid _ _ _ rfl _ _ ja rfl rfl (by rw[BD];exact bM hz) (by rw[eh (π:=π),BD]) j1 ?_;refine hK.out _ _ (aa.put HA.out hp ja) (fun _=>?_);clear hK K;refine wpAnyH_done (by kernel_rfl) ?_ _;go_wp2_with fail;go_meet
      case rel=>exact⟨_,rfl,hp,aa.put HA.out hp ja,ao hz (by rw[BD];rfl)⟩
    ·intro K hK
     simp only[bp,fB];have hp:w.heap.size+1+1<wr.drew.heap.size:=ad aa.z;have kb:=below_alloc1 wr.drew (L π.zS (π.ix 220 203));have hz:=heap_alloc_new wr.drew (L π.zS (π.ix 220 203));have hh:=aa.call kb;clear kb;go_simp;refine hK.out _ _ hh (fun aa=>?_);clear hK K hh;refine bD 4 fun K hK=>?_
     simp only[bp];go_simp;refine(J1.out _ aa).mono ?_;rintro e w1⟨rfl,hh,b1⟩;have hz:=b1.aU HA.out (by omega) hz;clear b1;go_wp2_with fail;refine hK.out _ _ hh (fun aa=>?_);clear hK K hh;refine bD 5 fun K hK=>?_
     simp only[bp];go_simp;refine(Ys.out _ aa).mono ?_;rintro e w2⟨rfl,hh,b2⟩;have hz:=b2.aU HA.out (by omega) hz;clear b2;go_wp2_with fail;refine hK.out _ _ hh (fun aa=>?_);clear hK K hh;refine bD 7 fun K hK=>?_
     rw[if_pos (by rfl)];refine wp_store_mid _ _ _ rfl _ _ ja rfl rfl (by rw[BD];exact bM hz) (by rw[eh (π:=π),BD]) j1 ?_;refine hK.out _ _ (aa.put HA.out hp ja) (fun _=>?_);clear hK K;refine wpAnyH_done (by kernel_rfl) ?_ _;go_wp2_with fail;go_meet
     case rel=>exact⟨_,rfl,hp,aa.put HA.out hp ja,ao hz (by rw[BD];rfl)⟩
   case rest =>
    obtain⟨p,rfl,hp⟩:=hcut;have HP:=hid hp.2.2;have HX:Hid (_=_):=hp.2.1.x;have HZ:=hid hp.2.1.z;have HL:=hid hp.1;clear J1 Ys;cases Qy:FQ (Dm π) (Sp.jn (Dm π) sj (next sj)) sj with
    | true =>
     have heq:Hid (∀w,(Op.equal (π.ix 220 203) (J ja) (J xj)).run prog w=.ok true w):=fun w=>by have:=QM (π:=π) (lA wj wn) wj w;rw[Qy,<-YY.out,<-hx.out]at this;exact this
     have hE:Hid (sj=ο):=ht.end Qy;have iz:Hid (_=_):=ao hp.2.1.z (d:=xj) (by rw[fu];rfl);have fF:Hid (Below w.heap.size wc _):=aq (b:=w.heap.size+1+1) (by omega) xj.toList 0 wc _ (Below.refl _ _);go_wp2_with (first
      | (refine bu (π:=π) rfl _ rfl rfl HP.out BD ?_)
      | (refine bu (π:=π) rfl _ rfl rfl HX.out fu ?_)
      | (refine EE (π:=π) rfl _ _ rfl rfl rfl (heq.out _) ?_)
      | (refine bT (π:=π) rfl _ _ rfl rfl rfl HZ.out rfl fu x1 ?_))
     refine bodyPost_ret (aM rfl _ _ rfl iz.out fu) rfl ?_;rw[<-hE.out,<-hx.out];exact⟨rfl,HA.upon hp.2.1.a fF.out,au.upon HA.out hp.2.1.k fF.out⟩
    | false =>
     have heq:Hid (∀w,(Op.equal (π.ix 220 203) (J ja) (J xj)).run prog w=.ok false w):=fun w=>by have:=QM (π:=π) (lA wj wn) wj w;rw[Qy,<-YY.out,<-hx.out]at this;exact this
     obtain⟨e,n,f',hse,pE,RC,W8,hff,BG⟩:=ht.on HNW.out Qy;have Gz:=hid BG;have hkf:k<=(Dm π).fuel:=by have:=ht.sum;omega
     have d2:=cell_of hp.2.1.o 2 OG;clear Qy BG;by_cases hdk:C.al<k
     ·have hdi:((C.al:Nat):Int)<((k:Nat):Int):=by omega
      obtain⟨va,hva⟩:∃va,va=π.aI (oZ (Dm π) next C.al k sj):=⟨_,rfl⟩;have jC:va.size=17:=by rw[hva];exact π.aD _
      have v1:va.all (·.oneCell')=true:=by rw[hva];exact π.aV _
      have HW:Hid (∀W,iI C π T F w wa xj W->Calls prog (π.ix 162 157) #[J xj,J ja,.func (Fn.method "Widen") #[σ (π.ix 133 128) C.dv] #[]] W fun r w'=>r=υ (J va)/\ω W w'):=fun W hW=>by
       have:=CA C.dv e n W hW.a.does pE W8;have e1:nT (Dm π) (Dm π).widen (Y e) (Y n)=oZ (Dm π) next C.al k sj:=by unfold oZ;rw[if_pos hdk,RC,hse]
       have e2:ja=π.aI (Y n):=YY.trans (congrArg π.aI RC);have e3:xj=π.aI (Y e):=hx.trans (congrArg π.aI hse);rw[e1,<-hva,<-e2,<-e3]at this;exact this
      have Qw:=hid hva;clear hva;go_wp2_with (first
       | (refine bu (π:=π) rfl _ rfl rfl HP.out BD ?_)
       | (refine bu (π:=π) rfl _ rfl rfl HX.out fu ?_)
       | (refine EE (π:=π) rfl _ _ rfl rfl rfl (heq.out _) ?_))
      go_cut [8] from 9 (fun v8 wd=>v8=ρ (Y ⟨p,0,M⟩)/\Hid (iI C π T F w wa xj wd/\wd.heap[p]?=Y (L va (π.ix 220 203))))
      case first =>
       have H1:Hid (iI C π T F w wa xj wc.drew):=hp.2.1.call (Below.refl _ _).drew;refine wp_region_held_drew (S:=fun w':Wd=>iI C π T F w wa xj w'/\∃c:Array Value,c.size=17/\w'.heap[p]?=Y (L c (π.ix 220 203))) (by kernel_rfl) ⟨H1.out,ja,BD,HP.out⟩ (fun aa=>?_);refine mB 0 rfl (π.mv rfl _ rfl _ _ rfl (xj) (fun w' h=>aP h.1.x) fu) aa ?_;refine tq 2 (ρ (Y ⟨w.heap.size,0,M⟩)) aa ?_;refine tk 3 (σ (π.ix 133 128) C.dv) rfl (fun w' h=>by have d0:=cell_of h.1.o 0 jR;go_simp) aa ?_;refine tq 4 (σ (π.ix 133 128) C.dv) aa ?_;refine tq 5 (.func (Fn.method "Widen") #[σ (π.ix 133 128) C.dv] #[]) aa ?_;refine bD 1 fun K hK=>?_
       simp only[bp,fB];rw[if_pos (by rfl)];refine wX (π:=π) _ rfl rfl (aP HP.out) BD ?_;simp only[Act.put];refine hK.out _ _ aa (fun aa=>?_);clear hK K;refine bD 6 fun K hK=>?_
       simp only[bp,fB];go_simp;refine(HW.out _ aa.1).mono ?_;rintro r w1⟨rfl,b1⟩;go_wp2_with fail;have hz:w1.heap[p]?=Y (L ja (π.ix 220 203)):=(b1.block _ (ad HP.out)).trans HP.out;have hh:=aa.1.call b1;refine hK.out _ _ ⟨hh,ja,BD,hz⟩ (fun _=>?_);clear hK K b1 aa;refine bD 7 fun K hK=>?_
       rw[if_pos (by rfl)];refine wp_store_mid _ _ _ rfl _ _ va rfl rfl (by rw[jC,<-BD];exact bM hz) (by rw[eh (π:=π),jC]) v1 ?_;have gU:=ao hz (d:=va) (by rw[jC,BD]);have z7:=hh.put HA.out HL.out va;refine hK.out _ _ ⟨z7,va,jC,gU⟩ (fun _=>?_);clear hK K;refine wpAnyH_done (by kernel_rfl) ?_ _;go_wp2_with fail;go_meet
       case rel=>exact⟨rfl,z7,gU⟩
      case rest =>
       obtain⟨rfl,hr⟩:=hcut;have HP2:=hid hr.2;have Kf:=hid hr.1.x;have HQ:Hid (iI C π T F w wa va (wc.setCells (w.heap.size+1) 0 va.toList)):=hr.1.Vg HA.out va fu jC;go_wp2_with (first
        | (refine bu (π:=π) rfl _ rfl rfl HP2.out jC ?_)
        | (refine bT (π:=π) rfl _ _ rfl rfl rfl Kf.out fu jC v1 ?_))
       exact⟨⟨k+1,f',_,va,by go_num,HQ,Gz,Qw⟩,by simp[intOf];omega⟩
     ·have hdi:¬ ((C.al:Nat):Int)<((k:Nat):Int):=by omega
      have Xi:Hid (ja=π.aI (oZ (Dm π) next C.al k sj)):=by unfold Hid oZ;rw[if_neg hdk];exact YY.out
      have HQ:Hid (iI C π T F w wa ja (wc.setCells (w.heap.size+1) 0 ja.toList)):=hp.2.1.Vg HA.out ja fu BD;go_wp2_with (first
       | (refine bu (π:=π) rfl _ rfl rfl HP.out BD ?_)
       | (refine bu (π:=π) rfl _ rfl rfl HX.out fu ?_)
       | (refine EE (π:=π) rfl _ _ rfl rfl rfl (heq.out _) ?_)
       | (refine bT (π:=π) rfl _ _ rfl rfl rfl HX.out fu BD j1 ?_))
      exact⟨⟨k+1,f',_,ja,by go_num,HQ,Gz,Xi⟩,by simp[intOf];omega⟩
end
end W
end
section
namespace W
variable {δ : Bool}{π : ar δ}
section
variable{w W W':Wd}
variable{b kq p:Nat}
variable{c d wa ic sa wq:Array Value}
variable{T:eQ}
variable{F F0:Fd}
theorem R0{ops:Array Oper}{rest:List Oper}{op:Oper}{a:Act}{Q:Exit->Act->Wd->Prop}(qM:op.guard=M)(x y:Operand)(ho:op.op=.store (π.ix 217 200) x y)(hx:a.eval x=ρ (Y ⟨b,0,M⟩))(hy:a.eval y=J d)(h:Bk w b c (π.ix 217 200))(hc:c.size=8)(hd:d.size=8)(h1:d.all (·.oneCell')=true)
  (k:wpList prog ops Q rest (a.put op.dst undef) (w.setCells b 0 d.toList)):wpList prog ops Q (op :: rest) a w :=
 wpList_plain qM fun _ hK=>wp_store_mid (π.ix 217 200) x y ho b 0 d hx hy (by rw[hd,<-hc];exact bM h) (by rw[AB (π:=π),hd]) h1 (hK _ _ k)
theorem ar.RH(π:ar δ)(C:Cx)(b:Bool):(π.wk C b).all (·.oneCell')=true:=by unfold ar.wk ar.yi;simp[Value.oneCell']
theorem Hu(w:Wd)(u:Array Value)(h:u.size=17) :
  (w.alloc (L π.zS (π.ix 220 203))).heap[w.heap.size]?=Y (L π.zS (π.ix 220 203)) /\
  ((w.alloc (L π.zS (π.ix 220 203))).setCells w.heap.size 0 u.toList).heap[w.heap.size]?=Y (L u (π.ix 220 203)) /\
  ω w ((w.alloc (L π.zS (π.ix 220 203))).setCells w.heap.size 0 u.toList):=by
 have a1:=heap_alloc_new w (L π.zS (π.ix 220 203));exact⟨a1,ao a1 (by rw[h];rfl),aq (Nat.le_refl _) _ _ _ _ (below_alloc1 w _)⟩
abbrev ju:Array Value:=#[.nilIface,I O 0,I O 0,I O 0,I O 0,U false,.map M,ρ M]
theorem L7(w:Wd)(u:Array Value)(h:u.size=8) :
  (w.alloc (L ju (π.ix 217 200))).heap[w.heap.size]?=Y (L ju (π.ix 217 200)) /\
  ((w.alloc (L ju (π.ix 217 200))).setCells w.heap.size 0 u.toList).heap[w.heap.size]?=Y (L u (π.ix 217 200)) /\
  ω w ((w.alloc (L ju (π.ix 217 200))).setCells w.heap.size 0 u.toList):=by
 have a1:=heap_alloc_new w (L ju (π.ix 217 200));exact⟨a1,ao a1 (by rw[h];rfl),aq (Nat.le_refl _) _ _ _ _ (below_alloc1 w _)⟩
def Fg(C:Cx)(π:ar δ)(T:eQ)(b:Bool)(w:Wd)(v:Value)(body:ST->List bV × ST):Prop :=
 ∀F W s,au C w W->aK C π T F W->Sp.Wf (Kr π) s->cV b F (body s).1->Calls prog (π.ix 82 78) #[J (π.wk C b),v,J (π.aI s)] W (fE C π T F b W (body s).1 (body s).2)
structure lL(C:Cx)(π:ar δ)(T:eQ)(F:Fd)(w:Wd)(wa ic sa wq:Array Value)(kq:Nat)(W:Wd):Prop where
 a:aK C π T F W
 k:au C w W
 c:kJ π wq ic wa sa kq (w.heap.size+1) w.heap.size (w.heap.size+1+1) W
 z:W.heap[w.heap.size+1+1+1]?=Y (L π.zS (π.ix 220 203))
theorem lL.call{C:Cx}{π:ar δ}(h:lL C π T F w wa ic sa wq kq W)(k:ω W W'):lL C π T F w wa ic sa wq kq W' :=
 ⟨h.a.call k,h.k.trans (au.aB k h.a.le),h.c.call k,(k.block _ (ad h.z)).trans h.z⟩
theorem lL.bF{C:Cx}{π:ar δ}(h0:aK C π T F0 w)(hq:w.heap.size<=kq)(h:lL C π T F w wa ic sa wq kq W)(ha:aK C π T F W')(hk:au C W W'):lL C π T F w wa ic sa wq kq W' :=
 ⟨ha,h.k.trans hk,h.c.bF h0 ⟨hq,by omega,Nat.le_refl _,by omega⟩ hk,hk.aU h0 (by omega) h.z⟩
theorem lL.put{C:Cx}{π:ar δ}(h0:aK C π T F0 w)(h:lL C π T F w wa ic sa wq kq W)(hq:w.heap.size+1+1+1<kq)(hp:kq<p)(l:List Value):lL C π T F w wa ic sa wq kq (W.setCells p 0 l):=by have hb:Below w.heap.size W (W.setCells p 0 l):=aq (b:=p) (by omega) l 0 W _ (Below.refl _ _);exact⟨h0.upon h.a hb,au.upon h0 h.k hb,h.c.put (by omega) l,(aj _ _ _ _ (by omega)).trans h.z⟩
theorem Jq(p:Int)(k:Nat)(tl:TypeId)(ul:Value)(tr:TypeId)(ur:Value)(av:Option Addr)(nv cv:Nat)(x y:Sp.Sm)(ct:Sp.Ct)(body:ST->List bV × ST)(C:Cx)(π:ar δ)(T:eQ)(F:Fd)(b:Bool)(w:Wd)(s:ST)(h:aK C π T F w)(hs:Sp.Wf (Kr π) s)
  (NZ:EU π (σ tl ul) (σ tr ur) k x y ct) (yU:fS (Kr π) (Sp.dq (Dm π) k x y ct)) (vq:eV (Kr π) body) (Ir:qC (D:=Dm π) body) (gT:Fg C π T false w (Z av nv cv) body) (xI:C.narrow<=1000) :
  Calls prog (π.ix 229 223) #[J (π.wk C b),J (Br p k tl ul tr ur av nv cv),J (π.aI s)] w fun e w'=>e=υ (J (π.aI (ma (Dm π) C.ib (Sp.dq (Dm π) k x y ct) body s)))/\aK C π T F w'/\au C w w':=by
 cases δ
 all_goals
  try dsimp only [ar.ix,ar.kd]at *
  obtain⟨next,hnext⟩:∃next:ST->ST,next=fun i=>jP (Dm π) (Sp.dq (Dm π) k x y ct) body s i:=⟨_,rfl⟩
  have XL:∀i,Sp.Wf (Kr π) i->Sp.Wf (Kr π) (next i):=fun i hi=>by rw[hnext];exact wU yU vq hs hi
  have Uf:s=M->next M=M:=fun e=>by rw[hnext];exact KT (D:=Dm π) (cond:=Sp.dq (Dm π) k x y ct) (show sP (Sp.dq (Dm π) k x y ct) from rfl) Ir e
  have jo:Hid (∀W kq i,w.heap.size<=kq->kJ π (π.wk C false) (Br p k tl ul tr ur av nv cv) (π.wk C b) (π.aI s) kq (w.heap.size+1) w.heap.size (w.heap.size+1+1) W->au C w W->aK C π T F W->Sp.Wf (Kr π) i ->
    Calls prog (π.ix 245 242) #[J (π.aI i),ρ (Y ⟨kq,0,M⟩),ρ (Y ⟨w.heap.size+1,0,M⟩),ρ (Y ⟨w.heap.size,0,M⟩),ρ (Y ⟨w.heap.size+1+1,0,M⟩)] W fun e w'=>e=υ (J (π.aI (next i)))/\aK C π T F w'/\au C W w'):=fun W kq i hq NT hk ha hi=>by
   have hci:=yU i hi;refine EG p k tl ul tr ur av nv cv C π T F F b w W kq _ _ _ s i h ⟨hq,by omega,Nat.le_refl _,by omega⟩ ha NT (Sp.dq (Dm π) k x y ct i).1 _ _ (Sp.dq (Dm π) k x y ct i).2.2 _ _ (fun W' Z7=>NZ C π T F false W' i Z7 hi (jV _ _)) (fun W' uG J3=>gT F W' _ (hk.trans uG) J3 hci.1 (jV _ _)) hs (vq _ hci.1) ?_;rw[hnext];rfl
  have N0:Hid (rD (Kr π) (Sp.dq (Dm π) k x y ct) body s (ma (Dm π) C.ib (Sp.dq (Dm π) k x y ct) body s) C.narrow (Sp.fixF (Dm π) next C.al (Dm π).fuel 1 s)):=by rw[hnext];exact rD.start (P:=C.ib) yU vq rfl Ir hs
  have NON:Hid (∀n sj,rD (Kr π) (Sp.dq (Dm π) k x y ct) body s (ma (Dm π) C.ib (Sp.dq (Dm π) k x y ct) body s) (n+1) sj->rD (Kr π) (Sp.dq (Dm π) k x y ct) body s (ma (Dm π) C.ib (Sp.dq (Dm π) k x y ct) body s) n (nT (Dm π) (Dm π).narrow sj (next sj))/\(sj=M∨∃e e',sj=Y e/\next sj=Y e'/\(∀k,π.Wv (e k))/\(∀k,π.Wv (e' k)))):=fun n sj h=>by rw[hnext];exact rD.on yU vq hs h
  obtain⟨ο,hU⟩:∃ο,ma (Dm π) C.ib (Sp.dq (Dm π) k x y ct) body s=ο:=⟨_,rfl⟩;rw[hU]at N0 NON ⊢;have HWD:Hid (∀W kq,aK C π T F W->w.heap.size<=kq->kJ π (π.wk C false) (Br p k tl ul tr ur av nv cv) (π.wk C b) (π.aI s) kq (w.heap.size+1) w.heap.size (w.heap.size+1+1) W->au C w W->Calls _ _ _ W _):=fun W kq hW hq NT hk =>
   yr C π T F b W s hs hW (ρ (Y ⟨kq,0,M⟩)) (ρ (Y ⟨w.heap.size+1,0,M⟩)) (ρ (Y ⟨w.heap.size,0,M⟩)) (ρ (Y ⟨w.heap.size+1+1,0,M⟩)) next XL Uf (fun W' i uG J3 hi=>jo.out W' kq i hq (NT.bF h ⟨hq,by omega,Nat.le_refl _,by omega⟩ uG) (hk.trans uG) J3 hi)
  have HQU:Hid (∀W,Calls _ _ _ W _):=fun W=>B9 (π:=π) C b W
  have ef:=π.cy C b;have WD:=π.cy C false;have jR:=π.jM C b;have hw3:(π.wk C b)[3]?=Y (I O (C.narrow:Nat)):=rfl;have hwo:=π.RH C false;have UC:=π.aD s;generalize π.wk C false=wq at *;generalize π.wk C b=wa at *;generalize π.aI s=sa at *;obtain⟨ic,hic⟩:∃ic,ic=Br p k tl ul tr ur av nv cv:=⟨_,rfl⟩;rw[<-hic]at jo HWD ⊢;obtain⟨k0,k1,k2,k3,kb⟩:=bB (w:=w) (o1:=L wa (π.ix 217 200)) (o2:=L ic 293) (o3:=L sa (π.ix 220 203)) (o4:=L π.zS (π.ix 220 203)) (Below.refl _ _);have K0:=hid k0;have K1:=hid k1;have K2:=hid k2;have K3:=hid k3;have HB:=hid kb;have HA:=hid h;clear h hs NZ yU vq Ir gT hnext XL Uf hU k0 k1 k2 k3 kb hic;try dsimp only [ar.ix,ar.kd]
  first | go_enter func229,ntmps229 | go_enter func223,ntmps223
  go_wp2_with (first
   | (refine cj (π:=π) rfl _ rfl rfl K0.out ef ?_))
  refine(HQU.out _).mono ?_;rintro r w1⟨rfl,b1⟩;obtain⟨t1,t2,tb⟩:=L7 (π:=π) w1 wq WD;have dC:w.heap.size+1+1+1<w1.heap.size:=Nat.lt_of_lt_of_le (ad K3.out) b1.size;have Gh:=hid t1;have bb:=fun k (hk:k<w1.heap.size)=>tb.block k hk
  have bw:ω w ((w1.alloc (L ju (π.ix 217 200))).setCells w1.heap.size 0 wq.toList):=(HB.trans (b1.mono HB.size)).trans (tb.mono (by omega));have H2:Hid (lL C π T F w wa ic sa wq w1.heap.size ((w1.alloc (L ju (π.ix 217 200))).setCells w1.heap.size 0 wq.toList)) :=
   ⟨HA.call bw,au.aB bw HA.le,⟨t2,(tb.block _ (by omega)).trans ((b1.block _ (ad K1.out)).trans K1.out),(tb.block _ (by omega)).trans ((b1.block _ (ad K0.out)).trans K0.out),(tb.block _ (by omega)).trans ((b1.block _ (ad K2.out)).trans K2.out)⟩,(tb.block _ (by omega)).trans ((b1.block _ (ad K3.out)).trans K3.out)⟩
  have QA:=hid H2.c.o;have J4:=hid H2.c.s;clear t1 t2 tb bb bw b1;go_wp2_with (first
   | (refine R0 (π:=π) rfl _ _ rfl rfl rfl (by exact Gh.out) rfl WD hwo ?_)
   | (refine cj (π:=π) rfl _ rfl rfl (by exact QA.out) ef ?_)
   | (refine bu (π:=π) rfl _ rfl rfl (by exact J4.out) UC ?_))
  generalize (w1.alloc (L ju (π.ix 217 200))).setCells w1.heap.size 0 wq.toList=w2 at *;refine(HWD.out w2 w1.heap.size H2.a (by omega) H2.c H2.k).mono ?_;obtain⟨s0,QZ⟩:∃s0,Sp.fixF (Dm π) next C.al (Dm π).fuel 1 s=s0:=⟨_,rfl⟩;rw[QZ]at N0 ⊢;obtain⟨x0,uS⟩:∃x0,x0=π.aI s0:=⟨_,rfl⟩;have HX0:=hid uS;have fu:x0.size=17:=by rw[uS];exact π.aD s0
  have x1:x0.all (·.oneCell')=true:=by rw[uS];exact π.aV s0
  rw[<-uS];rintro r w3⟨rfl,a3,b3⟩;obtain⟨t1,t2,tb⟩:=Hu (π:=π) w3 x0 fu;have H3:Hid (lL C π T F w wa ic sa wq w1.heap.size w3):=H2.bF HA.out (by omega) a3 b3;have jA:w1.heap.size<w3.heap.size:=ad H3.c.q;have H4:Hid (lL C π T F w wa ic sa wq w1.heap.size ((w3.alloc (L π.zS (π.ix 220 203))).setCells w3.heap.size 0 x0.toList)/\((w3.alloc (L π.zS (π.ix 220 203))).setCells w3.heap.size 0 x0.toList).heap[w3.heap.size]?=Y (L x0 (π.ix 220 203))):=⟨H3.call tb,t2⟩;have BS:=hid t1;have c3:=cell_of H4.1.c.o 3 hw3;clear t1 t2 tb a3 b3 QZ uS H2 H3 QA J4 Gh HWD HQU;go_wp2_with (first
   | (refine bT (π:=π) rfl _ _ rfl rfl rfl (by exact BS.out) rfl fu x1 ?_))
  generalize (w3.alloc (L π.zS (π.ix 220 203))).setCells w3.heap.size 0 x0.toList=W4 at *;generalize w1.heap.size=kq at *;generalize w3.heap.size=ki at *;clear c3
  go_loopw [20] (fun v20 wr=>∃(j n:Nat) (sj:ST) (xj:Array Value),n+j=C.narrow/\v20=I O j/\Hid (lL C π T F w wa ic sa wq kq wr/\wr.heap[ki]?=Y (L xj (π.ix 220 203)))/\Hid (rD (Kr π) (Sp.dq (Dm π) k x y ct) body s ο n sj)/\Hid (xj=π.aI sj)) (fun v20 _=>C.narrow - (intOf v20).toNat)
  case atStart=>exact⟨0,C.narrow,s0,x0,rfl,rfl,H4,N0,HX0⟩
  case round =>
   obtain⟨j,n,sj,xj,hnj,rfl,hq,Qb,hx⟩:=hrel;clear H4 N0 HX0 BS;have fu:xj.size=17:=by rw[hx.out];exact π.aD sj
   have x1:xj.all (·.oneCell')=true:=by rw[hx.out];exact π.aV sj
   have HX:Hid (_=_):=hq.2;have HZ:=hid hq.1.z;cases n with
   | zero =>
    obtain rfl:j=C.narrow:=by omega
    have hE:Hid (sj=ο):=Qb.eq;have iz:Hid (_=_):=ao hq.1.z (d:=xj) (by rw[fu];rfl);have fF:Hid (Below w.heap.size wr _):=aq (b:=w.heap.size+1+1+1) (by omega) xj.toList 0 wr _ (Below.refl _ _);go_wp2_with (first
     | (refine bu (π:=π) rfl _ rfl rfl HX.out fu ?_)
     | (refine bT (π:=π) rfl _ _ rfl rfl rfl HZ.out rfl fu x1 ?_))
    refine bodyPost_ret (aM rfl _ _ rfl iz.out fu) rfl ?_;rw[<-hE.out,<-hx.out];exact⟨rfl,HA.upon hq.1.a fF.out,au.upon HA.out hq.1.k fF.out⟩
   | succ n =>
    have Gm:((j:Nat):Int)<((C.narrow:Nat):Int):=by omega
    obtain⟨BG,uF⟩:=NON.out n sj Qb.out;obtain⟨nx,eO⟩:∃nx,nx=π.aI (next sj):=⟨_,rfl⟩;obtain⟨va,hva⟩:∃va,va=π.aI (nT (Dm π) (Dm π).narrow sj (next sj)):=⟨_,rfl⟩;have jC:va.size=17:=by rw[hva];exact π.aD _
    have v1:va.all (·.oneCell')=true:=by rw[hva];exact π.aV _
    have J1:Hid (∀W,lL C π T F w wa ic sa wq kq W->Calls prog (π.ix 245 242) #[J xj,ρ (Y ⟨kq,0,M⟩),ρ (Y ⟨w.heap.size+1,0,M⟩),ρ (Y ⟨w.heap.size,0,M⟩),ρ (Y ⟨w.heap.size+1+1,0,M⟩)] W fun e w'=>e=υ (J nx)/\lL C π T F w wa ic sa wq kq w'/\au C W w'):=fun W hW=>by have:=jo.out W kq sj (by omega) hW.c hW.k hW.a Qb.wf;rw[<-hx.out,<-eO]at this;exact this.mono fun e w' q=>⟨q.1,hW.bF HA.out (by omega) q.2.1 q.2.2,q.2.2⟩
    have HW:Hid (∀W,lL C π T F w wa ic sa wq kq W->Calls prog (π.ix 162 157) #[J xj,J nx,.func (Fn.method "Narrow") #[σ (π.ix 133 128) C.dv] #[]] W fun r w'=>r=υ (J va)/\ω W w'):=fun W hW=>by
     rcases uF with e1 | ⟨e,e',e1,e2,w1,w2⟩
     ·have h0:xj[0]?=Y (U false):=by rw[hx.out,e1];rfl
      have:=JY (π:=π) (.func (Fn.method "Narrow") #[σ (π.ix 133 128) C.dv] #[]) xj nx W h0;rw[hva,e1];exact this
     ·have:=Bm C.dv e e' W hW.a.does w1 w2
      rw[hx.out,eO,hva,e1,<-e1,e2,e1];exact this
    have Gz:=hid BG;have Qw:=hid hva;clear BG uF eO hva;go_wp2_with fail;have H1:Hid (lL C π T F w wa ic sa wq kq wr.drew):=hq.1.call (Below.refl _ _).drew;have hd:wr.drew.heap[ki]?=Y (L xj (π.ix 220 203)):=HX.out;refine wp_region_held_drew (S:=fun w':Wd=>lL C π T F w wa ic sa wq kq w'/\∃c:Array Value,c.size=17/\w'.heap[ki]?=Y (L c (π.ix 220 203))) (by kernel_rfl) ⟨H1.out,xj,fu,HX.out⟩ (fun aa=>?_);refine tq 1 (.func (.func (π.ix 245 242)) #[] #[ρ (Y ⟨kq,0,M⟩),ρ (Y ⟨w.heap.size+1,0,M⟩),ρ (Y ⟨w.heap.size,0,M⟩),ρ (Y ⟨w.heap.size+1+1,0,M⟩)]) aa ?_;refine tq 4 (ρ (Y ⟨w.heap.size,0,M⟩)) aa ?_;refine tk 5 (σ (π.ix 133 128) C.dv) rfl (fun w' h=>by have d0:=cell_of h.1.c.o 0 jR;go_simp) aa ?_;refine tq 6 (σ (π.ix 133 128) C.dv) aa ?_;refine tq 7 (.func (Fn.method "Narrow") #[σ (π.ix 133 128) C.dv] #[]) aa ?_;refine xX 0 2 ?_ ?_
    ·intro K hK
     simp only[bp,fB];rw[if_pos (by rfl)];refine wX (π:=π) _ rfl rfl (aP (by exact hd)) fu ?_;simp only[Act.put];refine hK.out _ _ aa (fun aa=>?_);clear hK K;refine bD 2 fun K hK=>?_
     simp only[bp,fB];rw[if_pos (by rfl)];refine wX (π:=π) _ rfl rfl (aP (by exact hd)) fu ?_;simp only[Act.put];refine hK.out _ _ aa (fun aa=>?_);clear hK K;refine bD 3 fun K hK=>?_
     simp only[bp,fB];go_simp;refine(J1.out _ aa.1).mono ?_;rintro r w5⟨rfl,hh,b3⟩;go_wp2_with fail;have KC:w5.heap[ki]?=Y (L xj (π.ix 220 203)):=b3.aU HA.out (by omega) hd;refine hK.out _ _ ⟨hh,xj,fu,KC⟩ (fun aa=>?_);clear hK K b3 hh;refine bD 8 fun K hK=>?_
     simp only[bp];go_simp;refine(HW.out _ aa.1).mono ?_;rintro r w6⟨rfl,b6⟩;go_wp2_with fail;have hz:w6.heap[ki]?=Y (L xj (π.ix 220 203)):=(b6.block _ (ad KC)).trans KC;have hh:=aa.1.call b6;refine hK.out _ _ ⟨hh,xj,fu,hz⟩ (fun _=>?_);clear hK K b6 aa;have gU:=ao hz (d:=va) (by rw[jC,fu]);have z7:=hh.put HA.out dC jA va.toList;have HQ:Hid (lL C π T F w wa ic sa wq kq (w6.setCells ki 0 va.toList)/\(w6.setCells ki 0 va.toList).heap[ki]?=Y (L va (π.ix 220 203))):=⟨z7,gU⟩;refine bD 9 fun K hK=>?_
     rw[if_pos (by rfl)];refine wp_store_mid _ _ _ rfl _ _ va rfl rfl (by rw[jC,<-fu];exact bM hz) (by rw[eh (π:=π),jC]) v1 ?_;refine hK.out _ _ ⟨z7,va,jC,gU⟩ (fun _=>?_);clear hK K hh z7 hz gU;refine wpAnyH_done (by kernel_rfl) ?_ _;go_wp2_with fail;exact⟨⟨j+1,n,_,va,by omega,by go_num,HQ,Gz,Qw⟩,by simp[intOf];omega⟩
    ·intro K hK
     simp only[bp,fB];rw[if_pos (by rfl)];refine wX (π:=π) _ rfl rfl (aP (by exact hd)) fu ?_;simp only[Act.put];refine hK.out _ _ aa (fun aa=>?_);clear hK K;refine xX 0 3 ?_ ?_
     ·intro K hK
      simp only[List.getElem_toArray,List.getElem_cons_zero,List.setIfInBounds_toArray,List.set_cons_succ,List.set_cons_zero];rw[if_pos (by rfl)];refine wX (π:=π) _ rfl rfl (aP (by exact hd)) fu ?_;simp only[Act.put];refine hK.out _ _ aa (fun aa=>?_);clear hK K;refine bD 3 fun K hK=>?_
      simp only[bp,fB];go_simp;refine(J1.out _ aa.1).mono ?_;rintro r w5⟨rfl,hh,b3⟩;go_wp2_with fail;have KC:w5.heap[ki]?=Y (L xj (π.ix 220 203)):=b3.aU HA.out (by omega) hd;refine hK.out _ _ ⟨hh,xj,fu,KC⟩ (fun aa=>?_);clear hK K b3 hh;refine bD 8 fun K hK=>?_
      simp only[bp];go_simp;refine(HW.out _ aa.1).mono ?_;rintro r w6⟨rfl,b6⟩;go_wp2_with fail;have hz:w6.heap[ki]?=Y (L xj (π.ix 220 203)):=(b6.block _ (ad KC)).trans KC;have hh:=aa.1.call b6;refine hK.out _ _ ⟨hh,xj,fu,hz⟩ (fun _=>?_);clear hK K b6 aa;have gU:=ao hz (d:=va) (by rw[jC,fu]);have z7:=hh.put HA.out dC jA va.toList;have HQ:Hid (lL C π T F w wa ic sa wq kq (w6.setCells ki 0 va.toList)/\(w6.setCells ki 0 va.toList).heap[ki]?=Y (L va (π.ix 220 203))):=⟨z7,gU⟩;refine bD 9 fun K hK=>?_
      rw[if_pos (by rfl)];refine wp_store_mid _ _ _ rfl _ _ va rfl rfl (by rw[jC,<-fu];exact bM hz) (by rw[eh (π:=π),jC]) v1 ?_;refine hK.out _ _ ⟨z7,va,jC,gU⟩ (fun _=>?_);clear hK K hh z7 hz gU;refine wpAnyH_done (by kernel_rfl) ?_ _;go_wp2_with fail;exact⟨⟨j+1,n,_,va,by omega,by go_num,HQ,Gz,Qw⟩,by simp[intOf];omega⟩
     ·intro K hK
      simp only[bp,fB];go_simp;refine(J1.out _ aa.1).mono ?_;rintro r w5⟨rfl,hh,b3⟩;go_wp2_with fail;have KC:w5.heap[ki]?=Y (L xj (π.ix 220 203)):=b3.aU HA.out (by omega) hd;refine hK.out _ _ ⟨hh,xj,fu,KC⟩ (fun aa=>?_);clear hK K b3 hh;refine bD 0 fun K hK=>?_
      simp only[List.getElem_toArray,List.getElem_cons_zero];rw[if_pos (by rfl)];refine wX (π:=π) _ rfl rfl (aP (by exact KC)) fu ?_;simp only[Act.put];refine hK.out _ _ aa (fun aa=>?_);clear hK K;refine bD 8 fun K hK=>?_
      simp only[bp];go_simp;refine(HW.out _ aa.1).mono ?_;rintro r w6⟨rfl,b6⟩;go_wp2_with fail;have hz:w6.heap[ki]?=Y (L xj (π.ix 220 203)):=(b6.block _ (ad KC)).trans KC;have hh:=aa.1.call b6;refine hK.out _ _ ⟨hh,xj,fu,hz⟩ (fun _=>?_);clear hK K b6 aa;have gU:=ao hz (d:=va) (by rw[jC,fu]);have z7:=hh.put HA.out dC jA va.toList;have HQ:Hid (lL C π T F w wa ic sa wq kq (w6.setCells ki 0 va.toList)/\(w6.setCells ki 0 va.toList).heap[ki]?=Y (L va (π.ix 220 203))):=⟨z7,gU⟩;refine bD 9 fun K hK=>?_
      rw[if_pos (by rfl)];refine wp_store_mid _ _ _ rfl _ _ va rfl rfl (by rw[jC,<-fu];exact bM hz) (by rw[eh (π:=π),jC]) v1 ?_;refine hK.out _ _ ⟨z7,va,jC,gU⟩ (fun _=>?_);clear hK K hh z7 hz gU;refine wpAnyH_done (by kernel_rfl) ?_ _;go_wp2_with fail;exact⟨⟨j+1,n,_,va,by omega,by go_num,HQ,Gz,Qw⟩,by simp[intOf];omega⟩
end
end W
end
section
namespace W
variable {δ : Bool}{π : ar δ}
abbrev xy:=Int × ((Fin 8->Sp.Iv)->List bV × ST)
def oq:List xy->ST->List bV × ST
 | [],s=>([],s)
 | _ :: _,M=>([],M)
 | (p,G) :: xs,Y e=>(.ay p e :: ((G e).1 ++ (oq xs (G e).2).1),(oq xs (G e).2).2)
theorem zJ:∀xs:List xy,oq xs M=([],M)
 | []=>rfl
 | _ :: _=>rfl
structure Na(C:Cx)(π:ar δ)(T:eQ)(F:Fd)(b:Bool)(w:Wd)(xs:List xy)(s:ST)(wa xa:Array Value)(j:Nat)(sj:ST)(ej:List bV)(W:Wd):Prop where
 eq:oq xs s=(ej ++ (oq (xs.drop j) sj).1,(oq (xs.drop j) sj).2)
 a:aK C π T (told π b F ej) W
 k:au C w W
 o:W.heap[w.heap.size]?=Y (L wa (π.ix 217 200))
 x:W.heap[w.heap.size+1]?=Y (L xa (π.ix 220 203))
 z:W.heap[w.heap.size+1+1]?=Y (L π.zS (π.ix 220 203))
 wf:Sp.Wf (Kr π) sj
 Zh:cV b (told π b F ej) (oq (xs.drop j) sj).1
 h:xa=π.aI sj
theorem De(C:Cx)(π:ar δ)(T:eQ)(F:Fd)(b:Bool)(w:Wd)(g cap:Nat)(xs:List xy)(vs:List Value)(hlen:vs.length=xs.length)(hg:g<C.base)(hmx:(xs.length:Int)<=9223372036854775807)(s:ST)(hs:Sp.Wf (Kr π) s)(h:aK C π T F w)(hr:cV b F (oq xs s).1)
  (z8:∀(i:Nat) (u:Value),vs[i]?=Y u->w.cell? ⟨g,i,M⟩=Y u)
  (he:∀(i:Nat) (u:Value) (p:Int) (G:(Fin 8->Sp.Iv)->List bV × ST),vs[i]?=Y u->xs[i]?=Y (p,G)->∃t y,u=σ t y/\Hd t y p/\(∀e,(∀k,π.Wv (e k))->Sp.Wf (Kr π) (G e).2) /\
    ∀F' W e,au C w W->aK C π T F' W->(∀k,π.Wv (e k))->cV b F' (G e).1->Calls prog (π.ix 115 112) #[J (π.wk C b),u,J (π.aI (Y e))] W (fE C π T F' b W (G e).1 (G e).2)) :
  Calls prog (π.ix 82 78) #[J (π.wk C b),Z (Y ⟨g,0,M⟩) xs.length cap,J (π.aI s)] w (fE C π T F b w (oq xs s).1 (oq xs s).2):=by
 cases δ
 all_goals
  try dsimp only [ar.ix,ar.kd]at *
  have ef:=π.cy C b;have HPt:Hid (∀F' W p e,aK C π T F' W->(∀k,π.Wv (e k))->cV b F' [.ay p e]->Calls _ _ _ W _):=fun F' W p e hW hwv Wb=>DC C π T F' b W hW p e hwv Wb
  have HE:=hid he;generalize uT:π.wk C b=wa at *;have HWA:=hid uT;obtain⟨xa,nJ⟩:∃xa,xa=π.aI s:=⟨_,rfl⟩;rw[<-nJ];have H0:Hid (Na C π T F b w xs s wa xa 0 s [] (((w.alloc (L wa (π.ix 217 200))).alloc (L xa (π.ix 220 203))).alloc (L π.zS (π.ix 220 203)))):=by obtain⟨k0,k1,k2,kb⟩:=cH (w:=w) (o1:=L wa (π.ix 217 200)) (o2:=L xa (π.ix 220 203)) (o3:=L π.zS (π.ix 220 203)) (Below.refl _ _);exact⟨rfl,by rw[dV];exact h.call kb,au.aB kb h.le,k0,k1,k2,hs,by rw[dV];exact hr,nJ⟩
  have HA:=hid h;have VU:=hid z8;have l1:w.heap.size<=w.heap.size+1:=by omega
  have l2:w.heap.size<=w.heap.size+1+1:=by omega
  clear h he z8 uT nJ hr hs;try dsimp only [ar.ix,ar.kd]
  first | go_enter func82,ntmps82 | go_enter func78,ntmps78
  go_wp2_with fail;generalize ((w.alloc (L wa (π.ix 217 200))).alloc (L xa (π.ix 220 203))).alloc (L π.zS (π.ix 220 203))=W0 at *
  go_loopw [8,11] (fun _ i wr=>∃(j:Nat) (sj:ST) (ej:List bV) (xj:Array Value),j<=xs.length/\i=I O j/\Hid (Na C π T F b w xs s wa xj j sj ej wr)) (fun _ i _=>xs.length - (intOf i).toNat)
  case atStart=>exact⟨0,s,[],xa,Nat.zero_le _,rfl,H0.out⟩
  case round =>
   obtain⟨j,sj,ej,xj,hj,rfl,hq⟩:=hrel;clear H0;have fu:xj.size=17:=by rw[hq.h];exact π.aD sj
   have x1:xj.all (·.oneCell')=true:=by rw[hq.h];exact π.aV sj
   have HX:Hid (_=_):=hq.x;have HZ:=hid hq.z;have HO:=hid hq.o;by_cases gu:j<xs.length
   ·obtain⟨v,hv⟩:∃v,vs[j]?=Y v:=⟨_,List.getElem?_eq_getElem (by omega)⟩
    obtain⟨pg,hx⟩:∃x,xs[j]?=Y x:=⟨_,List.getElem?_eq_getElem gu⟩;obtain⟨p,G⟩:=pg;obtain⟨t,y,rfl,hwh,hwG,gI⟩:=HE.out j v p G hv hx;have hcu:wr.cell? ⟨g,j,M⟩=Y (σ t y):=by rw[hq.k.below.cell (p:=⟨g,j,M⟩) hg];exact VU.out j _ hv
    have zZ:xs.drop j=(p,G) :: xs.drop (j+1):=by rw[List.drop_eq_getElem_cons gu,(List.getElem?_eq_some_iff.1 hx).2]
    have Gm:((j:Nat):Int)<((xs.length:Nat):Int):=by omega
    cases sj with
    | none =>
     have E:Hid (oq xs s=(ej,M)):=by have:=hq.eq;rw[zJ]at this;unfold Hid;rw[this];show(ej ++ [],M)=(ej,M);rw[List.append_nil]
     have iz:Hid (_=_):=ao hq.z (d:=xj) (by rw[fu];rfl);have fF:Hid (Below w.heap.size wr _):=aq (b:=w.heap.size+1+1) l2 xj.toList 0 wr _ (Below.refl _ _);have d0:xj[0]?=Y (U false):=by rw[hq.h];rfl
     have c0:=cell_of HX.out 0 d0;clear gI hwh hwG zZ;go_wp2_with (first
      | (refine bu (π:=π) rfl _ rfl rfl HX.out fu ?_)
      | (refine bT (π:=π) rfl _ _ rfl rfl rfl HZ.out rfl fu x1 ?_))
     refine bodyPost_ret (aM rfl _ _ rfl iz.out fu) rfl ?_;rw[E.out];exact⟨by rw[hq.h],HA.upon hq.a fF.out,au.upon HA.out hq.k fF.out⟩
    | some e =>
     have pE:=hq.wf e rfl;have Wb:=hq.Zh;rw[zZ]at Wb;have aaa:cV b (told π b F ej) [.ay p e]:=cV.left (es':=(G e).1 ++ (oq (xs.drop (j+1)) (G e).2).1) Wb;have Xd:cV b (told π b (told π b F ej) [.ay p e]) ((G e).1 ++ (oq (xs.drop (j+1)) (G e).2).1):=cV.right (es:=[.ay p e]) Wb;have d0:xj[0]?=Y (U true):=by rw[hq.h];rfl
     have c0:=cell_of HX.out 0 d0;have HG:=hid gI;have hP:=HPt.out (told π b F ej) wr.drew p e (HA.upon hq.a (Below.refl _ _).drew) pE aaa;rw[<-hq.h]at hP;have H1:Hid (wr.drew.heap[w.heap.size]?=Y (L wa (π.ix 217 200))/\wr.drew.heap[w.heap.size+1]?=Y (L xj (π.ix 220 203))/\wr.drew.heap[w.heap.size+1+1]?=Y (L π.zS (π.ix 220 203))):=⟨HO.out,HX.out,HZ.out⟩;have HP:=hid hP;clear gI hP;have hwm:∀w,(method 587 t y "Where").run prog w=.ok (72,I O p) w:=hwh;have e17:=π.aD (G e).2;have e1o:=π.aV (G e).2;go_wp2_with fail;refine wp_region_held_drew (S:=fun w':Wd=>w'.heap[w.heap.size]?=Y (L wa (π.ix 217 200))/\w'.heap[w.heap.size+1]?=Y (L xj (π.ix 220 203))/\w'.heap[w.heap.size+1+1]?=Y (L π.zS (π.ix 220 203))) (by kernel_rfl) H1.out (fun aa=>?_);refine mB 0 rfl (π.qq rfl _ rfl _ _ rfl (wa) (fun w' h=>aP h.1) ef) aa ?_;refine mB 3 rfl (π.mv rfl _ rfl _ _ rfl (xj) (fun w' h=>aP h.2.1) fu) aa ?_;refine tq 1 (σ t y) aa ?_;refine bD 2 fun K hK=>?_
     simp only[bp,fB];go_simp;refine(fA p _).mono ?_;rintro r w1⟨rfl,rfl⟩;go_wp2_with fail;refine hK.out _ _ aa (fun aa=>?_);clear hK K;refine bD 4 fun K hK=>?_
     simp only[bp];go_simp;refine HP.mono ?_;rintro r w1⟨rfl,a1,b1⟩;have nZ:=hid a1;have mN:Hid (au C w w1):=(au.upon HA.out hq.k (Below.refl _ _).drew).trans b1;have k0:=b1.aU HA.out (Nat.le_refl _) aa.1;have k1:=b1.aU HA.out l1 aa.2.1;have k2:=b1.aU HA.out l2 aa.2.2;have K0:=hid k0;have K1:=hid k1;have K2:=hid k2;have hG:=HG.out _ w1 e mN.out nZ.out pE Xd.left;rw[<-hq.h]at hG;have HGG:=hid hG;have WJ:=Xd.right (π:=π);have XO:=hid hq.eq;have HWG:=hid (hwG e pE);clear hG a1 HG HP HX HZ HO aa;go_wp2_with fail;refine hK.out _ _ ⟨k0,k1,k2⟩ (fun _=>?_);clear hK K k0 k1 k2 b1;refine wpAnyH_done (by kernel_rfl) ?_ _;go_wp2_with (first
      | (refine cj (π:=π) rfl _ rfl rfl K0.out ef ?_)
      | (refine bu (π:=π) rfl _ rfl rfl K1.out fu ?_))
     refine HGG.mono ?_;unfold fE;generalize hue:π.aI (G e).2=ue at *;rintro r w2⟨rfl,a2,b2⟩;have y0:=b2.aU HA.out (Nat.le_refl _) K0.out;have y1:=b2.aU HA.out l1 K1.out;have y2:=b2.aU HA.out l2 K2.out;have Y1:=hid y1;have xK:Hid (Below w.heap.size w2 _):=aq (b:=w.heap.size+1) l1 ue.toList 0 w2 _ (Below.refl _ _);have HQ:Hid (Na C π T F b w xs s wa ue (j+1) (G e).2 (ej ++ [.ay p e] ++ (G e).1) (w2.setCells (w.heap.size+1) 0 ue.toList)):=by
      refine⟨?_,?_,au.upon HA.out (mN.trans b2) xK.out,(aj _ _ _ _ (by omega)).trans y0,ao y1 (by rw[e17,fu]),(aj _ _ _ _ (by omega)).trans y2,HWG.out,?_,hue.symm⟩
      ·rw[XO.out,zZ]
       simp only[oq,List.append_assoc,List.cons_append,List.nil_append]
      ·rw[aF,aF]
       exact HA.upon a2 xK.out
      ·rw[aF,aF]
       exact WJ
     clear y0 y1 y2 a2 b2 HGG WJ XO;go_wp2_with (first
      | (refine bT (π:=π) rfl _ _ rfl rfl rfl Y1.out fu e17 e1o ?_))
     exact⟨⟨j+1,(G e).2,_,ue,by omega,by go_num,HQ⟩,by simp[intOf];omega⟩
   ·have E:Hid (oq xs s=(ej,sj)):=by
     have:=hq.eq;rw[List.drop_of_length_le (by omega)]at this;unfold Hid;rw[this];show(ej ++ [],sj)=(ej,sj);rw[List.append_nil]
    have iz:Hid (_=_):=ao hq.z (d:=xj) (by rw[fu];rfl);have fF:Hid (Below w.heap.size wr _):=aq (b:=w.heap.size+1+1) l2 xj.toList 0 wr _ (Below.refl _ _);go_wp2_with (first
     | (refine bu (π:=π) rfl _ rfl rfl HX.out fu ?_)
     | (refine bT (π:=π) rfl _ _ rfl rfl rfl HZ.out rfl fu x1 ?_))
    refine bodyPost_ret (aM rfl _ _ rfl iz.out fu) rfl ?_;rw[E.out];exact⟨by rw[hq.h],HA.upon hq.a fF.out,au.upon HA.out hq.k fF.out⟩
end W
end
section
namespace W
variable {δ : Bool}{π : ar δ}
theorem ze(C:Cx)(π:ar δ)(T:eQ)(F:Fd)(b:Bool)(w:Wd)(s:ST)(h:aK C π T F w) :
  Calls prog (π.ix 82 78) #[J (π.wk C b),Z M 0 0,J (π.aI s)] w (fE C π T F b w [] s):=by
 cases δ
 all_goals
  try dsimp only [ar.ix,ar.kd]at *
  obtain⟨k0,k1,k2,kb⟩:=cH (w:=w) (o1:=L (π.wk C b) (π.ix 217 200)) (o2:=L (π.aI s) (π.ix 220 203)) (o3:=L π.zS (π.ix 220 203)) (Below.refl _ _);have fu:=π.aD s;have x1o:=π.aV s;unfold fE;rw[dV];generalize π.wk C b=wa at *;generalize π.aI s=xa at *;have HX:Hid (_=_):=k1;have HZ:=hid k2;have HB:=hid kb;have HA:=hid h;have iz:Hid (_=_):=ao k2 (d:=xa) (by rw[fu];rfl);have fF:Hid (ω w _):=aq (b:=w.heap.size+1+1) (by omega) xa.toList 0 w _ kb;clear k0 k1 k2 kb h;try dsimp only [ar.ix,ar.kd]
  first | go_enter func82,ntmps82 | go_enter func78,ntmps78
  go_wp2_with fail;refine wp_loop_rounds 1 ?_;rw[rounds_succ];go_wp2_with (first
   | (refine bu (π:=π) rfl _ rfl rfl HX.out fu ?_)
   | (refine bT (π:=π) rfl _ _ rfl rfl rfl HZ.out rfl fu x1o ?_))
  refine bodyPost_ret (aM rfl _ _ rfl iz.out fu) rfl ⟨rfl,HA.call fF.out,au.aB fF.out HA.le⟩
 /- sums -/
theorem vg{v:Value}{x:Sp.Sm}(hx:∀k,x≠.name k)(h1:∃t u,v=σ t u)(h2:∀w,(Instr.typeAssert v 277 275 true).run prog w=.ok (φ #[I O 0,U false]) w):km v x:=by
 cases x with
 | name k=>exact absurd rfl (hx k)
 | num n=>exact⟨h1,h2⟩
 | neg x=>exact⟨h1,h2⟩
 | bin k x y=>exact⟨h1,h2⟩
theorem Dt(x:Value)(w:Wd):(Instr.typeAssert (σ 226 x) 277 275 true).run prog w=.ok (φ #[I O 0,U false]) w:=by kernel_rfl
def ym(δ:Bool):mR Sp.Tr where
 S ct v x aX:=(∃t u,v=σ t u)/\nQ (⟨[]⟩:ar δ) v x ct/\km v x/\wK x/\Sp.cS x ct=aX
 iface _ _ _ _ h:=h.1
 num ct n hn:=⟨⟨_,_,rfl⟩,SY n ct hn,vg (fun k h=>by cases h) ⟨_,_,rfl⟩ (Dt _),fun m hm=>by have:=List.mem_singleton.1 hm;subst this;exact⟨by omega,by omega⟩,rfl⟩
 name ct k hk:=⟨⟨_,_,rfl⟩,O0 k hk ct,⟨rfl,hk⟩,(fun m hm=>by cases hm),rfl⟩
 neg ct v x aX h:=by obtain⟨⟨t,u,rfl⟩,hs,_,ok,he⟩:=h;exact⟨⟨_,_,rfl⟩,SV t u x ct ok hs,vg (fun k h=>by cases h) ⟨_,_,rfl⟩ (tQ _),ok,he⟩
 bin ct k v x ct1 u y ct2 hk h h':=by obtain⟨⟨tl,ul,rfl⟩,hs,_,ok,rfl⟩:=h;obtain⟨⟨tr,ur,rfl⟩,df,_,TV,rfl⟩:=h';have e:(if 3<=k then Sp.aJ (Sp.cS x ct) else Sp.cS x ct)=Sp.cS x ct:=if_neg (by omega);refine⟨⟨_,_,rfl⟩,LL k (by omega) 0 tl ul tr ur x y ct (fun h=>by omega) ok TV hs (by rw[e];exact df),vg (fun k h=>by cases h) ⟨_,_,rfl⟩ (oY _),bR ok TV,?_⟩;show Sp.cS y (if 3<=k then Sp.aJ (Sp.cS x ct) else Sp.cS x ct)=_;rw[e]
 binSite ct k v x ct1 u y ct2 h3 hk h h':=by obtain⟨⟨tl,ul,rfl⟩,hs,_,ok,rfl⟩:=h;obtain⟨⟨tr,ur,rfl⟩,df,_,TV,rfl⟩:=h';have e:(if 3<=k then Sp.aJ (Sp.cS x ct) else Sp.cS x ct)=Sp.aJ (Sp.cS x ct):=if_pos h3;refine⟨⟨_,_,rfl⟩,LL k hk _ tl ul tr ur x y ct (fun _=>rfl) ok TV hs (by rw[e];exact df),vg (fun k h=>by cases h) ⟨_,_,rfl⟩ (oY _),bR ok TV,?_⟩;show Sp.cS y (if 3<=k then Sp.aJ (Sp.cS x ct) else Sp.cS x ct)=_;rw[e];rfl
abbrev GF(δ:Bool):=ar δ->zB->(Fin 8->Sp.Iv)->List bV × ST
structure Zb(δ:Bool)(ct:Int × Int)(lo hi:Nat)(w:Wd)(v:Value)(f:Sp.Bl->Sp.Bl)(aX:Int × Int)(G:GF δ):Prop where
 cb:∀rest,Sp.cB (f rest) ct=Sp.cB rest aX
 ok:∀rest,tG rest->tG (f rest)
 eq:∀(π:ar δ) P rest s,Sp.cD (Dm π) P (f rest) ct s=fV (Dm π) (Oo (Dm π) ct.1 (G π P) s) (Sp.cD (Dm π) P rest aX)
 wf:∀(π:ar δ) P e,(∀k,π.Wv (e k))->Sp.Wf (Kr π) (G π P e).2
 lp:∀(π:ar δ) P T rest,cL (Dm π) P T (f rest) ct->cL (Dm π) P T (f .nil) ct/\cL (Dm π) P T rest aX
 calls:∀(C:Cx) (π:ar δ) (T:eQ) (F:Fd) (b:Bool) (W:Wd) (e:Fin 8->Sp.Iv),eu lo hi w W->hi<=C.base->C.narrow<=1000->C.ai<=1000->cL (Dm π) C.ib T (f .nil) ct->aK C π T F W->(∀k,π.Wv (e k))->cV b F (G π C.ib e).1 ->
  Calls prog (π.ix 115 112) #[J (π.wk C b),v,J (π.aI (Y e))] W (fE C π T F b W (G π C.ib e).1 (G π C.ib e).2)
def JO(δ:Bool)(ct:Int × Int)(lo hi:Nat)(w:Wd)(v:Value)(f:Sp.Bl->Sp.Bl)(aX:Int × Int):Prop :=
 (∃t u,v=σ t u/\Hd t u ct.1)/\∃G,Zb δ ct lo hi w v f aX G
theorem au.same{C:Cx}{lo hi:Nat}{w w1 w2:Wd}(h:eu lo hi w w1)(k:au C w1 w2)(hh:hi<=C.base):eu lo hi w w2 :=
 fun i h1 h2 hn=>by rw[k.below.block i (by omega)];exact h i h1 h2 hn
def lI:List (Sp.Bl->Sp.Bl)->(Nat->Int × Int)->(Nat->(Fin 8->Sp.Iv)->List bV × ST)->List xy
 | [],_,_=>[]
 | _ :: fs,f,g=>((f 0).1,g 0) :: lI fs (fun i=>f (i+1)) (fun i=>g (i+1))
theorem wI:∀(fs:List (Sp.Bl->Sp.Bl)) (f:Nat->Int × Int) (g:Nat->(Fin 8->Sp.Iv)->List bV × ST),(lI fs f g).length=fs.length
 | [],_,_=>rfl
 | _ :: fs,f,g=>by show(lI fs _ _).length+1=_;rw[wI fs];rfl
theorem xu:∀(fs:List (Sp.Bl->Sp.Bl)) (f:Nat->Int × Int) (g:Nat->(Fin 8->Sp.Iv)->List bV × ST) (i:Nat) (x:xy),(lI fs f g)[i]?=Y x->x=((f i).1,g i)
 | [],_,_,i,x,h=>by simp[lI]at h
 | _ :: fs,f,g,0,x,h=>by simpa [lI] using h.symm
 | _ :: fs,f,g,i+1,x,h=>by
  have h':(lI fs (fun i=>f (i+1)) (fun i=>g (i+1)))[i]?=Y x:=by simpa [lI] using h
  exact xu fs _ _ i x h'
theorem LJ(π:ar δ)(p:Int)(g:(Fin 8->Sp.Iv)->List bV × ST)(s:ST)(A:ST->List bV × ST)(xs:List xy)(h:∀s,A s=oq xs s):fV (Dm π) (Oo (Dm π) p g s) A=oq ((p,g) :: xs) s:=by
 cases s with
 | none=>exact(congrArg (fun r:List bV × ST=>(([]:List bV) ++ r.1,r.2)) ((h M).trans (zJ xs)))
 | some e=>exact(congrArg (fun r:List bV × ST=>((eU.ay p e :: (g e).1) ++ r.1,r.2)) (h (g e).2))
theorem zd(π:ar δ)(P:zB)(T:eQ)(lo hi:Nat)(w:Wd):∀(fs:List (Sp.Bl->Sp.Bl)) (vs:Nat->Value) (f:Nat->Int × Int) (Gi:Nat->GF δ),(∀i g,fs[i]?=Y g->Zb δ (f i) lo hi w (vs i) g (f (i+1)) (Gi i)) ->
  Sp.cB (aW fs) (f 0)=f fs.length/\tG (aW fs)/\(∀s,Sp.cD (Dm π) P (aW fs) (f 0) s=oq (lI fs f (fun i=>Gi i π P)) s)/\(cL (Dm π) P T (aW fs) (f 0)->∀i g,fs[i]?=Y g->cL (Dm π) P T (g .nil) (f i))
 | [],vs,f,Gi,_=>⟨rfl,(fun n hn=>by cases hn),(fun s=>rfl),fun _ i g h=>by simp at h⟩
 | x :: fs,vs,f,Gi,h=>by
  have hx:=h 0 x (by simp);obtain⟨h1,h2,h3,h4⟩:=zd π P T lo hi w fs (fun i=>vs (i+1)) (fun i=>f (i+1)) (fun i=>Gi (i+1)) (fun i g hg=>h (i+1) g (by simpa using hg));refine⟨?_,hx.ok _ h2,fun s=>?_,fun hl i g hg=>?_⟩
  ·show Sp.cB (x (aW fs)) (f 0)=_
   rw[hx.cb];exact h1
  ·exact(hx.eq π P (aW fs) s).trans (LJ π _ _ s _ _ h3)
  ·obtain⟨l1,l2⟩:=hx.lp π P T _ hl
   cases i with
   | zero =>
    have:x=g:=by simpa using hg
    subst this;exact l1
   | succ i=>exact h4 l2 i g (by simpa using hg)
structure BlA(δ:Bool)(ct:Int × Int)(lo hi:Nat)(w:Wd)(v:Value)(t:Sp.Bl)(aX:Int × Int):Prop where
 cb:Sp.cB t ct=aX
 ok:tG t
 calls:∀(C:Cx) (π:ar δ) (T:eQ) (b:Bool) (W:Wd),eu lo hi w W->hi<=C.base->C.narrow<=1000->C.ai<=1000->cL (Dm π) C.ib T t ct->Fg C π T b W v (Sp.cD (Dm π) C.ib t ct)
theorem vT{ct aX:Int × Int}{lo hi:Nat}{w:Wd}{v:Value}{fs:List (Sp.Bl->Sp.Bl)}(h:ng (JO δ) ct lo hi w v fs aX):BlA δ ct lo hi w v (aW fs) aX:=by
 obtain⟨vs,f,ho,hg,he,rfl,rfl⟩:=h;have Wt:vs.length=fs.length:=by have:=ho.1;rw[Nat.mul_one]at this;exact this
 have W6:∀i g,fs[i]?=Y g->∃u,vs[i]?=Y u/\JO δ (f i) lo hi w u g (f (i+1)):=fun i g hx=>by
  have hi:i<vs.length:=by rw[Wt];exact(List.getElem?_eq_some_iff.1 hx).1
  exact⟨_,List.getElem?_eq_getElem hi,he i _ g (List.getElem?_eq_getElem hi) hx⟩
 have uU:∀i,∃G:GF δ,∀g,fs[i]?=Y g->Zb δ (f i) lo hi w (vs.getD i .nilIface) g (f (i+1)) G:=fun i=>by
  cases hf:fs[i]? with
  | none=>exact⟨fun _ _ _=>([],M),fun g hg=>by cases hg⟩
  | some g =>
   obtain⟨u,hu,_,G,hG⟩:=W6 i g hf;refine⟨G,fun g' pM=>?_⟩;cases pM
   rw[List.getD_eq_getElem?_getD,hu];exact hG
 obtain⟨Gi,Z9⟩:=Classical.axiomOfChoice uU;have ξ:=fun π P T=>zd π P T lo hi w fs (fun i=>vs.getD i .nilIface) f Gi Z9
 refine⟨(ξ ⟨[]⟩ ⟨0,0,0⟩ (fun _ s=>([],s))).1,(ξ ⟨[]⟩ ⟨0,0,0⟩ (fun _ s=>([],s))).2.1,?_⟩;intro C π T b W DU D7 xI xP N6 F W' s hk ha hs hr;obtain⟨_,_,j3,j4⟩:=ξ π C.ib T;have XE:=hk.same DU D7;rw[j3]at hr ⊢
 rcases ho.2 with⟨rfl,hz⟩ | ⟨g,cap,cur,rfl,hlg,hh,hnc,YB,XF,Wy⟩
 ·obtain rfl:fs=[]:=List.eq_nil_of_length_eq_zero hz
  exact ze C π T F b W' s ha
 ·have uA:=hg g rfl
  have hsl:=wI fs f (fun i=>Gi i π C.ib);have:=De C π T F b W' g cap (lI fs f (fun i=>Gi i π C.ib)) vs (by rw[hsl];exact Wt) (by omega) (by rw[hsl];unfold maxLen at YB;omega) s hs ha hr
   (fun i u hu=>by
     have h1:W'.heap[g]?=Y (L cur 234):=by rw[XE g hlg uA (by rw[hh];exact eW (by decide))];exact hh
     refine cell_of h1 i ?_;have h2:i<vs.length:=(List.getElem?_eq_some_iff.1 hu).1;have h3:cur.toList[i]?=vs[i]?:=by rw[<-Wy,List.getElem?_take,if_pos (by omega)]
     rw[<-Array.getElem?_toList,h3];exact hu)
   (fun i u p G hu hx=>by
     have hp:=xu fs f _ i _ hx;injection hp with rY sk
     have hi:i<fs.length:=by rw[<-Wt];exact(List.getElem?_eq_some_iff.1 hu).1
     obtain⟨u',DW,⟨t,y,e1,e2⟩,_⟩:=W6 i _ (List.getElem?_eq_getElem hi);rw[hu]at DW;cases DW
     have gI:=Z9 i _ (List.getElem?_eq_getElem hi);rw[List.getD_eq_getElem?_getD,hu]at gI;refine⟨t,y,e1,by rw[rY];exact e2,fun e he=>by rw[sk];exact gI.wf π C.ib e he,fun F' W2 e gD Om pE od=>?_⟩;subst sk;exact gI.calls C π T F' b W2 e (gD.same XE D7) D7 xI xP (j4 N6 i _ (List.getElem?_eq_getElem hi)) Om pE od)
  rw[hsl]at this;exact this
end W
end
end Go.Proofs.YtiopfihjmkfdmaaGreatDoor
