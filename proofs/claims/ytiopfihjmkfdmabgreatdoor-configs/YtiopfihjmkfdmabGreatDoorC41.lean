import Derived.Test.YtiopfihjmkfdmabGreatDoorC31
namespace Go.Proofs.YtiopfihjmkfdmabGreatDoor
open Option renaming some->Y,none->M
open Go.Obj renaming cells->L
open Go.Value renaming agg->J,bool->U,int->I,pointer->ρ,iface->σ,slice->Z
open Go.IntKind renaming i64->O
open Go.Ending renaming returned->υ
open Go.Proofs.Tryz Sp
open Go.RowKit
set_option maxRecDepth 100000
set_option maxHeartbeats 16000000
section
namespace W
variable {E: Bool}{G: aw E}
section
variable{C:Cx}
variable{T:fS}
variable{F F0:Fd}
variable{w W W':Wd}
variable{wa xa ja xj:Array Value}
structure jq(C:Cx)(G:aw E)(T:fS)(F:Fd)(w:Wd)(wa xa:Array Value)(W:Wd):Prop where
 a:aP C G T F W
 k:aB C w W
 o:W.heap[w.heap.size]?=Y (L wa (G.ix 171 154))
 x:W.heap[w.heap.size+1]?=Y (L xa (G.ix 174 157))
 z:W.heap[w.heap.size+1+1]?=Y (L G.zS (G.ix 174 157))
theorem jq.bH{G:aw E}(h0:aP C G T F0 w)(h:jq C G T F w wa xa W)(ha:aP C G T F W')(hk:aB C W W'):jq C G T F w wa xa W':=
 ⟨ha,h.k.trans hk,hk.bf h0 È h.o,hk.bf h0 À h.x,hk.bf h0 À h.z⟩
theorem jq.call{G:aw E}(h:jq C G T F w wa xa W)(k:ω W W'):jq C G T F w wa xa W':=
 ⟨h.a.call k,h.k.trans (aB.aF k h.a.le),(k.block _ (ah h.o)).trans h.o,(k.block _ (ah h.x)).trans h.x,(k.block _ (ah h.z)).trans h.z⟩
theorem jq.put{G:aw E}(h0:aP C G T F0 w)(h:jq C G T F w wa xa W){p:Nat}(hp:w.heap.size+1+1<p)(d:Array Value):jq C G T F w wa xa (W.setCells p 0 d.toList):=by have hb:Below w.heap.size W (W.setCells p 0 d.toList):=au (b:=p) À d.toList 0 W _ Å;exact⟨h0.upon h.a hb,aB.upon h0 h.k hb,(al _ _ _ _ À).trans h.o,(al _ _ _ _ À).trans h.x,(al _ _ _ _ À).trans h.z⟩
theorem jq.YG{G:aw E}(h0:aP C G T F0 w)(h:jq C G T F w wa xa W)(d:Array Value)(h1:xa.size=17)(h2:d.size=17):jq C G T F w wa d (W.setCells (w.heap.size+1) 0 d.toList):=by have hb:Below w.heap.size W (W.setCells (w.heap.size+1) 0 d.toList):=au (b:=w.heap.size+1) À d.toList 0 W _ Å;exact⟨h0.upon h.a hb,aB.upon h0 h.k hb,(al _ _ _ _ À).trans h.o,ar h.x (by rw[h1,h2]),(al _ _ _ _ À).trans h.z⟩
theorem Ps(x y:Operand)(ja xj:Array Value)(w:Wd):(eqGuard .eql (G.ix 174 157) x y (J ja) (J xj)).run prog w=.ok () w:=by
 have h0:prog.eqGuardType prog.depth (G.ix 174 157)=false:=by cases E<;>kernel_rfl
 unfold eqGuard;simp[h0,go_sem]
theorem GW{ops:Array Oper}{rest:List Oper}{op:Oper}{a:Act}{Q:Exit->Act->Wd->Prop}(sE:op.guard=M)(x y:Operand)(ho:op.op=.binOp .eql (G.ix 174 157) x y (G.ix 174 157))(hx:a.eval x=J ja)(hy:a.eval y=J xj){r:Bool}(heq:(Op.equal (G.ix 174 157) (J ja) (J xj)).run prog w=.ok r w)
  (k:wpList prog ops Q rest (a.put op.dst (U r)) w):wpList prog ops Q (op::rest) a w:=
 wpList_plain sE λ_ hK=>by unfold Oper.wp execOp;simp only[ho,hx,hy,binOp,ß,Sem.run_pure,Result.andThen_ok,Ps,heq];exact hK _ _ k
theorem IK(G:aw E):(Dm G).fuel<=100000000:=Nat.le_of_ble_eq_true rfl
theorem mL(C:Cx)(G:aw E)(T:fS)(F:Fd)(b:Bool)(w:Wd)(s:ST)(hs:Sp.Wf (Kr G) s)(h:aP C G T F w)(c1 c2 c3 c4:Value)(next:ST->ST)(ZT:∀i,Sp.Wf (Kr G) i->Sp.Wf (Kr G) (next i))(h0:s=M->next M=M)
  (hN:∀W i,aB C w W->aP C G T F W->Sp.Wf (Kr G) i->Calls prog (G.ix 221 218) #[J (G.aQ i),c1,c2,c3,c4] W λe w'=>e=υ (J (G.aQ (next i)))/\aP C G T F w'/\aB C W w'):
  Calls prog (G.ix 222 219) #[J (G.wk C b),J (G.aQ s),.func (.func (G.ix 221 218)) #[] #[c1,c2,c3,c4]] w λe w'=>e=υ (J (G.aQ (Sp.fixF (Dm G) next C.ao (Dm G).fuel 1 s)))/\aP C G T F w'/\aB C w w':=by
 cases E
 all_goals
  try dsimp only[aw.ix,aw.kd]at*
  have fH:=G.du C b;have kL:=G.mj C b;have Rb:(G.wk C b)[2]?=Y (I O (C.ao:Nat)):=rfl;obtain⟨ο,hU⟩:∃ο,Sp.fixF (Dm G) next C.ao (Dm G).fuel 1 s=ο:=⟨_,rfl⟩;rw[hU];have T0:Hid (qV (Kr G) next C.ao ο 1 (Dm G).fuel s):=qV.start hU hs h0;have HN:=hid hN;have HNW:=hid ZT;have HJ:Hid (∀W s t u,aP C G T F W->Sp.jn (Dm G) s t=u->Sp.Wf (Kr G) s->Sp.Wf (Kr G) t->Calls _ _ _ W _):=λW s t u hW e1 e2 e3=>qn C.dv C.ch C.ao C.narrow C.aj C.th C.m (if b then Y ⟨C.fb,0,M⟩ else M) s t u W hW.does e1 e2 e3
  have hfs:=IK G;generalize uf:G.wk C b=wa at*;have HWA:=hid uf;obtain⟨xa,oQ⟩:∃xa,xa=G.aQ s:=⟨_,rfl⟩;rw[<-oQ];have H0:Hid (jq C G T F w wa xa (((w.alloc (L wa (G.ix 171 154))).alloc (L xa (G.ix 174 157))).alloc (L G.zS (G.ix 174 157)))):=by obtain⟨k0,k1,k2,kb⟩:=bQ (w:=w) (o1:=L wa (G.ix 171 154)) (o2:=L xa (G.ix 174 157)) (o3:=L G.zS (G.ix 174 157)) Å;exact⟨h.call kb,aB.aF kb h.le,k0,k1,k2⟩
  have HA:=hid h;have Q9:=hid oQ;clear h hN ZT h0 uf oQ hU hs;try dsimp only[aw.ix,aw.kd]
  first|go_enter func222,ntmps222|go_enter func219,ntmps219
  go_wp2_with fail;generalize ((w.alloc (L wa (G.ix 171 154))).alloc (L xa (G.ix 174 157))).alloc (L G.zS (G.ix 174 157))=W0 at*
  go_loopw [7] (λv7 wr=>∃(k f:Nat) (sj:ST) (xj:Array Value),v7=I O k/\Hid (jq C G T F w wa xj wr)/\Hid (qV (Kr G) next C.ao ο k f sj)/\Hid (xj=G.aQ sj)) (λv7 _=>(Dm G).fuel+1-(intOf v7).toNat)
  case atStart=>exact⟨1,(Dm G).fuel,s,xa,rfl,H0,T0,Q9⟩
  case round=>
   obtain⟨k,f,sj,xj,rfl,hq,ht,hx⟩:=hrel;clear H0 T0;have fV:xj.size=17:=by rw[hx.out];exact G.aG sj
   have x1:xj.all (·.oneCell')=true:=by rw[hx.out];exact G.aZ sj
   obtain⟨nx,fD⟩:∃nx,nx=G.aQ (next sj):=⟨_,rfl⟩;obtain⟨ja,hja⟩:∃ja,ja=G.aQ (Sp.jn (Dm G) sj (next sj)):=⟨_,rfl⟩;have Ds:ja.size=17:=by rw[hja];exact G.aG _
   have j1:ja.all (·.oneCell')=true:=by rw[hja];exact G.aZ _
   have HJA:=hid hja;have wj:=ht.wf;have wn:=HNW.out _ wj;have MO:Hid (∀W,jq C G T F w wa xj W->Calls prog (G.ix 221 218) #[J xj,c1,c2,c3,c4] W λe w'=>e=υ (J nx)/\jq C G T F w wa xj w'/\aB C W w'):=λW hW=>by have:=HN.out W sj hW.k hW.a wj;rw[<-hx.out,<-fD]at this;exact this.mono λe w' q=>⟨q.1,hW.bH HA.out q.2.1 q.2.2,q.2.2⟩
   have HJ1:Hid (∀W,jq C G T F w wa xj W->Calls prog (G.ix 82 79) #[J wa,J xj,J nx] W λe w'=>e=υ (J ja)/\jq C G T F w wa xj w'/\aB C W w'):=λW hW=>by have:=HJ.out W sj (next sj) _ hW.a rfl wj wn;rw[<-hx.out,<-fD,<-hja]at this;have h2:Calls prog (G.ix 82 79) #[J (G.wk C b),J xj,J nx] W _:=this;rw[HWA.out]at h2;exact h2.mono λe w' q=>⟨q.1,hW.call q.2,aB.aF q.2 hW.a.le⟩
   clear hja fD HJ HN;go_wp2_with fail
   go_cut [8] from 9 (λv8 wc=>∃p:Nat,v8=ρ (Y ⟨p,0,M⟩)/\Hid (w.heap.size+1+1<p/\jq C G T F w wa xj wc/\wc.heap[p]?=Y (L ja (G.ix 174 157))))
   case first=>
    have H1:Hid (jq C G T F w wa xj wr.drew):=hq.call (Å).drew;refine wp_region_held_drew (S:=λw':Wd=>jq C G T F w wa xj w') Ã H1.out (λaa=>?_);refine nu 0 rfl (G.se rfl _ rfl _ _ rfl (wa) (λw' h=>aT h.o) fH) aa ?_;refine nu 1 rfl (G.nw rfl _ rfl _ _ rfl (xj) (λw' h=>aT h.x) fV) aa ?_;refine nu 3 rfl (G.nw rfl _ rfl _ _ rfl (xj) (λw' h=>aT h.x) fV) aa ?_;refine tq 2 (.func (.func (G.ix 221 218)) #[] #[c1,c2,c3,c4]) aa ?_;refine zZ 4 6 ?_ ?_
    .intro K hK
     simp only[bG,gd];go_simp;refine(MO.out _ aa).mono ?_;rintro e w1⟨rfl,a1,b1⟩;go_wp2_with fail;refine hK.out _ _ a1 (λaa=>?_);clear hK K b1 a1;refine zZ 5 6 ?_ ?_
     .intro K hK
      simp only[bG];go_simp;refine(HJ1.out _ aa).mono ?_;rintro e w2⟨rfl,a2,b2⟩;go_wp2_with fail;refine hK.out _ _ a2 (λaa=>?_);clear hK K b2 a2;refine bP 6 λK hK=>?_
      simp only[bG];have hp:w.heap.size+1+1<w2.heap.size:=ah aa.z;have kb:=below_alloc1 w2 (L G.zS (G.ix 174 157));have hz:=heap_alloc_new w2 (L G.zS (G.ix 174 157));have hh:=aa.call kb;go_simp;refine hK.out _ _ hh (λaa=>?_);clear hK K hh;refine bP 7 λK hK=>?_
      rw[Á Ê];refine wp_store_mid _ _ _ rfl _ _ ja rfl rfl (by rw[Ds];exact bO hz) (by rw[eV (G:=G),Ds]) j1 ?_;refine hK.out _ _ (aa.put HA.out hp ja) (λ_=>?_);clear hK K;refine wpAnyH_done Ã ?_ _;go_wp2_with fail;go_meet
      case rel=>exact⟨_,rfl,hp,aa.put HA.out hp ja,ar hz (by rw[Ds];rfl)⟩
     .intro K hK
      simp only[bG];have hp:w.heap.size+1+1<w1.heap.size:=ah aa.z;have kb:=below_alloc1 w1 (L G.zS (G.ix 174 157));have hz:=heap_alloc_new w1 (L G.zS (G.ix 174 157));have hh:=aa.call kb;clear kb;go_simp;refine hK.out _ _ hh (λaa=>?_);clear hK K hh;refine bP 5 λK hK=>?_
      simp only[bG];go_simp;refine(HJ1.out _ aa).mono ?_;rintro e w2⟨rfl,hh,b2⟩;have hz:=b2.bf HA.out À hz;clear b2;go_wp2_with fail;refine hK.out _ _ hh (λaa=>?_);clear hK K hh;refine bP 7 λK hK=>?_
      rw[Á Ê];refine wp_store_mid _ _ _ rfl _ _ ja rfl rfl (by rw[Ds];exact bO hz) (by rw[eV (G:=G),Ds]) j1 ?_;refine hK.out _ _ (aa.put HA.out hp ja) (λ_=>?_);clear hK K;refine wpAnyH_done Ã ?_ _;go_wp2_with fail;go_meet
      case rel=>exact⟨_,rfl,hp,aa.put HA.out hp ja,ar hz (by rw[Ds];rfl)⟩
    .intro K hK
     simp only[bG,gd];have hp:w.heap.size+1+1<wr.drew.heap.size:=ah aa.z;have kb:=below_alloc1 wr.drew (L G.zS (G.ix 174 157));have hz:=heap_alloc_new wr.drew (L G.zS (G.ix 174 157));have hh:=aa.call kb;clear kb;go_simp;refine hK.out _ _ hh (λaa=>?_);clear hK K hh;refine bP 4 λK hK=>?_
     simp only[bG];go_simp;refine(MO.out _ aa).mono ?_;rintro e w1⟨rfl,hh,b1⟩;have hz:=b1.bf HA.out À hz;clear b1;go_wp2_with fail;refine hK.out _ _ hh (λaa=>?_);clear hK K hh;refine bP 5 λK hK=>?_
     simp only[bG];go_simp;refine(HJ1.out _ aa).mono ?_;rintro e w2⟨rfl,hh,b2⟩;have hz:=b2.bf HA.out À hz;clear b2;go_wp2_with fail;refine hK.out _ _ hh (λaa=>?_);clear hK K hh;refine bP 7 λK hK=>?_
     rw[Á Ê];refine wp_store_mid _ _ _ rfl _ _ ja rfl rfl (by rw[Ds];exact bO hz) (by rw[eV (G:=G),Ds]) j1 ?_;refine hK.out _ _ (aa.put HA.out hp ja) (λ_=>?_);clear hK K;refine wpAnyH_done Ã ?_ _;go_wp2_with fail;go_meet
     case rel=>exact⟨_,rfl,hp,aa.put HA.out hp ja,ar hz (by rw[Ds];rfl)⟩
   case rest=>
    obtain⟨p,rfl,hp⟩:=hcut;have HP:=hid hp.2.2;have HX:Hid (_=_):=hp.2.1.x;have HZ:=hid hp.2.1.z;have HL:=hid hp.1;clear MO HJ1;cases Tm:IG (Dm G) (Sp.jn (Dm G) sj (next sj)) sj with
    |true=>
     have heq:Hid (∀w,(Op.equal (G.ix 174 157) (J ja) (J xj)).run prog w=.ok true w):=λw=>by have:=TM (G:=G) (mr wj wn) wj w;rw[Tm,<-HJA.out,<-hx.out]at this;exact this
     have hE:Hid (sj=ο):=ht.end Tm;have je:Hid (_=_):=ar hp.2.1.z (d:=xj) (by rw[fV];rfl);have ia:Hid (Below w.heap.size wc _):=au (b:=w.heap.size+1+1) À xj.toList 0 wc _ Å;go_wp2_with (first
      |(refine bR (G:=G) rfl _ rfl rfl HP.out Ds ?_)
      |(refine bR (G:=G) rfl _ rfl rfl HX.out fV ?_)
      |(refine GW (G:=G) rfl _ _ rfl rfl rfl (heq.out _) ?_)
      |(refine cy (G:=G) rfl _ _ rfl rfl rfl HZ.out rfl fV x1 ?_))
     refine Ç (aU rfl _ _ rfl je.out fV) rfl ?_;rw[<-hE.out,<-hx.out];exact⟨rfl,HA.upon hp.2.1.a ia.out,aB.upon HA.out hp.2.1.k ia.out⟩
    |false=>
     have heq:Hid (∀w,(Op.equal (G.ix 174 157) (J ja) (J xj)).run prog w=.ok false w):=λw=>by have:=TM (G:=G) (mr wj wn) wj w;rw[Tm,<-HJA.out,<-hx.out]at this;exact this
     obtain⟨e,n,f',hse,qT,Uo,ZU,hff,Dp⟩:=ht.on HNW.out Tm;have I2:=hid Dp;have hkf:k<=(Dm G).fuel:=by have:=ht.sum;omega
     have d2:=cell_of hp.2.1.o 2 Rb;clear Tm Dp;by_cases hdk:C.ao<k
     .have hdi:((C.ao:Nat):Int)<((k:Nat):Int):=À
      obtain⟨va,hva⟩:∃va,va=G.aQ (pH (Dm G) next C.ao k sj):=⟨_,rfl⟩;have oO:va.size=17:=by rw[hva];exact G.aG _
      have v1:va.all (·.oneCell')=true:=by rw[hva];exact G.aZ _
      have HW:Hid (∀W,jq C G T F w wa xj W->Calls prog (G.ix 123 118) #[J xj,J ja,.func (Fn.method "Widen") #[σ (G.ix 92 87) C.dv] #[]] W λr w'=>r=υ (J va)/\ω W w'):=λW hW=>by
       have:=Et C.dv e n W hW.a.does qT ZU;have e1:o6 (Dm G) (Dm G).widen (Y e) (Y n)=pH (Dm G) next C.ao k sj:=by unfold pH;rw[Á hdk,Uo,hse]
       have e2:ja=G.aQ (Y n):=HJA.trans (Ë G.aQ Uo);have e3:xj=G.aQ (Y e):=hx.trans (Ë G.aQ hse);rw[e1,<-hva,<-e2,<-e3]at this;exact this
      have Tb:=hid hva;clear hva;go_wp2_with (first
       |(refine bR (G:=G) rfl _ rfl rfl HP.out Ds ?_)
       |(refine bR (G:=G) rfl _ rfl rfl HX.out fV ?_)
       |(refine GW (G:=G) rfl _ _ rfl rfl rfl (heq.out _) ?_))
      go_cut [8] from 9 (λv8 wd=>v8=ρ (Y ⟨p,0,M⟩)/\Hid (jq C G T F w wa xj wd/\wd.heap[p]?=Y (L va (G.ix 174 157))))
      case first=>
       have H1:Hid (jq C G T F w wa xj wc.drew):=hp.2.1.call (Å).drew;refine wp_region_held_drew (S:=λw':Wd=>jq C G T F w wa xj w'/\∃c:Array Value,c.size=17/\w'.heap[p]?=Y (L c (G.ix 174 157))) Ã ⟨H1.out,ja,Ds,HP.out⟩ (λaa=>?_);refine nu 0 rfl (G.nw rfl _ rfl _ _ rfl (xj) (λw' h=>aT h.1.x) fV) aa ?_;refine tq 2 (ρ (Y ⟨w.heap.size,0,M⟩)) aa ?_;refine tk 3 (σ (G.ix 92 87) C.dv) rfl (λw' h=>by have d0:=cell_of h.1.o 0 kL;go_simp) aa ?_;refine tq 4 (σ (G.ix 92 87) C.dv) aa ?_;refine tq 5 (.func (Fn.method "Widen") #[σ (G.ix 92 87) C.dv] #[]) aa ?_;refine bP 1 λK hK=>?_
       simp only[bG,gd];rw[Á Ê];refine zf (G:=G) _ rfl rfl (aT HP.out) Ds ?_;simp only[Act.put];refine hK.out _ _ aa (λaa=>?_);clear hK K;refine bP 6 λK hK=>?_
       simp only[bG,gd];go_simp;refine(HW.out _ aa.1).mono ?_;rintro r w1⟨rfl,b1⟩;go_wp2_with fail;have hz:w1.heap[p]?=Y (L ja (G.ix 174 157)):=(b1.block _ (ah HP.out)).trans HP.out;have hh:=aa.1.call b1;refine hK.out _ _ ⟨hh,ja,Ds,hz⟩ (λ_=>?_);clear hK K b1 aa;refine bP 7 λK hK=>?_
       rw[Á Ê];refine wp_store_mid _ _ _ rfl _ _ va rfl rfl (by rw[oO,<-Ds];exact bO hz) (by rw[eV (G:=G),oO]) v1 ?_;have ff:=ar hz (d:=va) (by rw[oO,Ds]);have BO:=hh.put HA.out HL.out va;refine hK.out _ _ ⟨BO,va,oO,ff⟩ (λ_=>?_);clear hK K;refine wpAnyH_done Ã ?_ _;go_wp2_with fail;go_meet
       case rel=>exact⟨rfl,BO,ff⟩
      case rest=>
       obtain⟨rfl,hr⟩:=hcut;have HP2:=hid hr.2;have DN:=hid hr.1.x;have HQ:Hid (jq C G T F w wa va (wc.setCells (w.heap.size+1) 0 va.toList)):=hr.1.YG HA.out va fV oO;go_wp2_with (first
        |(refine bR (G:=G) rfl _ rfl rfl HP2.out oO ?_)
        |(refine cy (G:=G) rfl _ _ rfl rfl rfl DN.out fV oO v1 ?_))
       exact⟨⟨k+1,f',_,va,by go_num,HQ,I2,Tb⟩,by simp[intOf];omega⟩
     .have hdi:¬((C.ao:Nat):Int)<((k:Nat):Int):=À
      have Y7:Hid (ja=G.aQ (pH (Dm G) next C.ao k sj)):=by unfold Hid pH;rw[Â hdk];exact HJA.out
      have HQ:Hid (jq C G T F w wa ja (wc.setCells (w.heap.size+1) 0 ja.toList)):=hp.2.1.YG HA.out ja fV Ds;go_wp2_with (first
       |(refine bR (G:=G) rfl _ rfl rfl HP.out Ds ?_)
       |(refine bR (G:=G) rfl _ rfl rfl HX.out fV ?_)
       |(refine GW (G:=G) rfl _ _ rfl rfl rfl (heq.out _) ?_)
       |(refine cy (G:=G) rfl _ _ rfl rfl rfl HX.out fV Ds j1 ?_))
      exact⟨⟨k+1,f',_,ja,by go_num,HQ,I2,Y7⟩,by simp[intOf];omega⟩
end
end W
end
section
namespace W
variable {E: Bool}{G: aw E}
section
variable{w W W':Wd}
variable{b kq p:Nat}
variable{c d wa ic sa wq:Array Value}
variable{T:fS}
variable{F F0:Fd}
theorem VU{ops:Array Oper}{rest:List Oper}{op:Oper}{a:Act}{Q:Exit->Act->Wd->Prop}(sE:op.guard=M)(x y:Operand)(ho:op.op=.store (G.ix 171 154) x y)(hx:a.eval x=ρ (Y ⟨b,0,M⟩))(hy:a.eval y=J d)(h:Bk w b c (G.ix 171 154))(hc:c.size=8)(hd:d.size=8)(h1:d.all (·.oneCell')=true)
  (k:wpList prog ops Q rest (a.put op.dst undef) (w.setCells b 0 d.toList)):wpList prog ops Q (op::rest) a w:=
 wpList_plain sE λ_ hK=>wp_store_mid (G.ix 171 154) x y ho b 0 d hx hy (by rw[hd,<-hc];exact bO h) (by rw[CP (G:=G),hd]) h1 (hK _ _ k)
theorem aw.UN(G:aw E)(C:Cx)(b:Bool):(G.wk C b).all (·.oneCell')=true:=by unfold aw.wk aw.At;simp[Value.oneCell']
theorem JT(w:Wd)(u:Array Value)(h:u.size=17) :
  (w.alloc (L G.zS (G.ix 174 157))).heap[w.heap.size]?=Y (L G.zS (G.ix 174 157)) /\
  ((w.alloc (L G.zS (G.ix 174 157))).setCells w.heap.size 0 u.toList).heap[w.heap.size]?=Y (L u (G.ix 174 157)) /\
  ω w ((w.alloc (L G.zS (G.ix 174 157))).setCells w.heap.size 0 u.toList):=by
 have a1:=heap_alloc_new w (L G.zS (G.ix 174 157));exact⟨a1,ar a1 (by rw[h];rfl),au È _ _ _ _ (below_alloc1 w _)⟩
abbrev j9:Array Value:=#[.nilIface,I O 0,I O 0,I O 0,I O 0,U false,.map M,ρ M]
theorem O3(w:Wd)(u:Array Value)(h:u.size=8) :
  (w.alloc (L j9 (G.ix 171 154))).heap[w.heap.size]?=Y (L j9 (G.ix 171 154)) /\
  ((w.alloc (L j9 (G.ix 171 154))).setCells w.heap.size 0 u.toList).heap[w.heap.size]?=Y (L u (G.ix 171 154)) /\
  ω w ((w.alloc (L j9 (G.ix 171 154))).setCells w.heap.size 0 u.toList):=by
 have a1:=heap_alloc_new w (L j9 (G.ix 171 154));exact⟨a1,ar a1 (by rw[h];rfl),au È _ _ _ _ (below_alloc1 w _)⟩
def IQ(C:Cx)(G:aw E)(T:fS)(b:Bool)(w:Wd)(v:Value)(body:ST->List cE×ST):Prop:=
 ∀F W s,aB C w W->aP C G T F W->Sp.Wf (Kr G) s->dk b F (body s).1->Calls prog (G.ix 47 42) #[J (G.wk C b),v,J (G.aQ s)] W (jh C G T F b W (body s).1 (body s).2)
structure mF(C:Cx)(G:aw E)(T:fS)(F:Fd)(w:Wd)(wa ic sa wq:Array Value)(kq:Nat)(W:Wd):Prop where
 a:aP C G T F W
 k:aB C w W
 c:lk G wq ic wa sa kq (w.heap.size+1) w.heap.size (w.heap.size+1+1) W
 z:W.heap[w.heap.size+1+1+1]?=Y (L G.zS (G.ix 174 157))
theorem mF.call{C:Cx}{G:aw E}(h:mF C G T F w wa ic sa wq kq W)(k:ω W W'):mF C G T F w wa ic sa wq kq W':=
 ⟨h.a.call k,h.k.trans (aB.aF k h.a.le),h.c.call k,(k.block _ (ah h.z)).trans h.z⟩
theorem mF.bH{C:Cx}{G:aw E}(h0:aP C G T F0 w)(hq:w.heap.size<=kq)(h:mF C G T F w wa ic sa wq kq W)(ha:aP C G T F W')(hk:aB C W W'):mF C G T F w wa ic sa wq kq W':=
 ⟨ha,h.k.trans hk,h.c.bH h0 ⟨hq,À,È,À⟩ hk,hk.bf h0 À h.z⟩
theorem mF.put{C:Cx}{G:aw E}(h0:aP C G T F0 w)(h:mF C G T F w wa ic sa wq kq W)(hq:w.heap.size+1+1+1<kq)(hp:kq<p)(l:List Value):mF C G T F w wa ic sa wq kq (W.setCells p 0 l):=by have hb:Below w.heap.size W (W.setCells p 0 l):=au (b:=p) À l 0 W _ Å;exact⟨h0.upon h.a hb,aB.upon h0 h.k hb,h.c.put À l,(al _ _ _ _ À).trans h.z⟩
theorem Mn(p:Int)(k:Nat)(tl:TypeId)(ul:Value)(tr:TypeId)(ur:Value)(av:Option Addr)(nv cv:Nat)(x y:Sp.Sm)(ct:Sp.Ct)(body:ST->List cE × ST)(C:Cx)(G:aw E)(T:fS)(F:Fd)(b:Bool)(w:Wd)(s:ST)(h:aP C G T F w)(hs:Sp.Wf (Kr G) s)
  (Qu:Ha G (σ tl ul) (σ tr ur) k x y ct) (zM:gB (Kr G) (Sp.dK (Dm G) k x y ct)) (vm:fJ (Kr G) body) (Kl:rT (D:=Dm G) body) (iD:IQ C G T false w (Z av nv cv) body) (zI:C.narrow<=1000):
  Calls prog (G.ix 203 197) #[J (G.wk C b),J (Cb p k tl ul tr ur av nv cv),J (G.aQ s)] w λe w'=>e=υ (J (G.aQ (mU (Dm G) C.iL (Sp.dK (Dm G) k x y ct) body s)))/\aP C G T F w'/\aB C w w':=by
 cases E
 all_goals
  try dsimp only[aw.ix,aw.kd]at*
  obtain⟨next,hnext⟩:∃next:ST->ST,next=λi=>kK (Dm G) (Sp.dK (Dm G) k x y ct) body s i:=⟨_,rfl⟩
  have ZT:∀i,Sp.Wf (Kr G) i->Sp.Wf (Kr G) (next i):=λi hi=>by rw[hnext];exact zg zM vm hs hi
  have WH:s=M->next M=M:=λe=>by rw[hnext];exact P1 (D:=Dm G) (cond:=Sp.dK (Dm G) k x y ct) (show uG (Sp.dK (Dm G) k x y ct) from rfl) Kl e
  have jX:Hid (∀W kq i,w.heap.size<=kq->lk G (G.wk C false) (Cb p k tl ul tr ur av nv cv) (G.wk C b) (G.aQ s) kq (w.heap.size+1) w.heap.size (w.heap.size+1+1) W->aB C w W->aP C G T F W->Sp.Wf (Kr G) i ->
    Calls prog (G.ix 221 218) #[J (G.aQ i),ρ (Y ⟨kq,0,M⟩),ρ (Y ⟨w.heap.size+1,0,M⟩),ρ (Y ⟨w.heap.size,0,M⟩),ρ (Y ⟨w.heap.size+1+1,0,M⟩)] W λe w'=>e=υ (J (G.aQ (next i)))/\aP C G T F w'/\aB C W w'):=λW kq i hq QP hk ha hi=>by
   have hci:=zM i hi;refine IS p k tl ul tr ur av nv cv C G T F F b w W kq _ _ _ s i h ⟨hq,À,È,À⟩ ha QP (Sp.dK (Dm G) k x y ct i).1 _ _ (Sp.dK (Dm G) k x y ct i).2.2 _ _ (λW' hW'=>Qu C G T F false W' i hW' hi (kU _ _)) (λW' wF Kz=>iD F W' _ (hk.trans wF) Kz hci.1 (kU _ _)) hs (vm _ hci.1) ?_;rw[hnext];rfl
  have N0:Hid (sR (Kr G) (Sp.dK (Dm G) k x y ct) body s (mU (Dm G) C.iL (Sp.dK (Dm G) k x y ct) body s) C.narrow (Sp.fixF (Dm G) next C.ao (Dm G).fuel 1 s)):=by rw[hnext];exact sR.start (P:=C.iL) zM vm rfl Kl hs
  have NON:Hid (∀n sj,sR (Kr G) (Sp.dK (Dm G) k x y ct) body s (mU (Dm G) C.iL (Sp.dK (Dm G) k x y ct) body s) (n+1) sj->sR (Kr G) (Sp.dK (Dm G) k x y ct) body s (mU (Dm G) C.iL (Sp.dK (Dm G) k x y ct) body s) n (o6 (Dm G) (Dm G).narrow sj (next sj))/\(sj=M∨∃e e',sj=Y e/\next sj=Y e'/\(∀k,G.Wv (e k))/\(∀k,G.Wv (e' k)))):=λn sj h=>by rw[hnext];exact sR.on zM vm hs h
  obtain⟨ο,hU⟩:∃ο,mU (Dm G) C.iL (Sp.dK (Dm G) k x y ct) body s=ο:=⟨_,rfl⟩;rw[hU]at N0 NON⊢;have HWD:Hid (∀W kq,aP C G T F W->w.heap.size<=kq->lk G (G.wk C false) (Cb p k tl ul tr ur av nv cv) (G.wk C b) (G.aQ s) kq (w.heap.size+1) w.heap.size (w.heap.size+1+1) W->aB C w W->Calls _ _ _ W _):=λW kq hW hq QP hk=>
   mL C G T F b W s hs hW (ρ (Y ⟨kq,0,M⟩)) (ρ (Y ⟨w.heap.size+1,0,M⟩)) (ρ (Y ⟨w.heap.size,0,M⟩)) (ρ (Y ⟨w.heap.size+1+1,0,M⟩)) next ZT WH (λW' i wF Kz hi=>jX.out W' kq i hq (QP.bH h ⟨hq,À,È,À⟩ wF) (hk.trans wF) Kz hi)
  have HQU:Hid (∀W,Calls _ _ _ W _):=λW=>D4 (G:=G) C b W
  have fH:=G.du C b;have ZV:=G.du C false;have kL:=G.mj C b;have hw3:(G.wk C b)[3]?=Y (I O (C.narrow:Nat)):=rfl;have hwo:=G.UN C false;have X1:=G.aG s;generalize G.wk C false=wq at*;generalize G.wk C b=wa at*;generalize G.aQ s=sa at*;obtain⟨ic,hic⟩:∃ic,ic=Cb p k tl ul tr ur av nv cv:=⟨_,rfl⟩;rw[<-hic]at jX HWD⊢;obtain⟨k0,k1,k2,k3,kb⟩:=cN (w:=w) (o1:=L wa (G.ix 171 154)) (o2:=L ic 290) (o3:=L sa (G.ix 174 157)) (o4:=L G.zS (G.ix 174 157)) Å;have K0:=hid k0;have K1:=hid k1;have K2:=hid k2;have K3:=hid k3;have HB:=hid kb;have HA:=hid h;clear h hs Qu zM vm Kl iD hnext ZT WH hU k0 k1 k2 k3 kb hic;try dsimp only[aw.ix,aw.kd]
  first|go_enter func203,ntmps203|go_enter func197,ntmps197
  go_wp2_with (first
   |(refine cR (G:=G) rfl _ rfl rfl K0.out fH ?_))
  refine(HQU.out _).mono ?_;rintro r w1⟨rfl,b1⟩;obtain⟨t1,t2,tb⟩:=O3 (G:=G) w1 wq ZV;have ea:w.heap.size+1+1+1<w1.heap.size:=Nat.lt_of_lt_of_le (ah K3.out) b1.size;have I4:=hid t1;have bb:=λk (hk:k<w1.heap.size)=>tb.block k hk
  have bw:ω w ((w1.alloc (L j9 (G.ix 171 154))).setCells w1.heap.size 0 wq.toList):=(HB.trans (b1.mono HB.size)).trans (tb.mono À);have H2:Hid (mF C G T F w wa ic sa wq w1.heap.size ((w1.alloc (L j9 (G.ix 171 154))).setCells w1.heap.size 0 wq.toList)):=
   ⟨HA.call bw,aB.aF bw HA.le,⟨t2,(tb.block _ À).trans ((b1.block _ (ah K1.out)).trans K1.out),(tb.block _ À).trans ((b1.block _ (ah K0.out)).trans K0.out),(tb.block _ À).trans ((b1.block _ (ah K2.out)).trans K2.out)⟩,(tb.block _ À).trans ((b1.block _ (ah K3.out)).trans K3.out)⟩
  have Um:=hid H2.c.o;have TA:=hid H2.c.s;clear t1 t2 tb bb bw b1;go_wp2_with (first
   |(refine VU (G:=G) rfl _ _ rfl rfl rfl (by exact I4.out) rfl ZV hwo ?_)
   |(refine cR (G:=G) rfl _ rfl rfl (by exact Um.out) fH ?_)
   |(refine bR (G:=G) rfl _ rfl rfl (by exact TA.out) X1 ?_))
  generalize (w1.alloc (L j9 (G.ix 171 154))).setCells w1.heap.size 0 wq.toList=w2 at*;refine(HWD.out w2 w1.heap.size H2.a À H2.c H2.k).mono ?_;obtain⟨s0,Uw⟩:∃s0,Sp.fixF (Dm G) next C.ao (Dm G).fuel 1 s=s0:=⟨_,rfl⟩;rw[Uw]at N0⊢;obtain⟨x0,xy⟩:∃x0,x0=G.aQ s0:=⟨_,rfl⟩;have HX0:=hid xy;have fV:x0.size=17:=by rw[xy];exact G.aG s0
  have x1:x0.all (·.oneCell')=true:=by rw[xy];exact G.aZ s0
  rw[<-xy];rintro r w3⟨rfl,a3,b3⟩;obtain⟨t1,t2,tb⟩:=JT (G:=G) w3 x0 fV;have H3:Hid (mF C G T F w wa ic sa wq w1.heap.size w3):=H2.bH HA.out À a3 b3;have qZ:w1.heap.size<w3.heap.size:=ah H3.c.q;have H4:Hid (mF C G T F w wa ic sa wq w1.heap.size ((w3.alloc (L G.zS (G.ix 174 157))).setCells w3.heap.size 0 x0.toList)/\((w3.alloc (L G.zS (G.ix 174 157))).setCells w3.heap.size 0 x0.toList).heap[w3.heap.size]?=Y (L x0 (G.ix 174 157))):=⟨H3.call tb,t2⟩;have DF:=hid t1;have c3:=cell_of H4.1.c.o 3 hw3;clear t1 t2 tb a3 b3 Uw xy H2 H3 Um TA I4 HWD HQU;go_wp2_with (first
   |(refine cy (G:=G) rfl _ _ rfl rfl rfl (by exact DF.out) rfl fV x1 ?_))
  generalize (w3.alloc (L G.zS (G.ix 174 157))).setCells w3.heap.size 0 x0.toList=W4 at*;generalize w1.heap.size=kq at*;generalize w3.heap.size=ki at*;clear c3
  go_loopw [20] (λv20 wr=>∃(j n:Nat) (sj:ST) (xj:Array Value),n+j=C.narrow/\v20=I O j/\Hid (mF C G T F w wa ic sa wq kq wr/\wr.heap[ki]?=Y (L xj (G.ix 174 157)))/\Hid (sR (Kr G) (Sp.dK (Dm G) k x y ct) body s ο n sj)/\Hid (xj=G.aQ sj)) (λv20 _=>C.narrow-(intOf v20).toNat)
  case atStart=>exact⟨0,C.narrow,s0,x0,rfl,rfl,H4,N0,HX0⟩
  case round=>
   obtain⟨j,n,sj,xj,hnj,rfl,hq,Th,hx⟩:=hrel;clear H4 N0 HX0 DF;have fV:xj.size=17:=by rw[hx.out];exact G.aG sj
   have x1:xj.all (·.oneCell')=true:=by rw[hx.out];exact G.aZ sj
   have HX:Hid (_=_):=hq.2;have HZ:=hid hq.1.z;cases n with
   |zero=>
    obtain rfl:j=C.narrow:=À;have hE:Hid (sj=ο):=Th.eq;have je:Hid (_=_):=ar hq.1.z (d:=xj) (by rw[fV];rfl);have ia:Hid (Below w.heap.size wr _):=au (b:=w.heap.size+1+1+1) À xj.toList 0 wr _ Å;go_wp2_with (first
     |(refine bR (G:=G) rfl _ rfl rfl HX.out fV ?_)
     |(refine cy (G:=G) rfl _ _ rfl rfl rfl HZ.out rfl fV x1 ?_))
    refine Ç (aU rfl _ _ rfl je.out fV) rfl ?_;rw[<-hE.out,<-hx.out];exact⟨rfl,HA.upon hq.1.a ia.out,aB.upon HA.out hq.1.k ia.out⟩
   |succ n=>
    have Ga:((j:Nat):Int)<((C.narrow:Nat):Int):=À;obtain⟨Dp,wI⟩:=NON.out n sj Th.out;obtain⟨nx,fD⟩:∃nx,nx=G.aQ (next sj):=⟨_,rfl⟩;obtain⟨va,hva⟩:∃va,va=G.aQ (o6 (Dm G) (Dm G).narrow sj (next sj)):=⟨_,rfl⟩;have oO:va.size=17:=by rw[hva];exact G.aG _
    have v1:va.all (·.oneCell')=true:=by rw[hva];exact G.aZ _
    have MO:Hid (∀W,mF C G T F w wa ic sa wq kq W->Calls prog (G.ix 221 218) #[J xj,ρ (Y ⟨kq,0,M⟩),ρ (Y ⟨w.heap.size+1,0,M⟩),ρ (Y ⟨w.heap.size,0,M⟩),ρ (Y ⟨w.heap.size+1+1,0,M⟩)] W λe w'=>e=υ (J nx)/\mF C G T F w wa ic sa wq kq w'/\aB C W w'):=λW hW=>by have:=jX.out W kq sj À hW.c hW.k hW.a Th.wf;rw[<-hx.out,<-fD]at this;exact this.mono λe w' q=>⟨q.1,hW.bH HA.out À q.2.1 q.2.2,q.2.2⟩
    have HW:Hid (∀W,mF C G T F w wa ic sa wq kq W->Calls prog (G.ix 123 118) #[J xj,J nx,.func (Fn.method "Narrow") #[σ (G.ix 92 87) C.dv] #[]] W λr w'=>r=υ (J va)/\ω W w'):=λW hW=>by
     rcases wI with e1|⟨e,e',e1,e2,w1,w2⟩
     .have h0:xj[0]?=Y (U false):=by rw[hx.out,e1];rfl
      have:=L9 (G:=G) (.func (Fn.method "Narrow") #[σ (G.ix 92 87) C.dv] #[]) xj nx W h0;rw[hva,e1];exact this
     .have:=Da C.dv e e' W hW.a.does w1 w2
      rw[hx.out,fD,hva,e1,<-e1,e2,e1];exact this
    have I2:=hid Dp;have Tb:=hid hva;clear Dp wI fD hva;go_wp2_with fail;have H1:Hid (mF C G T F w wa ic sa wq kq wr.drew):=hq.1.call (Å).drew;have hd:wr.drew.heap[ki]?=Y (L xj (G.ix 174 157)):=HX.out;refine wp_region_held_drew (S:=λw':Wd=>mF C G T F w wa ic sa wq kq w'/\∃c:Array Value,c.size=17/\w'.heap[ki]?=Y (L c (G.ix 174 157))) Ã ⟨H1.out,xj,fV,HX.out⟩ (λaa=>?_);refine tq 1 (.func (.func (G.ix 221 218)) #[] #[ρ (Y ⟨kq,0,M⟩),ρ (Y ⟨w.heap.size+1,0,M⟩),ρ (Y ⟨w.heap.size,0,M⟩),ρ (Y ⟨w.heap.size+1+1,0,M⟩)]) aa ?_;refine tq 4 (ρ (Y ⟨w.heap.size,0,M⟩)) aa ?_;refine tk 5 (σ (G.ix 92 87) C.dv) rfl (λw' h=>by have d0:=cell_of h.1.c.o 0 kL;go_simp) aa ?_;refine tq 6 (σ (G.ix 92 87) C.dv) aa ?_;refine tq 7 (.func (Fn.method "Narrow") #[σ (G.ix 92 87) C.dv] #[]) aa ?_;refine zZ 0 2 ?_ ?_
    .intro K hK
     simp only[bG,gd];rw[Á Ê];refine zf (G:=G) _ rfl rfl (aT (by exact hd)) fV ?_;simp only[Act.put];refine hK.out _ _ aa (λaa=>?_);clear hK K;refine bP 2 λK hK=>?_
     simp only[bG,gd];rw[Á Ê];refine zf (G:=G) _ rfl rfl (aT (by exact hd)) fV ?_;simp only[Act.put];refine hK.out _ _ aa (λaa=>?_);clear hK K;refine bP 3 λK hK=>?_
     simp only[bG,gd];go_simp;refine(MO.out _ aa.1).mono ?_;rintro r w5⟨rfl,hh,b3⟩;go_wp2_with fail;have MZ:w5.heap[ki]?=Y (L xj (G.ix 174 157)):=b3.bf HA.out À hd;refine hK.out _ _ ⟨hh,xj,fV,MZ⟩ (λaa=>?_);clear hK K b3 hh;refine bP 8 λK hK=>?_
     simp only[bG];go_simp;refine(HW.out _ aa.1).mono ?_;rintro r w6⟨rfl,b6⟩;go_wp2_with fail;have hz:w6.heap[ki]?=Y (L xj (G.ix 174 157)):=(b6.block _ (ah MZ)).trans MZ;have hh:=aa.1.call b6;refine hK.out _ _ ⟨hh,xj,fV,hz⟩ (λ_=>?_);clear hK K b6 aa;have ff:=ar hz (d:=va) (by rw[oO,fV]);have BO:=hh.put HA.out ea qZ va.toList;have HQ:Hid (mF C G T F w wa ic sa wq kq (w6.setCells ki 0 va.toList)/\(w6.setCells ki 0 va.toList).heap[ki]?=Y (L va (G.ix 174 157))):=⟨BO,ff⟩;refine bP 9 λK hK=>?_
     rw[Á Ê];refine wp_store_mid _ _ _ rfl _ _ va rfl rfl (by rw[oO,<-fV];exact bO hz) (by rw[eV (G:=G),oO]) v1 ?_;refine hK.out _ _ ⟨BO,va,oO,ff⟩ (λ_=>?_);clear hK K hh BO hz ff;refine wpAnyH_done Ã ?_ _;go_wp2_with fail;exact⟨⟨j+1,n,_,va,À,by go_num,HQ,I2,Tb⟩,by simp[intOf];omega⟩
    .intro K hK
     simp only[bG,gd];rw[Á Ê];refine zf (G:=G) _ rfl rfl (aT (by exact hd)) fV ?_;simp only[Act.put];refine hK.out _ _ aa (λaa=>?_);clear hK K;refine zZ 0 3 ?_ ?_
     .intro K hK
      simp only[List.getElem_toArray,ę,List.setIfInBounds_toArray,List.set_cons_succ,List.set_cons_zero];rw[Á Ê];refine zf (G:=G) _ rfl rfl (aT (by exact hd)) fV ?_;simp only[Act.put];refine hK.out _ _ aa (λaa=>?_);clear hK K;refine bP 3 λK hK=>?_
      simp only[bG,gd];go_simp;refine(MO.out _ aa.1).mono ?_;rintro r w5⟨rfl,hh,b3⟩;go_wp2_with fail;have MZ:w5.heap[ki]?=Y (L xj (G.ix 174 157)):=b3.bf HA.out À hd;refine hK.out _ _ ⟨hh,xj,fV,MZ⟩ (λaa=>?_);clear hK K b3 hh;refine bP 8 λK hK=>?_
      simp only[bG];go_simp;refine(HW.out _ aa.1).mono ?_;rintro r w6⟨rfl,b6⟩;go_wp2_with fail;have hz:w6.heap[ki]?=Y (L xj (G.ix 174 157)):=(b6.block _ (ah MZ)).trans MZ;have hh:=aa.1.call b6;refine hK.out _ _ ⟨hh,xj,fV,hz⟩ (λ_=>?_);clear hK K b6 aa;have ff:=ar hz (d:=va) (by rw[oO,fV]);have BO:=hh.put HA.out ea qZ va.toList;have HQ:Hid (mF C G T F w wa ic sa wq kq (w6.setCells ki 0 va.toList)/\(w6.setCells ki 0 va.toList).heap[ki]?=Y (L va (G.ix 174 157))):=⟨BO,ff⟩;refine bP 9 λK hK=>?_
      rw[Á Ê];refine wp_store_mid _ _ _ rfl _ _ va rfl rfl (by rw[oO,<-fV];exact bO hz) (by rw[eV (G:=G),oO]) v1 ?_;refine hK.out _ _ ⟨BO,va,oO,ff⟩ (λ_=>?_);clear hK K hh BO hz ff;refine wpAnyH_done Ã ?_ _;go_wp2_with fail;exact⟨⟨j+1,n,_,va,À,by go_num,HQ,I2,Tb⟩,by simp[intOf];omega⟩
     .intro K hK
      simp only[bG,gd];go_simp;refine(MO.out _ aa.1).mono ?_;rintro r w5⟨rfl,hh,b3⟩;go_wp2_with fail;have MZ:w5.heap[ki]?=Y (L xj (G.ix 174 157)):=b3.bf HA.out À hd;refine hK.out _ _ ⟨hh,xj,fV,MZ⟩ (λaa=>?_);clear hK K b3 hh;refine bP 0 λK hK=>?_
      simp only[List.getElem_toArray,ę];rw[Á Ê];refine zf (G:=G) _ rfl rfl (aT (by exact MZ)) fV ?_;simp only[Act.put];refine hK.out _ _ aa (λaa=>?_);clear hK K;refine bP 8 λK hK=>?_
      simp only[bG];go_simp;refine(HW.out _ aa.1).mono ?_;rintro r w6⟨rfl,b6⟩;go_wp2_with fail;have hz:w6.heap[ki]?=Y (L xj (G.ix 174 157)):=(b6.block _ (ah MZ)).trans MZ;have hh:=aa.1.call b6;refine hK.out _ _ ⟨hh,xj,fV,hz⟩ (λ_=>?_);clear hK K b6 aa;have ff:=ar hz (d:=va) (by rw[oO,fV]);have BO:=hh.put HA.out ea qZ va.toList;have HQ:Hid (mF C G T F w wa ic sa wq kq (w6.setCells ki 0 va.toList)/\(w6.setCells ki 0 va.toList).heap[ki]?=Y (L va (G.ix 174 157))):=⟨BO,ff⟩;refine bP 9 λK hK=>?_
      rw[Á Ê];refine wp_store_mid _ _ _ rfl _ _ va rfl rfl (by rw[oO,<-fV];exact bO hz) (by rw[eV (G:=G),oO]) v1 ?_;refine hK.out _ _ ⟨BO,va,oO,ff⟩ (λ_=>?_);clear hK K hh BO hz ff;refine wpAnyH_done Ã ?_ _;go_wp2_with fail;exact⟨⟨j+1,n,_,va,À,by go_num,HQ,I2,Tb⟩,by simp[intOf];omega⟩
end
end W
end
end Go.Proofs.YtiopfihjmkfdmabGreatDoor
