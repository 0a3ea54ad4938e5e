import Derived.Test.YtiopfihjmkfdmaaGreatDoorB15
import Derived.Deep.CutRange
namespace Go.Proofs.YtiopfihjmkfdmaaGreatDoor
open Go.Proofs.Tryz Sp
open Go.RowKit
set_option maxRecDepth 100000
set_option maxHeartbeats 16000000
namespace WI
section
variable{C:Cx}
variable{π:bO}
variable{T:gB}
variable{F F0 F':Fd}
variable{w W W' w1 w2 w':Wd}
variable{wa xa ja xj c d ic sa wq oa:Array Value}
variable{p b kq lo hi:Nat}
variable{ops:Array Oper}
variable{rest:List Oper}
variable{op:Oper}
variable{a:Act}
variable{v m ky vv:Value}
variable{t:TypeId}
variable{vals:Array (Nat × Value)}
structure iJ(C:Cx)(π:bO)(T:gB)(F:Fd)(w:Wd)(wa xa:Array Value)(W:Wd):Prop where
 a:aM C π T F W
 k:ay C w W
 o:W.heap[w.heap.size]?=some (.cells wa 217)
 x:W.heap[w.heap.size+1]?=some (.cells xa 220)
 z:W.heap[w.heap.size+1+1]?=some (.cells zS 220)
theorem iJ.bF(h0:aM C π T F0 w)(h:iJ C π T F w wa xa W)(ha:aM C π T F W')(hk:ay C W W'):iJ C π T F w wa xa W' :=
 ⟨ha,h.k.trans hk,hk.aW h0 (Nat.le_refl _) h.o,hk.aW h0 (by omega) h.x,hk.aW h0 (by omega) h.z⟩
theorem iJ.call(h:iJ C π T F w wa xa W)(k:Below W.heap.size W W'):iJ C π T F w wa xa W' :=
 ⟨h.a.call k,h.k.trans (ay.aB k h.a.le),(k.block _ (ah h.o)).trans h.o,(k.block _ (ah h.x)).trans h.x,(k.block _ (ah h.z)).trans h.z⟩
theorem iJ.put(h0:aM C π T F0 w)(h:iJ C π T F w wa xa W)(hp:w.heap.size+1+1<p)(d:Array Value):iJ C π T F w wa xa (W.setCells p 0 d.toList):=by have hb:Below w.heap.size W (W.setCells p 0 d.toList):=au (b:=p) (by omega) d.toList 0 W _ (Below.refl _ _);exact⟨h0.upon h.a hb,ay.upon h0 h.k hb,(al _ _ _ _ (by omega)).trans h.o,(al _ _ _ _ (by omega)).trans h.x,(al _ _ _ _ (by omega)).trans h.z⟩
theorem iJ.UW(h0:aM C π T F0 w)(h:iJ C π T F w wa xa W)(d:Array Value)(h1:xa.size=17)(h2:d.size=17):iJ C π T F w wa d (W.setCells (w.heap.size+1) 0 d.toList):=by have hb:Below w.heap.size W (W.setCells (w.heap.size+1) 0 d.toList):=au (b:=w.heap.size+1) (by omega) d.toList 0 W _ (Below.refl _ _);exact⟨h0.upon h.a hb,ay.upon h0 h.k hb,(al _ _ _ _ (by omega)).trans h.o,ar h.x (by rw[h1,h2]),(al _ _ _ _ (by omega)).trans h.z⟩
theorem MJ(x y:Operand)(ja xj:Array Value)(w:Wd):(eqGuard .eql 220 x y (.agg ja) (.agg xj)).run prog w=.ok () w:=by
 have h0:prog.eqGuardType prog.depth 220=false:=by kernel_rfl
 unfold eqGuard;simp[h0,go_sem]
theorem FI{Q:Exit->Act->Wd->Prop}(qI:op.guard=none)(x y:Operand)(ho:op.op=.binOp .eql 220 x y 220)(hx:a.eval x=.agg ja)(hy:a.eval y=.agg xj){r:Bool}(heq:(Op.equal 220 (.agg ja) (.agg xj)).run prog w=.ok r w)
  (k:wpList prog ops Q rest (a.put op.dst (.bool r)) w):wpList prog ops Q (op :: rest) a w :=
 wpList_plain qI fun _ hK=>by unfold Oper.wp execOp;simp only[ho,hx,hy,binOp,Sem.run_bind,Sem.run_pure,Result.andThen_ok,MJ,heq];exact hK _ _ k
theorem Ex(π:bO):(Dm π).fuel<=100000000:=Nat.le_of_ble_eq_true rfl
theorem lk(C:Cx)(π:bO)(T:gB)(F:Fd)(b:Bool)(w:Wd)(s:ST)(hs:Sp.Wf (Kr π) s)(h:aM C π T F w)(c1 c2 c3 c4:Value)(next:ST->ST)(Wk:∀i,Sp.Wf (Kr π) i->Sp.Wf (Kr π) (next i))(h0:s=none->next none=none)
  (hN:∀W i,ay C w W->aM C π T F W->Sp.Wf (Kr π) i->Calls prog 245 #[.agg (aK i),c1,c2,c3,c4] W fun e w'=>e=.returned (.agg (aK (next i)))/\aM C π T F w'/\ay C W w') :
  Calls prog 246 #[.agg (wk C b),.agg (aK s),.func (.func 245) #[] #[c1,c2,c3,c4]] w fun e w'=>e=.returned (.agg (aK (Sp.fixF (Dm π) next C.ao (Dm π).fuel 1 s)))/\aM C π T F w'/\ay C w w':=by
 have eg:=cC C b;have jo:=jy C b;have Ql:(wk C b)[2]?=some (.int .i64 (C.ao:Nat)):=rfl;obtain⟨U,hU⟩:∃U,Sp.fixF (Dm π) next C.ao (Dm π).fuel 1 s=U:=⟨_,rfl⟩;rw[hU];have T0:Hid (pC (Kr π) next C.ao U 1 (Dm π).fuel s):=pC.start hU hs h0;have HN:=hid hN;have HNW:=hid Wk;have HJ:Hid (∀W s t u,aM C π T F W->Sp.jn (Dm π) s t=u->Sp.Wf (Kr π) s->Sp.Wf (Kr π) t->Calls _ _ _ W _):=fun W s t u hW e1 e2 e3=>oO C.dv C.cU C.ao C.narrow C.aj C.th C.m (if b then some ⟨C.fb,0,none⟩ else none) s t u W hW.does e1 e2 e3
 have hfs:=Ex π;generalize rV:wk C b=wa at *;have HWA:=hid rV;obtain⟨xa,oe⟩:∃xa,xa=aK s:=⟨_,rfl⟩;rw[<-oe];have H0:Hid (iJ C π T F w wa xa (((w.alloc (.cells wa 217)).alloc (.cells xa 220)).alloc (.cells zS 220))):=by obtain⟨k0,k1,k2,kb⟩:=bY (w:=w) (o1:=.cells wa 217) (o2:=.cells xa 220) (o3:=.cells zS 220) (Below.refl _ _);exact⟨h.call kb,ay.aB kb h.le,k0,k1,k2⟩
 have HA:=hid h;have N6:=hid oe;clear h hN Wk h0 rV oe hU hs;go_enter func246,ntmps246;go_wp2_with fail;generalize ((w.alloc (.cells wa 217)).alloc (.cells xa 220)).alloc (.cells zS 220)=W0 at *
 go_loopw [7] (fun v7 wr=>∃(k f:Nat) (sj:ST) (xj:Array Value),v7=.int .i64 k/\Hid (iJ C π T F w wa xj wr)/\Hid (pC (Kr π) next C.ao U k f sj)/\Hid (xj=aK sj)) (fun v7 _=>(Dm π).fuel+1 - (intOf v7).toNat)
 case atStart=>exact⟨1,(Dm π).fuel,s,xa,rfl,H0,T0,N6⟩
 case round =>
  obtain⟨k,f,sj,xj,rfl,hq,ht,hx⟩:=hrel;clear H0 T0;have fu:xj.size=17:=by rw[hx.out];exact aF sj
  have x1:xj.all (·.oneCell')=true:=by rw[hx.out];exact aX sj
  obtain⟨nx,eV⟩:∃nx,nx=aK (next sj):=⟨_,rfl⟩;obtain⟨ja,hja⟩:∃ja,ja=aK (Sp.jn (Dm π) sj (next sj)):=⟨_,rfl⟩;have AW:ja.size=17:=by rw[hja];exact aF _
  have j1:ja.all (·.oneCell')=true:=by rw[hja];exact aX _
  have XY:=hid hja;have wj:=ht.wf;have wn:=HNW.out _ wj;have J9:Hid (∀W,iJ C π T F w wa xj W->Calls prog 245 #[.agg xj,c1,c2,c3,c4] W fun e w'=>e=.returned (.agg nx)/\iJ C π T F w wa xj w'/\ay C W w'):=fun W hW=>by have:=HN.out W sj hW.k hW.a wj;rw[<-hx.out,<-eV]at this;exact this.mono fun e w' q=>⟨q.1,hW.bF HA.out q.2.1 q.2.2,q.2.2⟩
  have YH:Hid (∀W,iJ C π T F w wa xj W->Calls prog 116 #[.agg wa,.agg xj,.agg nx] W fun e w'=>e=.returned (.agg ja)/\iJ C π T F w wa xj w'/\ay C W w'):=fun W hW=>by have:=HJ.out W sj (next sj) _ hW.a rfl wj wn;rw[<-hx.out,<-eV,<-hja]at this;have h2:Calls prog 116 #[.agg (wk C b),.agg xj,.agg nx] W _:=this;rw[HWA.out]at h2;exact h2.mono fun e w' q=>⟨q.1,hW.call q.2,ay.aB q.2 hW.a.le⟩
  clear hja eV HJ HN;go_wp2_with fail
  go_cut [8] from 9 (fun v8 wc=>∃p:Nat,v8=.pointer (some ⟨p,0,none⟩)/\Hid (w.heap.size+1+1<p/\iJ C π T F w wa xj wc/\wc.heap[p]?=some (.cells ja 220)))
  case first =>
   have H1:Hid (iJ C π T F w wa xj wr.drew):=hq.call (Below.refl _ _).drew;refine wp_region_held_drew (S:=fun w':Wd=>iJ C π T F w wa xj w') (by kernel_rfl) H1.out (fun aa=>?_);refine mj 0 rfl (yieldsIf_load_mid (by rfl) _ _ rfl _ _ rfl (wa).toList _ (fun w' h=>aT h.o) underlying217 rfl (by rw[fD,Array.length_toList,eg])) aa ?_;refine mj 1 rfl (yieldsIf_load_mid (by rfl) _ _ rfl _ _ rfl (xj).toList _ (fun w' h=>aT h.x) underlying220 rfl (by rw[bP,Array.length_toList,fu])) aa ?_;refine mj 3 rfl (yieldsIf_load_mid (by rfl) _ _ rfl _ _ rfl (xj).toList _ (fun w' h=>aT h.x) underlying220 rfl (by rw[bP,Array.length_toList,fu])) aa ?_;refine tq 2 (.func (.func 245) #[] #[c1,c2,c3,c4]) aa ?_;refine Kn 4 6 ?_ ?_
   ·intro K hK
    simp only[bT,gN,Array.toArray_toList];go_simp;refine(J9.out _ aa).mono ?_;rintro e w1⟨rfl,a1,b1⟩;go_wp2_with fail;refine hK.out _ _ a1 (fun aa=>?_);clear hK K b1 a1;refine Kn 5 6 ?_ ?_
    ·intro K hK
     simp only[bT];go_simp;refine(YH.out _ aa).mono ?_;rintro e w2⟨rfl,a2,b2⟩;go_wp2_with fail;refine hK.out _ _ a2 (fun aa=>?_);clear hK K b2 a2;refine cH 6 fun K hK=>?_
     simp only[bT];have hp:w.heap.size+1+1<w2.heap.size:=ah aa.z;have kb:=below_alloc1 w2 (.cells zS 220);have hz:=heap_alloc_new w2 (.cells zS 220);have hh:=aa.call kb;go_simp;refine hK.out _ _ hh (fun aa=>?_);clear hK K hh;refine cH 7 fun K hK=>?_
     rw[if_pos (by rfl)];refine wp_store_mid _ _ _ rfl _ _ ja rfl rfl (by rw[AW];exact bI hz) (by rw[bP,AW]) j1 ?_;refine hK.out _ _ (aa.put HA.out hp ja) (fun _=>?_);clear hK K;refine wpAnyH_done (by kernel_rfl) ?_ _;go_wp2_with fail;go_meet
     case rel=>exact⟨_,rfl,hp,aa.put HA.out hp ja,ar hz (by rw[AW];rfl)⟩
    ·intro K hK
     simp only[bT];have hp:w.heap.size+1+1<w1.heap.size:=ah aa.z;have kb:=below_alloc1 w1 (.cells zS 220);have hz:=heap_alloc_new w1 (.cells zS 220);have hh:=aa.call kb;clear kb;go_simp;refine hK.out _ _ hh (fun aa=>?_);clear hK K hh;refine cH 5 fun K hK=>?_
     simp only[bT];go_simp;refine(YH.out _ aa).mono ?_;rintro e w2⟨rfl,hh,b2⟩;have hz:=b2.aW HA.out (by omega) hz;clear b2;go_wp2_with fail;refine hK.out _ _ hh (fun aa=>?_);clear hK K hh;refine cH 7 fun K hK=>?_
     rw[if_pos (by rfl)];refine wp_store_mid _ _ _ rfl _ _ ja rfl rfl (by rw[AW];exact bI hz) (by rw[bP,AW]) j1 ?_;refine hK.out _ _ (aa.put HA.out hp ja) (fun _=>?_);clear hK K;refine wpAnyH_done (by kernel_rfl) ?_ _;go_wp2_with fail;go_meet
     case rel=>exact⟨_,rfl,hp,aa.put HA.out hp ja,ar hz (by rw[AW];rfl)⟩
   ·intro K hK
    simp only[bT,gN,Array.toArray_toList];have hp:w.heap.size+1+1<wr.drew.heap.size:=ah aa.z;have kb:=below_alloc1 wr.drew (.cells zS 220);have hz:=heap_alloc_new wr.drew (.cells zS 220);have hh:=aa.call kb;clear kb;go_simp;refine hK.out _ _ hh (fun aa=>?_);clear hK K hh;refine cH 4 fun K hK=>?_
    simp only[bT];go_simp;refine(J9.out _ aa).mono ?_;rintro e w1⟨rfl,hh,b1⟩;have hz:=b1.aW HA.out (by omega) hz;clear b1;go_wp2_with fail;refine hK.out _ _ hh (fun aa=>?_);clear hK K hh;refine cH 5 fun K hK=>?_
    simp only[bT];go_simp;refine(YH.out _ aa).mono ?_;rintro e w2⟨rfl,hh,b2⟩;have hz:=b2.aW HA.out (by omega) hz;clear b2;go_wp2_with fail;refine hK.out _ _ hh (fun aa=>?_);clear hK K hh;refine cH 7 fun K hK=>?_
    rw[if_pos (by rfl)];refine wp_store_mid _ _ _ rfl _ _ ja rfl rfl (by rw[AW];exact bI hz) (by rw[bP,AW]) j1 ?_;refine hK.out _ _ (aa.put HA.out hp ja) (fun _=>?_);clear hK K;refine wpAnyH_done (by kernel_rfl) ?_ _;go_wp2_with fail;go_meet
    case rel=>exact⟨_,rfl,hp,aa.put HA.out hp ja,ar hz (by rw[AW];rfl)⟩
  case rest =>
   obtain⟨p,rfl,hp⟩:=hcut;have HP:=hid hp.2.2;have HX:Hid (_=_):=hp.2.1.x;have HZ:=hid hp.2.1.z;have HL:=hid hp.1;clear J9 YH;cases Qq:D3 (Dm π) (Sp.jn (Dm π) sj (next sj)) sj with
   | true =>
    have heq:Hid (∀w,(Op.equal 220 (.agg ja) (.agg xj)).run prog w=.ok true w):=fun w=>by have:=QI (π:=π) (kK wj wn) wj w;rw[Qq,<-XY.out,<-hx.out]at this;exact this
    have hE:Hid (sj=U):=ht.end Qq;have gA:Hid (_=_):=ar hp.2.1.z (d:=xj) (by rw[fu];rfl);have fH:Hid (Below w.heap.size wc _):=au (b:=w.heap.size+1+1) (by omega) xj.toList 0 wc _ (Below.refl _ _);go_wp2_with (first
     | (refine bt rfl _ rfl rfl HP.out AW ?_)
     | (refine bt rfl _ rfl rfl HX.out fu ?_)
     | (refine FI rfl _ _ rfl rfl rfl (heq.out _) ?_)
     | (refine bV rfl _ _ rfl rfl rfl HZ.out rfl fu x1 ?_))
    refine bodyPost_ret (aN results246 _ _ rfl gA.out fu) rfl ?_;rw[<-hE.out,<-hx.out];exact⟨rfl,HA.upon hp.2.1.a fH.out,ay.upon HA.out hp.2.1.k fH.out⟩
   | false =>
    have heq:Hid (∀w,(Op.equal 220 (.agg ja) (.agg xj)).run prog w=.ok false w):=fun w=>by have:=QI (π:=π) (kK wj wn) wj w;rw[Qq,<-XY.out,<-hx.out]at this;exact this
    obtain⟨e,n,f',Yq,px,Ro,WG,hff,A7⟩:=ht.on HNW.out Qq;have FU:=hid A7;have hkf:k<=(Dm π).fuel:=by have:=ht.sum;omega
    have d2:=cell_of hp.2.1.o 2 Ql;clear Qq A7;by_cases hdk:C.ao<k
    ·have hdi:((C.ao:Nat):Int)<((k:Nat):Int):=by omega
     obtain⟨va,hva⟩:∃va,va=aK (om (Dm π) next C.ao k sj):=⟨_,rfl⟩;have nY:va.size=17:=by rw[hva];exact aF _
     have v1:va.all (·.oneCell')=true:=by rw[hva];exact aX _
     have HW:Hid (∀W,iJ C π T F w wa xj W->Calls prog 162 #[.agg xj,.agg ja,.func (Fn.method "Widen") #[.iface 133 C.dv] #[]] W fun r w'=>r=.returned (.agg va)/\Below W.heap.size W w'):=fun W hW=>by
      have:=CW C.dv e n W hW.a.does px WG;have e1:nE (Dm π) (Dm π).widen (some e) (some n)=om (Dm π) next C.ao k sj:=by unfold om;rw[if_pos hdk,Ro,Yq]
      have e2:ja=aK (some n):=XY.trans (congrArg aK Ro);have e3:xj=aK (some e):=hx.trans (congrArg aK Yq);rw[e1,<-hva,<-e2,<-e3]at this;exact this
     have P5:=hid hva;clear hva;go_wp2_with (first
      | (refine bt rfl _ rfl rfl HP.out AW ?_)
      | (refine bt rfl _ rfl rfl HX.out fu ?_)
      | (refine FI rfl _ _ rfl rfl rfl (heq.out _) ?_))
     go_cut [8] from 9 (fun v8 wd=>v8=.pointer (some ⟨p,0,none⟩)/\Hid (iJ C π T F w wa xj wd/\wd.heap[p]?=some (.cells va 220)))
     case first =>
      have H1:Hid (iJ C π T F w wa xj wc.drew):=hp.2.1.call (Below.refl _ _).drew;refine wp_region_held_drew (S:=fun w':Wd=>iJ C π T F w wa xj w'/\∃c:Array Value,c.size=17/\w'.heap[p]?=some (.cells c 220)) (by kernel_rfl) ⟨H1.out,ja,AW,HP.out⟩ (fun aa=>?_);refine mj 0 rfl (yieldsIf_load_mid (by rfl) _ _ rfl _ _ rfl (xj).toList _ (fun w' h=>aT h.1.x) underlying220 rfl (by rw[bP,Array.length_toList,fu])) aa ?_;refine tq 2 (.pointer (some ⟨w.heap.size,0,none⟩)) aa ?_;refine tk 3 (.iface 133 C.dv) rfl (fun w' h=>by have d0:=cell_of h.1.o 0 jo;go_simp) aa ?_;refine tq 4 (.iface 133 C.dv) aa ?_;refine tq 5 (.func (Fn.method "Widen") #[.iface 133 C.dv] #[]) aa ?_;refine cH 1 fun K hK=>?_
      simp only[bT,gN,Array.toArray_toList];rw[if_pos (by rfl)];refine vG _ rfl rfl (aT HP.out) AW ?_;simp only[Act.put];refine hK.out _ _ aa (fun aa=>?_);clear hK K;refine cH 6 fun K hK=>?_
      simp only[bT,gN];go_simp;refine(HW.out _ aa.1).mono ?_;rintro r w1⟨rfl,b1⟩;go_wp2_with fail;have hz:w1.heap[p]?=some (.cells ja 220):=(b1.block _ (ah HP.out)).trans HP.out;have hh:=aa.1.call b1;refine hK.out _ _ ⟨hh,ja,AW,hz⟩ (fun _=>?_);clear hK K b1 aa;refine cH 7 fun K hK=>?_
      rw[if_pos (by rfl)];refine wp_store_mid _ _ _ rfl _ _ va rfl rfl (by rw[nY,<-AW];exact bI hz) (by rw[bP,nY]) v1 ?_;have ek:=ar hz (d:=va) (by rw[nY,AW]);have zi:=hh.put HA.out HL.out va;refine hK.out _ _ ⟨zi,va,nY,ek⟩ (fun _=>?_);clear hK K;refine wpAnyH_done (by kernel_rfl) ?_ _;go_wp2_with fail;go_meet
      case rel=>exact⟨rfl,zi,ek⟩
     case rest =>
      obtain⟨rfl,hr⟩:=hcut;have HP2:=hid hr.2;have xt:=hid hr.1.x;have HQ:Hid (iJ C π T F w wa va (wc.setCells (w.heap.size+1) 0 va.toList)):=hr.1.UW HA.out va fu nY;go_wp2_with (first
       | (refine bt rfl _ rfl rfl HP2.out nY ?_)
       | (refine bV rfl _ _ rfl rfl rfl xt.out fu nY v1 ?_))
      exact⟨⟨k+1,f',_,va,by go_num,HQ,FU,P5⟩,by simp[intOf];omega⟩
    ·have hdi:¬ ((C.ao:Nat):Int)<((k:Nat):Int):=by omega
     have XD:Hid (ja=aK (om (Dm π) next C.ao k sj)):=by unfold Hid om;rw[if_neg hdk];exact XY.out
     have HQ:Hid (iJ C π T F w wa ja (wc.setCells (w.heap.size+1) 0 ja.toList)):=hp.2.1.UW HA.out ja fu AW;go_wp2_with (first
      | (refine bt rfl _ rfl rfl HP.out AW ?_)
      | (refine bt rfl _ rfl rfl HX.out fu ?_)
      | (refine FI rfl _ _ rfl rfl rfl (heq.out _) ?_)
      | (refine bV rfl _ _ rfl rfl rfl HX.out fu AW j1 ?_))
     exact⟨⟨k+1,f',_,ja,by go_num,HQ,FU,XD⟩,by simp[intOf];omega⟩
theorem Sz{Q:Exit->Act->Wd->Prop}(qI:op.guard=none)(x y:Operand)(ho:op.op=.store 217 x y)(hx:a.eval x=.pointer (some ⟨b,0,none⟩))(hy:a.eval y=.agg d)(h:Bk w b c 217)(hc:c.size=8)(hd:d.size=8)(h1:d.all (·.oneCell')=true)
  (k:wpList prog ops Q rest (a.put op.dst undef) (w.setCells b 0 d.toList)):wpList prog ops Q (op :: rest) a w :=
 wpList_plain qI fun _ hK=>wp_store_mid 217 x y ho b 0 d hx hy (by rw[hd,<-hc];exact bI h) (by rw[fD,hd]) h1 (hK _ _ k)
theorem Ss(C:Cx)(b:Bool):(wk C b).all (·.oneCell')=true:=by unfold wk xY;simp[Value.oneCell']
theorem Gr(w:Wd)(u:Array Value)(h:u.size=17) :
  (w.alloc (.cells zS 220)).heap[w.heap.size]?=some (.cells zS 220) /\
  ((w.alloc (.cells zS 220)).setCells w.heap.size 0 u.toList).heap[w.heap.size]?=some (.cells u 220) /\
  Below w.heap.size w ((w.alloc (.cells zS 220)).setCells w.heap.size 0 u.toList):=by
 have a1:=heap_alloc_new w (.cells zS 220);exact⟨a1,ar a1 (by rw[h];rfl),au (Nat.le_refl _) _ _ _ _ (below_alloc1 w _)⟩
abbrev je:Array Value:=#[.nilIface,.int .i64 0,.int .i64 0,.int .i64 0,.int .i64 0,.bool false,.map none,.pointer none]
theorem KM(w:Wd)(u:Array Value)(h:u.size=8) :
  (w.alloc (.cells je 217)).heap[w.heap.size]?=some (.cells je 217) /\
  ((w.alloc (.cells je 217)).setCells w.heap.size 0 u.toList).heap[w.heap.size]?=some (.cells u 217) /\
  Below w.heap.size w ((w.alloc (.cells je 217)).setCells w.heap.size 0 u.toList):=by
 have a1:=heap_alloc_new w (.cells je 217);exact⟨a1,ar a1 (by rw[h];rfl),au (Nat.le_refl _) _ _ _ _ (below_alloc1 w _)⟩
def D2(C:Cx)(π:bO)(T:gB)(b:Bool)(w:Wd)(v:Value)(body:ST->List cr × ST):Prop :=
 ∀F W s,ay C w W->aM C π T F W->Sp.Wf (Kr π) s->df b F (body s).1->Calls prog 82 #[.agg (wk C b),v,.agg (aK s)] W (fF C π T F b W (body s).1 (body s).2)
structure lB(C:Cx)(π:bO)(T:gB)(F:Fd)(w:Wd)(wa ic sa wq:Array Value)(kq:Nat)(W:Wd):Prop where
 a:aM C π T F W
 k:ay C w W
 c:jS wq ic wa sa kq (w.heap.size+1) w.heap.size (w.heap.size+1+1) W
 z:W.heap[w.heap.size+1+1+1]?=some (.cells zS 220)
theorem lB.call(h:lB C π T F w wa ic sa wq kq W)(k:Below W.heap.size W W'):lB C π T F w wa ic sa wq kq W' :=
 ⟨h.a.call k,h.k.trans (ay.aB k h.a.le),h.c.call k,(k.block _ (ah h.z)).trans h.z⟩
theorem lB.bF(h0:aM C π T F0 w)(hq:w.heap.size<=kq)(h:lB C π T F w wa ic sa wq kq W)(ha:aM C π T F W')(hk:ay C W W'):lB C π T F w wa ic sa wq kq W' :=
 ⟨ha,h.k.trans hk,h.c.bF h0 ⟨hq,by omega,Nat.le_refl _,by omega⟩ hk,hk.aW h0 (by omega) h.z⟩
theorem lB.put(h0:aM C π T F0 w)(h:lB C π T F w wa ic sa wq kq W)(hq:w.heap.size+1+1+1<kq)(hp:kq<p)(l:List Value):lB C π T F w wa ic sa wq kq (W.setCells p 0 l):=by have hb:Below w.heap.size W (W.setCells p 0 l):=au (b:=p) (by omega) l 0 W _ (Below.refl _ _);exact⟨h0.upon h.a hb,ay.upon h0 h.k hb,h.c.put (by omega) l,(al _ _ _ _ (by omega)).trans h.z⟩
theorem IN(p:Int)(k:Nat)(tl:TypeId)(ul:Value)(tr:TypeId)(ur:Value)(av:Option Addr)(nv cv:Nat)(x y:Sp.Sm)(ct:Sp.Ct)(body:ST->List cr × ST)(C:Cx)(π:bO)(T:gB)(F:Fd)(b:Bool)(w:Wd)(s:ST)(h:aM C π T F w)(hs:Sp.Wf (Kr π) s)
  (NC:Ec (.iface tl ul) (.iface tr ur) k x y ct) (yi:fO (Kr π) (Sp.dC (Dm π) k x y ct)) (uV:fg (Kr π) body) (Hi:qe (D:=Dm π) body) (gU:D2 C π T false w (.slice av nv cv) body) (xw:C.narrow<=1000) :
  Calls prog 229 #[.agg (wk C b),.agg (An p k tl ul tr ur av nv cv),.agg (aK s)] w fun e w'=>e=.returned (.agg (aK (lL (Dm π) C.hI (Sp.dC (Dm π) k x y ct) body s)))/\aM C π T F w'/\ay C w w':=by
 obtain⟨next,hnext⟩:∃next:ST->ST,next=fun i=>jv (Dm π) (Sp.dC (Dm π) k x y ct) body s i:=⟨_,rfl⟩
 have Wk:∀i,Sp.Wf (Kr π) i->Sp.Wf (Kr π) (next i):=fun i hi=>by rw[hnext];exact vh yi uV hs hi
 have Wb:s=none->next none=none:=fun e=>by rw[hnext];exact Lc (D:=Dm π) (cond:=Sp.dC (Dm π) k x y ct) (show sE (Sp.dC (Dm π) k x y ct) from rfl) Hi e
 have jd:Hid (∀W kq i,w.heap.size<=kq->jS (wk C false) (An p k tl ul tr ur av nv cv) (wk C b) (aK s) kq (w.heap.size+1) w.heap.size (w.heap.size+1+1) W->ay C w W->aM C π T F W->Sp.Wf (Kr π) i ->
   Calls prog 245 #[.agg (aK i),.pointer (some ⟨kq,0,none⟩),.pointer (some ⟨w.heap.size+1,0,none⟩),.pointer (some ⟨w.heap.size,0,none⟩),.pointer (some ⟨w.heap.size+1+1,0,none⟩)] W fun e w'=>e=.returned (.agg (aK (next i)))/\aM C π T F w'/\ay C W w'):=fun W kq i hq Nz hk ha hi=>by
  have hci:=yi i hi;refine EP p k tl ul tr ur av nv cv C π T F F b w W kq _ _ _ s i h ⟨hq,by omega,Nat.le_refl _,by omega⟩ ha Nz (Sp.dC (Dm π) k x y ct i).1 _ _ (Sp.dC (Dm π) k x y ct i).2.2 _ _ (fun W' Zn=>NC C π T F false W' i Zn hi (jH _ _)) (fun W' tS Hd=>gU F W' _ (hk.trans tS) Hd hci.1 (jH _ _)) hs (uV _ hci.1) ?_;rw[hnext];rfl
 have N0:Hid (rB (Kr π) (Sp.dC (Dm π) k x y ct) body s (lL (Dm π) C.hI (Sp.dC (Dm π) k x y ct) body s) C.narrow (Sp.fixF (Dm π) next C.ao (Dm π).fuel 1 s)):=by rw[hnext];exact rB.start (P:=C.hI) yi uV rfl Hi hs
 have NON:Hid (∀n sj,rB (Kr π) (Sp.dC (Dm π) k x y ct) body s (lL (Dm π) C.hI (Sp.dC (Dm π) k x y ct) body s) (n+1) sj->rB (Kr π) (Sp.dC (Dm π) k x y ct) body s (lL (Dm π) C.hI (Sp.dC (Dm π) k x y ct) body s) n (nE (Dm π) (Dm π).narrow sj (next sj))/\(sj=none∨∃e e',sj=some e/\next sj=some e'/\(∀k,Wv (e k))/\(∀k,Wv (e' k)))):=fun n sj h=>by rw[hnext];exact rB.on yi uV hs h
 obtain⟨U,hU⟩:∃U,lL (Dm π) C.hI (Sp.dC (Dm π) k x y ct) body s=U:=⟨_,rfl⟩;rw[hU]at N0 NON ⊢;have HWD:Hid (∀W kq,aM C π T F W->w.heap.size<=kq->jS (wk C false) (An p k tl ul tr ur av nv cv) (wk C b) (aK s) kq (w.heap.size+1) w.heap.size (w.heap.size+1+1) W->ay C w W->Calls _ _ _ W _):=fun W kq hW hq Nz hk =>
  lk C π T F b W s hs hW (.pointer (some ⟨kq,0,none⟩)) (.pointer (some ⟨w.heap.size+1,0,none⟩)) (.pointer (some ⟨w.heap.size,0,none⟩)) (.pointer (some ⟨w.heap.size+1+1,0,none⟩)) next Wk Wb (fun W' i tS Hd hi=>jd.out W' kq i hq (Nz.bF h ⟨hq,by omega,Nat.le_refl _,by omega⟩ tS) (hk.trans tS) Hd hi)
 have HQU:Hid (∀W,Calls _ _ _ W _):=fun W=>CR C b W
 have eg:=cC C b;have Xa:=cC C false;have jo:=jy C b;have hw3:(wk C b)[3]?=some (.int .i64 (C.narrow:Nat)):=rfl;have hwo:=Ss C false;have Uu:=aF s;generalize wk C false=wq at *;generalize wk C b=wa at *;generalize aK s=sa at *;obtain⟨ic,hic⟩:∃ic,ic=An p k tl ul tr ur av nv cv:=⟨_,rfl⟩;rw[<-hic]at jd HWD ⊢;obtain⟨k0,k1,k2,k3,kb⟩:=bM (w:=w) (o1:=.cells wa 217) (o2:=.cells ic 293) (o3:=.cells sa 220) (o4:=.cells zS 220) (Below.refl _ _);have K0:=hid k0;have K1:=hid k1;have K2:=hid k2;have K3:=hid k3;have HB:=hid kb;have HA:=hid h;clear h hs NC yi uV Hi gU hnext Wk Wb hU k0 k1 k2 k3 kb hic;go_enter func229,ntmps229;go_wp2_with (first
  | (refine cm rfl _ rfl rfl K0.out eg ?_))
 refine(HQU.out _).mono ?_;rintro r w1⟨rfl,b1⟩;obtain⟨t1,t2,tb⟩:=KM w1 wq Xa;have dI:w.heap.size+1+1+1<w1.heap.size:=Nat.lt_of_lt_of_le (ah K3.out) b1.size;have F6:=hid t1;have bb:=fun k (hk:k<w1.heap.size)=>tb.block k hk
 have bw:Below w.heap.size w ((w1.alloc (.cells je 217)).setCells w1.heap.size 0 wq.toList):=(HB.trans (b1.mono HB.size)).trans (tb.mono (by omega));have H2:Hid (lB C π T F w wa ic sa wq w1.heap.size ((w1.alloc (.cells je 217)).setCells w1.heap.size 0 wq.toList)) :=
  ⟨HA.call bw,ay.aB bw HA.le,⟨t2,(tb.block _ (by omega)).trans ((b1.block _ (ah K1.out)).trans K1.out),(tb.block _ (by omega)).trans ((b1.block _ (ah K0.out)).trans K0.out),(tb.block _ (by omega)).trans ((b1.block _ (ah K2.out)).trans K2.out)⟩,(tb.block _ (by omega)).trans ((b1.block _ (ah K3.out)).trans K3.out)⟩
 have Qn:=hid H2.c.o;have FT:=hid H2.c.s;clear t1 t2 tb bb bw b1;go_wp2_with (first
  | (refine Sz rfl _ _ rfl rfl rfl (by exact F6.out) rfl Xa hwo ?_)
  | (refine cm rfl _ rfl rfl (by exact Qn.out) eg ?_)
  | (refine bt rfl _ rfl rfl (by exact FT.out) Uu ?_))
 generalize (w1.alloc (.cells je 217)).setCells w1.heap.size 0 wq.toList=w2 at *;refine(HWD.out w2 w1.heap.size H2.a (by omega) H2.c H2.k).mono ?_;obtain⟨s0,Q5⟩:∃s0,Sp.fixF (Dm π) next C.ao (Dm π).fuel 1 s=s0:=⟨_,rfl⟩;rw[Q5]at N0 ⊢;obtain⟨x0,FY⟩:∃x0,x0=aK s0:=⟨_,rfl⟩;have HX0:=hid FY;have fu:x0.size=17:=by rw[FY];exact aF s0
 have x1:x0.all (·.oneCell')=true:=by rw[FY];exact aX s0
 rw[<-FY];rintro r w3⟨rfl,a3,b3⟩;obtain⟨t1,t2,tb⟩:=Gr w3 x0 fu;have H3:Hid (lB C π T F w wa ic sa wq w1.heap.size w3):=H2.bF HA.out (by omega) a3 b3;have Ko:w1.heap.size<w3.heap.size:=ah H3.c.q;have H4:Hid (lB C π T F w wa ic sa wq w1.heap.size ((w3.alloc (.cells zS 220)).setCells w3.heap.size 0 x0.toList)/\((w3.alloc (.cells zS 220)).setCells w3.heap.size 0 x0.toList).heap[w3.heap.size]?=some (.cells x0 220)):=⟨H3.call tb,t2⟩;have Bg:=hid t1;have c3:=cell_of H4.1.c.o 3 hw3;clear t1 t2 tb a3 b3 Q5 FY H2 H3 Qn FT F6 HWD HQU;go_wp2_with (first
  | (refine bV rfl _ _ rfl rfl rfl (by exact Bg.out) rfl fu x1 ?_))
 generalize (w3.alloc (.cells zS 220)).setCells w3.heap.size 0 x0.toList=W4 at *;generalize w1.heap.size=kq at *;generalize w3.heap.size=ki at *;clear c3
 go_loopw [20] (fun v20 wr=>∃(j n:Nat) (sj:ST) (xj:Array Value),n+j=C.narrow/\v20=.int .i64 j/\Hid (lB C π T F w wa ic sa wq kq wr/\wr.heap[ki]?=some (.cells xj 220))/\Hid (rB (Kr π) (Sp.dC (Dm π) k x y ct) body s U n sj)/\Hid (xj=aK sj)) (fun v20 _=>C.narrow - (intOf v20).toNat)
 case atStart=>exact⟨0,C.narrow,s0,x0,rfl,rfl,H4,N0,HX0⟩
 case round =>
  obtain⟨j,n,sj,xj,hnj,rfl,hq,Qb,hx⟩:=hrel;clear H4 N0 HX0 Bg;have fu:xj.size=17:=by rw[hx.out];exact aF sj
  have x1:xj.all (·.oneCell')=true:=by rw[hx.out];exact aX sj
  have HX:Hid (_=_):=hq.2;have HZ:=hid hq.1.z;cases n with
  | zero =>
   obtain rfl:j=C.narrow:=by omega
   have hE:Hid (sj=U):=Qb.eq;have gA:Hid (_=_):=ar hq.1.z (d:=xj) (by rw[fu];rfl);have fH:Hid (Below w.heap.size wr _):=au (b:=w.heap.size+1+1+1) (by omega) xj.toList 0 wr _ (Below.refl _ _);go_wp2_with (first
    | (refine bt rfl _ rfl rfl HX.out fu ?_)
    | (refine bV rfl _ _ rfl rfl rfl HZ.out rfl fu x1 ?_))
   refine bodyPost_ret (aN results229 _ _ rfl gA.out fu) rfl ?_;rw[<-hE.out,<-hx.out];exact⟨rfl,HA.upon hq.1.a fH.out,ay.upon HA.out hq.1.k fH.out⟩
  | succ n =>
   have DH:((j:Nat):Int)<((C.narrow:Nat):Int):=by omega
   obtain⟨A7,tP⟩:=NON.out n sj Qb.out;obtain⟨nx,eV⟩:∃nx,nx=aK (next sj):=⟨_,rfl⟩;obtain⟨va,hva⟩:∃va,va=aK (nE (Dm π) (Dm π).narrow sj (next sj)):=⟨_,rfl⟩;have nY:va.size=17:=by rw[hva];exact aF _
   have v1:va.all (·.oneCell')=true:=by rw[hva];exact aX _
   have J9:Hid (∀W,lB C π T F w wa ic sa wq kq W->Calls prog 245 #[.agg xj,.pointer (some ⟨kq,0,none⟩),.pointer (some ⟨w.heap.size+1,0,none⟩),.pointer (some ⟨w.heap.size,0,none⟩),.pointer (some ⟨w.heap.size+1+1,0,none⟩)] W fun e w'=>e=.returned (.agg nx)/\lB C π T F w wa ic sa wq kq w'/\ay C W w'):=fun W hW=>by have:=jd.out W kq sj (by omega) hW.c hW.k hW.a Qb.wf;rw[<-hx.out,<-eV]at this;exact this.mono fun e w' q=>⟨q.1,hW.bF HA.out (by omega) q.2.1 q.2.2,q.2.2⟩
   have HW:Hid (∀W,lB C π T F w wa ic sa wq kq W->Calls prog 162 #[.agg xj,.agg nx,.func (Fn.method "Narrow") #[.iface 133 C.dv] #[]] W fun r w'=>r=.returned (.agg va)/\Below W.heap.size W w'):=fun W hW=>by
    rcases tP with e1 | ⟨e,e',e1,e2,w1,w2⟩
    ·have h0:xj[0]?=some (.bool false):=by rw[hx.out,e1];rfl
     have:=IW (.func (Fn.method "Narrow") #[.iface 133 C.dv] #[]) xj nx W h0;rw[hva,e1];exact this
    ·have:=Am C.dv e e' W hW.a.does w1 w2
     rw[hx.out,eV,hva,e1,<-e1,e2,e1];exact this
   have FU:=hid A7;have P5:=hid hva;clear A7 tP eV hva;go_wp2_with fail;have H1:Hid (lB C π T F w wa ic sa wq kq wr.drew):=hq.1.call (Below.refl _ _).drew;have hd:wr.drew.heap[ki]?=some (.cells xj 220):=HX.out;refine wp_region_held_drew (S:=fun w':Wd=>lB C π T F w wa ic sa wq kq w'/\∃c:Array Value,c.size=17/\w'.heap[ki]?=some (.cells c 220)) (by kernel_rfl) ⟨H1.out,xj,fu,HX.out⟩ (fun aa=>?_);refine tq 1 (.func (.func 245) #[] #[.pointer (some ⟨kq,0,none⟩),.pointer (some ⟨w.heap.size+1,0,none⟩),.pointer (some ⟨w.heap.size,0,none⟩),.pointer (some ⟨w.heap.size+1+1,0,none⟩)]) aa ?_;refine tq 4 (.pointer (some ⟨w.heap.size,0,none⟩)) aa ?_;refine tk 5 (.iface 133 C.dv) rfl (fun w' h=>by have d0:=cell_of h.1.c.o 0 jo;go_simp) aa ?_;refine tq 6 (.iface 133 C.dv) aa ?_;refine tq 7 (.func (Fn.method "Narrow") #[.iface 133 C.dv] #[]) aa ?_;refine Kn 0 2 ?_ ?_
   ·intro K hK
    simp only[bT,gN];rw[if_pos (by rfl)];refine vG _ rfl rfl (aT (by exact hd)) fu ?_;simp only[Act.put];refine hK.out _ _ aa (fun aa=>?_);clear hK K;refine cH 2 fun K hK=>?_
    simp only[bT,gN];rw[if_pos (by rfl)];refine vG _ rfl rfl (aT (by exact hd)) fu ?_;simp only[Act.put];refine hK.out _ _ aa (fun aa=>?_);clear hK K;refine cH 3 fun K hK=>?_
    simp only[bT,gN];go_simp;refine(J9.out _ aa.1).mono ?_;rintro r w5⟨rfl,hh,b3⟩;go_wp2_with fail;have KG:w5.heap[ki]?=some (.cells xj 220):=b3.aW HA.out (by omega) hd;refine hK.out _ _ ⟨hh,xj,fu,KG⟩ (fun aa=>?_);clear hK K b3 hh;refine cH 8 fun K hK=>?_
    simp only[bT];go_simp;refine(HW.out _ aa.1).mono ?_;rintro r w6⟨rfl,b6⟩;go_wp2_with fail;have hz:w6.heap[ki]?=some (.cells xj 220):=(b6.block _ (ah KG)).trans KG;have hh:=aa.1.call b6;refine hK.out _ _ ⟨hh,xj,fu,hz⟩ (fun _=>?_);clear hK K b6 aa;have ek:=ar hz (d:=va) (by rw[nY,fu]);have zi:=hh.put HA.out dI Ko va.toList;have HQ:Hid (lB C π T F w wa ic sa wq kq (w6.setCells ki 0 va.toList)/\(w6.setCells ki 0 va.toList).heap[ki]?=some (.cells va 220)):=⟨zi,ek⟩;refine cH 9 fun K hK=>?_
    rw[if_pos (by rfl)];refine wp_store_mid _ _ _ rfl _ _ va rfl rfl (by rw[nY,<-fu];exact bI hz) (by rw[bP,nY]) v1 ?_;refine hK.out _ _ ⟨zi,va,nY,ek⟩ (fun _=>?_);clear hK K hh zi hz ek;refine wpAnyH_done (by kernel_rfl) ?_ _;go_wp2_with fail;exact⟨⟨j+1,n,_,va,by omega,by go_num,HQ,FU,P5⟩,by simp[intOf];omega⟩
   ·intro K hK
    simp only[bT,gN];rw[if_pos (by rfl)];refine vG _ rfl rfl (aT (by exact hd)) fu ?_;simp only[Act.put];refine hK.out _ _ aa (fun aa=>?_);clear hK K;refine Kn 0 3 ?_ ?_
    ·intro K hK
     simp only[List.getElem_toArray,List.getElem_cons_zero,List.setIfInBounds_toArray,List.set_cons_succ,List.set_cons_zero];rw[if_pos (by rfl)];refine vG _ rfl rfl (aT (by exact hd)) fu ?_;simp only[Act.put];refine hK.out _ _ aa (fun aa=>?_);clear hK K;refine cH 3 fun K hK=>?_
     simp only[bT,gN];go_simp;refine(J9.out _ aa.1).mono ?_;rintro r w5⟨rfl,hh,b3⟩;go_wp2_with fail;have KG:w5.heap[ki]?=some (.cells xj 220):=b3.aW HA.out (by omega) hd;refine hK.out _ _ ⟨hh,xj,fu,KG⟩ (fun aa=>?_);clear hK K b3 hh;refine cH 8 fun K hK=>?_
     simp only[bT];go_simp;refine(HW.out _ aa.1).mono ?_;rintro r w6⟨rfl,b6⟩;go_wp2_with fail;have hz:w6.heap[ki]?=some (.cells xj 220):=(b6.block _ (ah KG)).trans KG;have hh:=aa.1.call b6;refine hK.out _ _ ⟨hh,xj,fu,hz⟩ (fun _=>?_);clear hK K b6 aa;have ek:=ar hz (d:=va) (by rw[nY,fu]);have zi:=hh.put HA.out dI Ko va.toList;have HQ:Hid (lB C π T F w wa ic sa wq kq (w6.setCells ki 0 va.toList)/\(w6.setCells ki 0 va.toList).heap[ki]?=some (.cells va 220)):=⟨zi,ek⟩;refine cH 9 fun K hK=>?_
     rw[if_pos (by rfl)];refine wp_store_mid _ _ _ rfl _ _ va rfl rfl (by rw[nY,<-fu];exact bI hz) (by rw[bP,nY]) v1 ?_;refine hK.out _ _ ⟨zi,va,nY,ek⟩ (fun _=>?_);clear hK K hh zi hz ek;refine wpAnyH_done (by kernel_rfl) ?_ _;go_wp2_with fail;exact⟨⟨j+1,n,_,va,by omega,by go_num,HQ,FU,P5⟩,by simp[intOf];omega⟩
    ·intro K hK
     simp only[bT,gN];go_simp;refine(J9.out _ aa.1).mono ?_;rintro r w5⟨rfl,hh,b3⟩;go_wp2_with fail;have KG:w5.heap[ki]?=some (.cells xj 220):=b3.aW HA.out (by omega) hd;refine hK.out _ _ ⟨hh,xj,fu,KG⟩ (fun aa=>?_);clear hK K b3 hh;refine cH 0 fun K hK=>?_
     simp only[List.getElem_toArray,List.getElem_cons_zero];rw[if_pos (by rfl)];refine vG _ rfl rfl (aT (by exact KG)) fu ?_;simp only[Act.put];refine hK.out _ _ aa (fun aa=>?_);clear hK K;refine cH 8 fun K hK=>?_
     simp only[bT];go_simp;refine(HW.out _ aa.1).mono ?_;rintro r w6⟨rfl,b6⟩;go_wp2_with fail;have hz:w6.heap[ki]?=some (.cells xj 220):=(b6.block _ (ah KG)).trans KG;have hh:=aa.1.call b6;refine hK.out _ _ ⟨hh,xj,fu,hz⟩ (fun _=>?_);clear hK K b6 aa;have ek:=ar hz (d:=va) (by rw[nY,fu]);have zi:=hh.put HA.out dI Ko va.toList;have HQ:Hid (lB C π T F w wa ic sa wq kq (w6.setCells ki 0 va.toList)/\(w6.setCells ki 0 va.toList).heap[ki]?=some (.cells va 220)):=⟨zi,ek⟩;refine cH 9 fun K hK=>?_
     rw[if_pos (by rfl)];refine wp_store_mid _ _ _ rfl _ _ va rfl rfl (by rw[nY,<-fu];exact bI hz) (by rw[bP,nY]) v1 ?_;refine hK.out _ _ ⟨zi,va,nY,ek⟩ (fun _=>?_);clear hK K hh zi hz ek;refine wpAnyH_done (by kernel_rfl) ?_ _;go_wp2_with fail;exact⟨⟨j+1,n,_,va,by omega,by go_num,HQ,FU,P5⟩,by simp[intOf];omega⟩
abbrev vY:=Int × ((Fin 8->Sp.Iv)->List cr × ST)
def nQ:List vY->ST->List cr × ST
 | [],s=>([],s)
 | _ :: _,none=>([],none)
 | (p,G) :: xs,some e=>(.aA p e :: ((G e).1 ++ (nQ xs (G e).2).1),(nQ xs (G e).2).2)
theorem yT:∀xs:List vY,nQ xs none=([],none)
 | []=>rfl
 | _ :: _=>rfl
structure Ms(C:Cx)(π:bO)(T:gB)(F:Fd)(b:Bool)(w:Wd)(xs:List vY)(s:ST)(wa xa:Array Value)(j:Nat)(sj:ST)(ej:List cr)(W:Wd):Prop where
 eq:nQ xs s=(ej ++ (nQ (xs.drop j) sj).1,(nQ (xs.drop j) sj).2)
 a:aM C π T (told π b F ej) W
 k:ay C w W
 o:W.heap[w.heap.size]?=some (.cells wa 217)
 x:W.heap[w.heap.size+1]?=some (.cells xa 220)
 z:W.heap[w.heap.size+1+1]?=some (.cells zS 220)
 wf:Sp.Wf (Kr π) sj
 Zc:df b (told π b F ej) (nQ (xs.drop j) sj).1
 h:xa=aK sj
theorem CD(C:Cx)(π:bO)(T:gB)(F:Fd)(b:Bool)(w:Wd)(g cap:Nat)(xs:List vY)(vs:List Value)(hlen:vs.length=xs.length)(hg:g<C.base)(hmx:(xs.length:Int)<=9223372036854775807)(s:ST)(hs:Sp.Wf (Kr π) s)(h:aM C π T F w)(hr:df b F (nQ xs s).1)
  (gJ:∀(i:Nat) (u:Value),vs[i]?=some u->w.cell? ⟨g,i,none⟩=some u)
  (he:∀(i:Nat) (u:Value) (p:Int) (G:(Fin 8->Sp.Iv)->List cr × ST),vs[i]?=some u->xs[i]?=some (p,G)->∃t y,u=.iface t y/\Gf t y p/\(∀e,(∀k,Wv (e k))->Sp.Wf (Kr π) (G e).2) /\
    ∀F' W e,ay C w W->aM C π T F' W->(∀k,Wv (e k))->df b F' (G e).1->Calls prog 115 #[.agg (wk C b),u,.agg (aK (some e))] W (fF C π T F' b W (G e).1 (G e).2)) :
  Calls prog 82 #[.agg (wk C b),.slice (some ⟨g,0,none⟩) xs.length cap,.agg (aK s)] w (fF C π T F b w (nQ xs s).1 (nQ xs s).2):=by
 have eg:=cC C b;have HPt:Hid (∀F' W p e,aM C π T F' W->(∀k,Wv (e k))->df b F' [.aA p e]->Calls _ _ _ W _):=fun F' W p e hW hwv Wx=>BP C π T F' b W hW p e hwv Wx
 have HE:=hid he;generalize rV:wk C b=wa at *;have HWA:=hid rV;obtain⟨xa,oe⟩:∃xa,xa=aK s:=⟨_,rfl⟩;rw[<-oe];have H0:Hid (Ms C π T F b w xs s wa xa 0 s [] (((w.alloc (.cells wa 217)).alloc (.cells xa 220)).alloc (.cells zS 220))):=by obtain⟨k0,k1,k2,kb⟩:=bY (w:=w) (o1:=.cells wa 217) (o2:=.cells xa 220) (o3:=.cells zS 220) (Below.refl _ _);exact⟨rfl,by rw[ep];exact h.call kb,ay.aB kb h.le,k0,k1,k2,hs,by rw[ep];exact hr,oe⟩
 have HA:=hid h;have Xi:=hid gJ;have l1:w.heap.size<=w.heap.size+1:=by omega
 have l2:w.heap.size<=w.heap.size+1+1:=by omega
 clear h he gJ rV oe hr hs;go_enter func82,ntmps82;go_wp2_with fail;generalize ((w.alloc (.cells wa 217)).alloc (.cells xa 220)).alloc (.cells zS 220)=W0 at *
 go_loopw [8,11] (fun _ i wr=>∃(j:Nat) (sj:ST) (ej:List cr) (xj:Array Value),j<=xs.length/\i=.int .i64 j/\Hid (Ms C π T F b w xs s wa xj j sj ej wr)) (fun _ i _=>xs.length - (intOf i).toNat)
 case atStart=>exact⟨0,s,[],xa,Nat.zero_le _,rfl,H0.out⟩
 case round =>
  obtain⟨j,sj,ej,xj,hj,rfl,hq⟩:=hrel;clear H0;have fu:xj.size=17:=by rw[hq.h];exact aF sj
  have x1:xj.all (·.oneCell')=true:=by rw[hq.h];exact aX sj
  have HX:Hid (_=_):=hq.x;have HZ:=hid hq.z;have HO:=hid hq.o;by_cases dW:j<xs.length
  ·obtain⟨v,hv⟩:∃v,vs[j]?=some v:=⟨_,List.getElem?_eq_getElem (by omega)⟩
   obtain⟨pg,hx⟩:∃x,xs[j]?=some x:=⟨_,List.getElem?_eq_getElem dW⟩;obtain⟨p,G⟩:=pg;obtain⟨t,y,rfl,hwh,hwG,gI⟩:=HE.out j v p G hv hx;have hcu:wr.cell? ⟨g,j,none⟩=some (.iface t y):=by rw[hq.k.below.cell (p:=⟨g,j,none⟩) hg];exact Xi.out j _ hv
   have zj:xs.drop j=(p,G) :: xs.drop (j+1):=by rw[List.drop_eq_getElem_cons dW,(List.getElem?_eq_some_iff.1 hx).2]
   have DH:((j:Nat):Int)<((xs.length:Nat):Int):=by omega
   cases sj with
   | none =>
    have E:Hid (nQ xs s=(ej,none)):=by have:=hq.eq;rw[yT]at this;unfold Hid;rw[this];show(ej ++ [],none)=(ej,none);rw[List.append_nil]
    have gA:Hid (_=_):=ar hq.z (d:=xj) (by rw[fu];rfl);have fH:Hid (Below w.heap.size wr _):=au (b:=w.heap.size+1+1) l2 xj.toList 0 wr _ (Below.refl _ _);have d0:xj[0]?=some (.bool false):=by rw[hq.h];rfl
    have c0:=cell_of HX.out 0 d0;clear gI hwh hwG zj;go_wp2_with (first
     | (refine bt rfl _ rfl rfl HX.out fu ?_)
     | (refine bV rfl _ _ rfl rfl rfl HZ.out rfl fu x1 ?_))
    refine bodyPost_ret (aN results82 _ _ rfl gA.out fu) rfl ?_;rw[E.out];exact⟨by rw[hq.h],HA.upon hq.a fH.out,ay.upon HA.out hq.k fH.out⟩
   | some e =>
    have px:=hq.wf e rfl;have Wx:=hq.Zc;rw[zj]at Wx;have aan:df b (told π b F ej) [.aA p e]:=df.left (es':=(G e).1 ++ (nQ (xs.drop (j+1)) (G e).2).1) Wx;have Xj:df b (told π b (told π b F ej) [.aA p e]) ((G e).1 ++ (nQ (xs.drop (j+1)) (G e).2).1):=df.right (es:=[.aA p e]) Wx;have d0:xj[0]?=some (.bool true):=by rw[hq.h];rfl
    have c0:=cell_of HX.out 0 d0;have HG:=hid gI;have hP:=HPt.out (told π b F ej) wr.drew p e (HA.upon hq.a (Below.refl _ _).drew) px aan;rw[<-hq.h]at hP;have H1:Hid (wr.drew.heap[w.heap.size]?=some (.cells wa 217)/\wr.drew.heap[w.heap.size+1]?=some (.cells xj 220)/\wr.drew.heap[w.heap.size+1+1]?=some (.cells zS 220)):=⟨HO.out,HX.out,HZ.out⟩;have HP:=hid hP;clear gI hP;have hwm:∀w,(method 587 t y "Where").run prog w=.ok (72,.int .i64 p) w:=hwh;have e17:=aF (G e).2;have e1o:=aX (G e).2;go_wp2_with fail;refine wp_region_held_drew (S:=fun w':Wd=>w'.heap[w.heap.size]?=some (.cells wa 217)/\w'.heap[w.heap.size+1]?=some (.cells xj 220)/\w'.heap[w.heap.size+1+1]?=some (.cells zS 220)) (by kernel_rfl) H1.out (fun aa=>?_);refine mj 0 rfl (yieldsIf_load_mid (by rfl) _ _ rfl _ _ rfl (wa).toList _ (fun w' h=>aT h.1) underlying217 rfl (by rw[fD,Array.length_toList,eg])) aa ?_;refine mj 3 rfl (yieldsIf_load_mid (by rfl) _ _ rfl _ _ rfl (xj).toList _ (fun w' h=>aT h.2.1) underlying220 rfl (by rw[bP,Array.length_toList,fu])) aa ?_;refine tq 1 (.iface t y) aa ?_;refine cH 2 fun K hK=>?_
    simp only[bT,gN,Array.toArray_toList];go_simp;refine(fB p _).mono ?_;rintro r w1⟨rfl,rfl⟩;go_wp2_with fail;refine hK.out _ _ aa (fun aa=>?_);clear hK K;refine cH 4 fun K hK=>?_
    simp only[bT];go_simp;refine HP.mono ?_;rintro r w1⟨rfl,a1,b1⟩;have nN:=hid a1;have mx:Hid (ay C w w1):=(ay.upon HA.out hq.k (Below.refl _ _).drew).trans b1;have k0:=b1.aW HA.out (Nat.le_refl _) aa.1;have k1:=b1.aW HA.out l1 aa.2.1;have k2:=b1.aW HA.out l2 aa.2.2;have K0:=hid k0;have K1:=hid k1;have K2:=hid k2;have hG:=HG.out _ w1 e mx.out nN.out px Xj.left;rw[<-hq.h]at hG;have HGG:=hid hG;have Ws:=Xj.right (π:=π);have Wj:=hid hq.eq;have HWG:=hid (hwG e px);clear hG a1 HG HP HX HZ HO aa;go_wp2_with fail;refine hK.out _ _ ⟨k0,k1,k2⟩ (fun _=>?_);clear hK K k0 k1 k2 b1;refine wpAnyH_done (by kernel_rfl) ?_ _;go_wp2_with (first
     | (refine cm rfl _ rfl rfl K0.out eg ?_)
     | (refine bt rfl _ rfl rfl K1.out fu ?_))
    refine HGG.mono ?_;unfold fF;generalize hue:aK (G e).2=ue at *;rintro r w2⟨rfl,a2,b2⟩;have y0:=b2.aW HA.out (Nat.le_refl _) K0.out;have y1:=b2.aW HA.out l1 K1.out;have y2:=b2.aW HA.out l2 K2.out;have Y1:=hid y1;have yk:Hid (Below w.heap.size w2 _):=au (b:=w.heap.size+1) l1 ue.toList 0 w2 _ (Below.refl _ _);have HQ:Hid (Ms C π T F b w xs s wa ue (j+1) (G e).2 (ej ++ [.aA p e] ++ (G e).1) (w2.setCells (w.heap.size+1) 0 ue.toList)):=by
     refine⟨?_,?_,ay.upon HA.out (mx.trans b2) yk.out,(al _ _ _ _ (by omega)).trans y0,ar y1 (by rw[e17,fu]),(al _ _ _ _ (by omega)).trans y2,HWG.out,?_,hue.symm⟩
     ·rw[Wj.out,zj]
      simp only[nQ,List.append_assoc,List.cons_append,List.nil_append]
     ·rw[aG,aG]
      exact HA.upon a2 yk.out
     ·rw[aG,aG]
      exact Ws
    clear y0 y1 y2 a2 b2 HGG Ws Wj;go_wp2_with (first
     | (refine bV rfl _ _ rfl rfl rfl Y1.out fu e17 e1o ?_))
    exact⟨⟨j+1,(G e).2,_,ue,by omega,by go_num,HQ⟩,by simp[intOf];omega⟩
  ·have E:Hid (nQ xs s=(ej,sj)):=by
    have:=hq.eq;rw[List.drop_of_length_le (by omega)]at this;unfold Hid;rw[this];show(ej ++ [],sj)=(ej,sj);rw[List.append_nil]
   have gA:Hid (_=_):=ar hq.z (d:=xj) (by rw[fu];rfl);have fH:Hid (Below w.heap.size wr _):=au (b:=w.heap.size+1+1) l2 xj.toList 0 wr _ (Below.refl _ _);go_wp2_with (first
    | (refine bt rfl _ rfl rfl HX.out fu ?_)
    | (refine bV rfl _ _ rfl rfl rfl HZ.out rfl fu x1 ?_))
   refine bodyPost_ret (aN results82 _ _ rfl gA.out fu) rfl ?_;rw[E.out];exact⟨by rw[hq.h],HA.upon hq.a fH.out,ay.upon HA.out hq.k fH.out⟩
theorem yP(C:Cx)(π:bO)(T:gB)(F:Fd)(b:Bool)(w:Wd)(s:ST)(h:aM C π T F w) :
  Calls prog 82 #[.agg (wk C b),.slice none 0 0,.agg (aK s)] w (fF C π T F b w [] s):=by
 obtain⟨k0,k1,k2,kb⟩:=bY (w:=w) (o1:=.cells (wk C b) 217) (o2:=.cells (aK s) 220) (o3:=.cells zS 220) (Below.refl _ _);have fu:=aF s;have x1o:=aX s;unfold fF;rw[ep];generalize wk C b=wa at *;generalize aK s=xa at *;have HX:Hid (_=_):=k1;have HZ:=hid k2;have HB:=hid kb;have HA:=hid h;have gA:Hid (_=_):=ar k2 (d:=xa) (by rw[fu];rfl);have fH:Hid (Below w.heap.size w _):=au (b:=w.heap.size+1+1) (by omega) xa.toList 0 w _ kb;clear k0 k1 k2 kb h;go_enter func82,ntmps82;go_wp2_with fail;refine wp_loop_rounds 1 ?_;rw[rounds_succ];go_wp2_with (first
  | (refine bt rfl _ rfl rfl HX.out fu ?_)
  | (refine bV rfl _ _ rfl rfl rfl HZ.out rfl fu x1o ?_))
 refine bodyPost_ret (aN results82 _ _ rfl gA.out fu) rfl ⟨rfl,HA.call fH.out,ay.aB fH.out HA.le⟩
theorem ux{x:Sp.Sm}(hx:∀k,x≠.name k)(h1:∃t u,v=.iface t u)(h2:∀w,(Instr.typeAssert v 277 275 true).run prog w=.ok (.tuple #[.int .i64 0,.bool false]) w):jM v x:=by
 cases x with
 | name k=>exact absurd rfl (hx k)
 | num n=>exact⟨h1,h2⟩
 | neg x=>exact⟨h1,h2⟩
 | bin k x y=>exact⟨h1,h2⟩
theorem C4(x:Value)(w:Wd):(Instr.typeAssert (.iface 226 x) 277 275 true).run prog w=.ok (.tuple #[.int .i64 0,.bool false]) w:=by kernel_rfl
def xX:yQ Sp.Tr where
 S ct v x bh:=(∃t u,v=.iface t u)/\nD v x ct/\jM v x/\xh x/\Sp.cS x ct=bh
 iface _ _ _ _ h:=h.1
 num ct n hn:=⟨⟨_,_,rfl⟩,RY n ct,ux (fun k h=>by cases h) ⟨_,_,rfl⟩ (C4 _),fun m hm=>by have:=List.mem_singleton.1 hm;subst this;exact⟨by omega,by omega⟩,rfl⟩
 name ct k hk:=⟨⟨_,_,rfl⟩,O3 k hk ct,⟨rfl,hk⟩,(fun m hm=>by cases hm),rfl⟩
 neg ct v x bh h:=by obtain⟨⟨t,u,rfl⟩,hs,_,ok,he⟩:=h;exact⟨⟨_,_,rfl⟩,Sk t u x ct ok hs,ux (fun k h=>by cases h) ⟨_,_,rfl⟩ (sW _),ok,he⟩
 bin ct k v x ct1 u y ct2 hk h h':=by obtain⟨⟨tl,ul,rfl⟩,hs,_,ok,rfl⟩:=h;obtain⟨⟨tr,ur,rfl⟩,dw,_,S6,rfl⟩:=h';have e:(if 3<=k then Sp.aL (Sp.cS x ct) else Sp.cS x ct)=Sp.cS x ct:=if_neg (by omega);refine⟨⟨_,_,rfl⟩,Mb k (by omega) 0 tl ul tr ur x y ct (fun h=>by omega) ok S6 hs (by rw[e];exact dw),ux (fun k h=>by cases h) ⟨_,_,rfl⟩ (oB _),bR ok S6,?_⟩;show Sp.cS y (if 3<=k then Sp.aL (Sp.cS x ct) else Sp.cS x ct)=_;rw[e]
 binSite ct k v x ct1 u y ct2 h3 hk h h':=by obtain⟨⟨tl,ul,rfl⟩,hs,_,ok,rfl⟩:=h;obtain⟨⟨tr,ur,rfl⟩,dw,_,S6,rfl⟩:=h';have e:(if 3<=k then Sp.aL (Sp.cS x ct) else Sp.cS x ct)=Sp.aL (Sp.cS x ct):=if_pos h3;refine⟨⟨_,_,rfl⟩,Mb k hk _ tl ul tr ur x y ct (fun _=>rfl) ok S6 hs (by rw[e];exact dw),ux (fun k h=>by cases h) ⟨_,_,rfl⟩ (oB _),bR ok S6,?_⟩;show Sp.cS y (if 3<=k then Sp.aL (Sp.cS x ct) else Sp.cS x ct)=_;rw[e];rfl
abbrev GF:=bO->yZ->(Fin 8->Sp.Iv)->List cr × ST
structure Zd(ct:Int × Int)(lo hi:Nat)(w:Wd)(v:Value)(f:Sp.Bl->Sp.Bl)(bh:Int × Int)(G:GF):Prop where
 cb:∀rest,Sp.cB (f rest) ct=Sp.cB rest bh
 ok:∀rest,ti rest->ti (f rest)
 eq:∀π P rest s,Sp.cF (Dm π) P (f rest) ct s=gi (Dm π) (N3 (Dm π) ct.1 (G π P) s) (Sp.cF (Dm π) P rest bh)
 wf:∀π P e,(∀k,Wv (e k))->Sp.Wf (Kr π) (G π P e).2
 lp:∀π P T rest,cO (Dm π) P T (f rest) ct->cO (Dm π) P T (f .nil) ct/\cO (Dm π) P T rest bh
 calls:∀(C:Cx) (π:bO) (T:gB) (F:Fd) (b:Bool) (W:Wd) (e:Fin 8->Sp.Iv),eJ lo hi w W->hi<=C.base->C.narrow<=1000->C.aj<=1000->cO (Dm π) C.hI T (f .nil) ct->aM C π T F W->(∀k,Wv (e k))->df b F (G π C.hI e).1 ->
  Calls prog 115 #[.agg (wk C b),v,.agg (aK (some e))] W (fF C π T F b W (G π C.hI e).1 (G π C.hI e).2)
def J7(ct:Int × Int)(lo hi:Nat)(w:Wd)(v:Value)(f:Sp.Bl->Sp.Bl)(bh:Int × Int):Prop :=
 (∃t u,v=.iface t u/\Gf t u ct.1)/\∃G,Zd ct lo hi w v f bh G
theorem ay.same(h:eJ lo hi w w1)(k:ay C w1 w2)(hh:hi<=C.base):eJ lo hi w w2 :=
 fun i h1 h2 hn=>by rw[k.below.block i (by omega)];exact h i h1 h2 hn
def lA:List (Sp.Bl->Sp.Bl)->(Nat->Int × Int)->(Nat->(Fin 8->Sp.Iv)->List cr × ST)->List vY
 | [],_,_=>[]
 | _ :: fs,f,g=>((f 0).1,g 0) :: lA fs (fun i=>f (i+1)) (fun i=>g (i+1))
theorem wM:∀(fs:List (Sp.Bl->Sp.Bl)) (f:Nat->Int × Int) (g:Nat->(Fin 8->Sp.Iv)->List cr × ST),(lA fs f g).length=fs.length
 | [],_,_=>rfl
 | _ :: fs,f,g=>by show(lA fs _ _).length+1=_;rw[wM fs];rfl
theorem wF:∀(fs:List (Sp.Bl->Sp.Bl)) (f:Nat->Int × Int) (g:Nat->(Fin 8->Sp.Iv)->List cr × ST) (i:Nat) (x:vY),(lA fs f g)[i]?=some x->x=((f i).1,g i)
 | [],_,_,i,x,h=>by simp[lA]at h
 | _ :: fs,f,g,0,x,h=>by simpa [lA] using h.symm
 | _ :: fs,f,g,i+1,x,h=>by
  have h':(lA fs (fun i=>f (i+1)) (fun i=>g (i+1)))[i]?=some x:=by simpa [lA] using h
  exact wF fs _ _ i x h'
theorem Nl(π:bO)(p:Int)(g:(Fin 8->Sp.Iv)->List cr × ST)(s:ST)(A:ST->List cr × ST)(xs:List vY)(h:∀s,A s=nQ xs s):gi (Dm π) (N3 (Dm π) p g s) A=nQ ((p,g) :: xs) s:=by
 cases s with
 | none=>exact(congrArg (fun r:List cr × ST=>(([]:List cr) ++ r.1,r.2)) ((h none).trans (yT xs)))
 | some e=>exact(congrArg (fun r:List cr × ST=>((gd.aA p e :: (g e).1) ++ r.1,r.2)) (h (g e).2))
theorem yz(π:bO)(P:yZ)(T:gB)(lo hi:Nat)(w:Wd):∀(fs:List (Sp.Bl->Sp.Bl)) (vs:Nat->Value) (f:Nat->Int × Int) (Gi:Nat->GF),(∀i g,fs[i]?=some g->Zd (f i) lo hi w (vs i) g (f (i+1)) (Gi i)) ->
  Sp.cB (aP fs) (f 0)=f fs.length/\ti (aP fs)/\(∀s,Sp.cF (Dm π) P (aP fs) (f 0) s=nQ (lA fs f (fun i=>Gi i π P)) s)/\(cO (Dm π) P T (aP fs) (f 0)->∀i g,fs[i]?=some g->cO (Dm π) P T (g .nil) (f i))
 | [],vs,f,Gi,_=>⟨rfl,(fun n hn=>by cases hn),(fun s=>rfl),fun _ i g h=>by simp at h⟩
 | x :: fs,vs,f,Gi,h=>by
  have hx:=h 0 x (by simp);obtain⟨h1,h2,h3,h4⟩:=yz π P T lo hi w fs (fun i=>vs (i+1)) (fun i=>f (i+1)) (fun i=>Gi (i+1)) (fun i g hg=>h (i+1) g (by simpa using hg));refine⟨?_,hx.ok _ h2,fun s=>?_,fun hl i g hg=>?_⟩
  ·show Sp.cB (x (aP fs)) (f 0)=_
   rw[hx.cb];exact h1
  ·exact(hx.eq π P (aP fs) s).trans (Nl π _ _ s _ _ h3)
  ·obtain⟨l1,l2⟩:=hx.lp π P T _ hl
   cases i with
   | zero =>
    have:x=g:=by simpa using hg
    subst this;exact l1
   | succ i=>exact h4 l2 i g (by simpa using hg)
structure BlA(ct:Int × Int)(lo hi:Nat)(w:Wd)(v:Value)(t:Sp.Bl)(bh:Int × Int):Prop where
 cb:Sp.cB t ct=bh
 ok:ti t
 calls:∀(C:Cx) (π:bO) (T:gB) (b:Bool) (W:Wd),eJ lo hi w W->hi<=C.base->C.narrow<=1000->C.aj<=1000->cO (Dm π) C.hI T t ct->D2 C π T b W v (Sp.cF (Dm π) C.hI t ct)
theorem wT{ct bh:Int × Int}{fs:List (Sp.Bl->Sp.Bl)}(h:nw J7 ct lo hi w v fs bh):BlA ct lo hi w v (aP fs) bh:=by
 obtain⟨vs,f,ho,hg,he,rfl,rfl⟩:=h;have Uv:vs.length=fs.length:=by have:=ho.1;rw[Nat.mul_one]at this;exact this
 have Xo:∀i g,fs[i]?=some g->∃u,vs[i]?=some u/\J7 (f i) lo hi w u g (f (i+1)):=fun i g hx=>by
  have hi:i<vs.length:=by rw[Uv];exact(List.getElem?_eq_some_iff.1 hx).1
  exact⟨_,List.getElem?_eq_getElem hi,he i _ g (List.getElem?_eq_getElem hi) hx⟩
 have uj:∀i,∃G:GF,∀g,fs[i]?=some g->Zd (f i) lo hi w (vs.getD i .nilIface) g (f (i+1)) G:=fun i=>by
  cases hf:fs[i]? with
  | none=>exact⟨fun _ _ _=>([],none),fun g hg=>by cases hg⟩
  | some g =>
   obtain⟨u,hu,_,G,hG⟩:=Xo i g hf;refine⟨G,fun g' rK=>?_⟩;cases rK
   rw[List.getD_eq_getElem?_getD,hu];exact hG
 obtain⟨Gi,hGi⟩:=Classical.axiomOfChoice uj;have J:=fun π P T=>yz π P T lo hi w fs (fun i=>vs.getD i .nilIface) f Gi hGi
 refine⟨(J default ⟨0,0,0⟩ (fun _ s=>([],s))).1,(J default ⟨0,0,0⟩ (fun _ s=>([],s))).2.1,?_⟩;intro C π T b W DF Ds xw xu Nq F W' s hk ha hs hr;obtain⟨_,_,j3,j4⟩:=J π C.hI T;have Vz:=hk.same DF Ds;rw[j3]at hr ⊢
 rcases ho.2 with⟨rfl,hz⟩ | ⟨g,cap,cur,rfl,WH,hh,hnc,VO,Uc,Nx⟩
 ·obtain rfl:fs=[]:=List.eq_nil_of_length_eq_zero hz
  exact yP C π T F b W' s ha
 ·have NR:=hg g rfl
  have We:=wM fs f (fun i=>Gi i π C.hI);have:=CD C π T F b W' g cap (lA fs f (fun i=>Gi i π C.hI)) vs (by rw[We];exact Uv) (by omega) (by rw[We];unfold maxLen at VO;omega) s hs ha hr
   (fun i u hu=>by
     have h1:W'.heap[g]?=some (.cells cur 234):=by rw[Vz g WH NR (by rw[hh];exact fj (by decide))];exact hh
     refine cell_of h1 i ?_;have h2:i<vs.length:=(List.getElem?_eq_some_iff.1 hu).1;have h3:cur.toList[i]?=vs[i]?:=by rw[<-Nx,List.getElem?_take,if_pos (by omega)]
     rw[<-Array.getElem?_toList,h3];exact hu)
   (fun i u p G hu hx=>by
     have hp:=wF fs f _ i _ hx;injection hp with rJ rQ
     have hi:i<fs.length:=by rw[<-Uv];exact(List.getElem?_eq_some_iff.1 hu).1
     obtain⟨u',A6,⟨t,y,e1,e2⟩,_⟩:=Xo i _ (List.getElem?_eq_getElem hi);rw[hu]at A6;cases A6
     have gI:=hGi i _ (List.getElem?_eq_getElem hi);rw[List.getD_eq_getElem?_getD,hu]at gI;refine⟨t,y,e1,by rw[rJ];exact e2,fun e he=>by rw[rQ];exact gI.wf π C.hI e he,fun F' W2 e zr NW px sL=>?_⟩;subst rQ;exact gI.calls C π T F' b W2 e (zr.same Vz Ds) Ds xw xu (j4 Nq i _ (List.getElem?_eq_getElem hi)) NW px sL)
  rw[We]at this;exact this
structure gD(C:Cx)(π:bO)(T:gB)(F:Fd)(w:Wd)(wa ic xa oa:Array Value)(W:Wd):Prop where
 a:aM C π T F W
 k:ay C w W
 o:W.heap[w.heap.size]?=some (.cells wa 217)
 c:W.heap[w.heap.size+1]?=some (.cells ic 293)
 s:W.heap[w.heap.size+1+1]?=some (.cells xa 220)
 z:W.heap[w.heap.size+1+1+1]?=some (.cells zS 220)
 u:W.heap[w.heap.size+1+1+1+1]?=some (.cells oa 220)
theorem gD.call(h:gD C π T F w wa ic xa oa W)(k:Below W.heap.size W W'):gD C π T F w wa ic xa oa W' :=
 ⟨h.a.call k,h.k.trans (ay.aB k h.a.le),(k.block _ (ah h.o)).trans h.o,(k.block _ (ah h.c)).trans h.c,(k.block _ (ah h.s)).trans h.s,(k.block _ (ah h.z)).trans h.z,(k.block _ (ah h.u)).trans h.u⟩
theorem gD.bF(h:gD C π T F w wa ic xa oa W)(h0:aM C π T F0 w)(ha:aM C π T F' W')(k:ay C W W'):gD C π T F' w wa ic xa oa W' :=
 ⟨ha,h.k.trans k,k.aW h0 (Nat.le_refl _) h.o,k.aW h0 (by omega) h.c,k.aW h0 (by omega) h.s,k.aW h0 (by omega) h.z,k.aW h0 (by omega) h.u⟩
theorem gD.Vc(h:gD C π T F w wa ic xa oa W)(h0:aM C π T F0 w)(d:Array Value)(h1:xa.size=17)(h2:d.size=17):gD C π T F w wa ic d oa (W.setCells (w.heap.size+1+1) 0 d.toList):=by have hb:Below w.heap.size W (W.setCells (w.heap.size+1+1) 0 d.toList):=au (b:=w.heap.size+1+1) (by omega) d.toList 0 W _ (Below.refl _ _);exact⟨h0.upon h.a hb,ay.upon h0 h.k hb,(al _ _ _ _ (by omega)).trans h.o,(al _ _ _ _ (by omega)).trans h.c,ar h.s (by rw[h1,h2]),(al _ _ _ _ (by omega)).trans h.z,(al _ _ _ _ (by omega)).trans h.u⟩
theorem gD.YZ(h:gD C π T F w wa ic xa oa W)(h0:aM C π T F0 w)(d:Array Value)(h1:oa.size=17)(h2:d.size=17):gD C π T F w wa ic xa d (W.setCells (w.heap.size+1+1+1+1) 0 d.toList):=by have hb:Below w.heap.size W (W.setCells (w.heap.size+1+1+1+1) 0 d.toList):=au (b:=w.heap.size+1+1+1+1) (by omega) d.toList 0 W _ (Below.refl _ _);exact⟨h0.upon h.a hb,ay.upon h0 h.k hb,(al _ _ _ _ (by omega)).trans h.o,(al _ _ _ _ (by omega)).trans h.c,(al _ _ _ _ (by omega)).trans h.s,(al _ _ _ _ (by omega)).trans h.z,ar h.u (by rw[h1,h2])⟩
abbrev sV(π:bO)(p:Int)(s:ST):List cr:=py (Dm π) p s
theorem SP(o1 o2 o3 o4 o5:Obj) :
  (((((w.alloc o1).alloc o2).alloc o3).alloc o4).alloc o5).heap[w.heap.size]?=some o1/\(((((w.alloc o1).alloc o2).alloc o3).alloc o4).alloc o5).heap[w.heap.size+1]?=some o2/\(((((w.alloc o1).alloc o2).alloc o3).alloc o4).alloc o5).heap[w.heap.size+1+1]?=some o3/\(((((w.alloc o1).alloc o2).alloc o3).alloc o4).alloc o5).heap[w.heap.size+1+1+1]?=some o4/\(((((w.alloc o1).alloc o2).alloc o3).alloc o4).alloc o5).heap[w.heap.size+1+1+1+1]?=some o5/\Below w.heap.size w (((((w.alloc o1).alloc o2).alloc o3).alloc o4).alloc o5):=Gg w o1 o2 o3 o4 o5
theorem AM(p:Int)(k:Nat)(tl:TypeId)(ul:Value)(tr:TypeId)(ur:Value)(av:Option Addr)(nv cv:Nat)(CN:ST->List cr × ST × ST)(body:ST->List cr × ST)(AL:ST->ST)(C:Cx)(π:bO)(T:gB)(F:Fd)(b:Bool)(w:Wd)(s:ST)(U:List cr × ST × ST)(h:aM C π T F w)(hs:Sp.Wf (Kr π) s)
  (hU:jC (Dm π) CN body p C.aj none s=U)
  (NC:∀F' W s',aM C π T F' W->Sp.Wf (Kr π) s'->df b F' (CN s').1->Calls prog 198 #[.agg (wk C b),.agg #[.int .i64 (k:Nat),.iface tl ul,.iface tr ur],.agg (aK s')] W (fQ C π T F' b W (CN s').1 (CN s').2.1 (CN s').2.2))
  (yi:fO (Kr π) CN) (uV:fg (Kr π) body) (gU:D2 C π T b w (.slice av nv cv) body)
  (uj:∀F' W s',ay C w W->aM C π T F' W->Sp.Wf (Kr π) s'->Calls prog 229 #[.agg (wk C b),.agg (An p k tl ul tr ur av nv cv),.agg (aK s')] W fun e w'=>e=.returned (.agg (aK (AL s')))/\aM C π T F' w'/\ay C W w')
  (haw:∀s',Sp.Wf (Kr π) s'->Sp.Wf (Kr π) (AL s')) (xu:C.aj<=1000) (hp:b=true->0<=p/\p.toNat<F.1.length)
  (hr:df b F (U.1 ++ sV π p (AL U.2.2) ++ (CN (AL U.2.2)).1 ++ (body (CN (AL U.2.2)).2.1).1)) :
  Calls prog 200 #[.agg (wk C b),.agg (An p k tl ul tr ur av nv cv),.agg (aK s)] w (fF C π T F b w (U.1 ++ sV π p (AL U.2.2) ++ (CN (AL U.2.2)).1 ++ (body (CN (AL U.2.2)).2.1).1) (Sp.jn (Dm π) U.2.1 (CN (AL U.2.2)).2.2)):=by
 have eg:=cC C b;have tR:=Ci C b;have hw4:(wk C b)[4]?=some (.int .i64 (C.aj:Nat)):=rfl;obtain⟨wa,rV⟩:∃wa,wa=wk C b:=⟨_,rfl⟩;obtain⟨ic,hic⟩:∃ic,ic=An p k tl ul tr ur av nv cv:=⟨_,rfl⟩;have U0:Hid (lX (Kr π) CN body p U C.aj [] none s):=by rw[<-hU];exact lX.start CN body p C.aj hs
 have UON:Hid (∀(m:Nat) (ej:List cr) (oj sj:ST),lX (Kr π) CN body p U (m+1) ej oj sj->lX (Kr π) CN body p U m (ej ++ sV π p sj ++ (CN sj).1 ++ (body (CN sj).2.1).1) (Sp.jn (Dm π) oj (CN sj).2.2) (body (CN sj).2.1).2):=fun m ej oj sj h=>lX.on yi uV h
 have Q9:Hid (∀(W:Wd) (e':List cr) (sj:ST) xa oa,gD C π T (told π b F e') w wa ic xa oa W->xa=aK sj->Sp.Wf (Kr π) sj->Calls prog 84 #[.agg wa,.int .i64 p,.agg xa] W fun r w'=>r=.returned (.tuple #[])/\gD C π T (told π b F (e' ++ sV π p sj)) w wa ic xa oa w'):=fun W e' sj xa oa hW e1 hw=>by have:=mD C π T (told π b F e') b W hW.a p sj hw (fun hb=>by rw[(jc π b F e').1];exact hp hb);rw[<-e1,<-rV]at this;exact this.mono fun r w' q=>⟨q.1,hW.bF h (by rw[aG];exact q.2.1) q.2.2⟩
 have QM:Hid (∀(W:Wd) (e':List cr) (sj:ST) xa oa q1 q2,gD C π T (told π b F e') w wa ic xa oa W->xa=aK sj->Sp.Wf (Kr π) sj->df b F (e' ++ (CN sj).1)->q1=aK (CN sj).2.1->q2=aK (CN sj).2.2->Calls prog 198 #[.agg wa,.agg #[.int .i64 (k:Nat),.iface tl ul,.iface tr ur],.agg xa] W fun r w'=>r=.returned (.tuple #[.agg q1,.agg q2])/\gD C π T (told π b F (e' ++ (CN sj).1)) w wa ic xa oa w'):=fun W e' sj xa oa q1 q2 hW e1 hw hr e2 e3=>by have:=NC (told π b F e') W sj hW.a hw hr.right;unfold fQ at this;rw[<-e1,<-e2,<-e3,<-rV]at this;exact this.mono fun r w' q=>⟨q.1,hW.bF h (by rw[aG];exact q.2.1) q.2.2⟩
 have NQ:Hid (∀W F' u v ua va ja xa oa,gD C π T F' w wa ic xa oa W->ua=aK u->va=aK v->Sp.Wf (Kr π) u->Sp.Wf (Kr π) v->ja=aK (Sp.jn (Dm π) u v)->Calls prog 116 #[.agg wa,.agg ua,.agg va] W fun r w'=>r=.returned (.agg ja)/\Below W.heap.size W w'):=fun W F' u v ua va ja xa oa hW e1 e2 w1 w2 e3=>by have:=oO C.dv C.cU C.ao C.narrow C.aj C.th C.m (if b then some ⟨C.fb,0,none⟩ else none) u v _ W hW.a.does rfl w1 w2;have h2:Calls prog 116 #[.agg (wk C b),.agg (aK u),.agg (aK v)] W _:=this;rw[<-e1,<-e2,<-e3,<-rV]at h2;exact h2
 have WA:Hid (∀(W:Wd) (e':List cr) (s1:ST) xa oa qa va,gD C π T (told π b F e') w wa ic xa oa W->qa=aK s1->Sp.Wf (Kr π) s1->df b F (e' ++ (body s1).1)->va=aK (body s1).2->Calls prog 82 #[.agg wa,.slice av nv cv,.agg qa] W fun r w'=>r=.returned (.agg va)/\gD C π T (told π b F (e' ++ (body s1).1)) w wa ic xa oa w'/\ay C W w'):=fun W e' s1 xa oa qa va hW e1 hw hr e2=>by have:=gU (told π b F e') W s1 hW.k hW.a hw hr.right;unfold fF at this;rw[<-e1,<-e2,<-rV]at this;exact this.mono fun r w' q=>⟨q.1,hW.bF h (by rw[aG];exact q.2.1) q.2.2,q.2.2⟩
 have Zw:Hid (∀(W:Wd) (e':List cr) (sj:ST) xa oa va,gD C π T (told π b F e') w wa ic xa oa W->xa=aK sj->Sp.Wf (Kr π) sj->va=aK (AL sj)->Calls prog 229 #[.agg wa,.agg (An p k tl ul tr ur av nv cv),.agg xa] W fun r w'=>r=.returned (.agg va)/\gD C π T (told π b F e') w wa ic xa oa w'):=fun W e' sj xa oa va hW e1 hw e2=>by have:=uj (told π b F e') W sj hW.k hW.a hw;rw[<-e1,<-e2,<-rV]at this;exact this.mono fun r w' q=>⟨q.1,hW.bF h q.2.1 q.2.2⟩
 obtain⟨xa,oe⟩:∃xa,xa=aK s:=⟨_,rfl⟩;obtain⟨ES,S8⟩:∃ES,ES=U.1 ++ sV π p (AL U.2.2) ++ (CN (AL U.2.2)).1 ++ (body (CN (AL U.2.2)).2.1).1:=⟨_,rfl⟩;obtain⟨RS,S0⟩:∃RS,RS=Sp.jn (Dm π) U.2.1 (CN (AL U.2.2)).2.2:=⟨_,rfl⟩;have HES:=hid S8;have yo:=hid S0;rw[<-rV,<-oe,<-S8,<-S0];rw[<-rV]at eg tR hw4;obtain⟨k0,k1,k2,k3,k4,kb⟩:=SP (w:=w) (.cells wa 217) (.cells ic 293) (.cells xa 220) (.cells zS 220) (.cells zS 220);rw[hic]at k0 k1 k2 k3 k4 kb;have H0:Hid (gD C π T (told π b F []) w wa ic xa (aK none) (((((w.alloc (.cells wa 217)).alloc (.cells (An p k tl ul tr ur av nv cv) 293)).alloc (.cells xa 220)).alloc (.cells zS 220)).alloc (.cells zS 220))):=by rw[ep,hic];exact⟨h.call kb,ay.aB kb h.le,k0,k1,k2,k3,k4⟩
 have HA:=hid h;have N6:=hid oe;have HR:=hid hr;have HCW:=hid yi;have HBW:=hid uV;have HAW:=hid haw;have VJ:=hid hic;have c4:=cell_of H0.o 4 hw4;have N4:ic[0]?=some (.int .i64 p):=by rw[hic];rfl
 have DC:ic[1]?=some (.int .i64 (k:Nat)):=by rw[hic];rfl
 have rM:ic[2]?=some (.iface tl ul):=by rw[hic];rfl
 have DP:ic[3]?=some (.iface tr ur):=by rw[hic];rfl
 have tM:ic[4]?=some (.slice av nv cv):=by rw[hic];rfl
 clear S8 S0 h hs NC yi uV gU uj haw hp hr rV hic oe k0 k1 k2 k3 k4 kb hU;go_enter func200,ntmps200;go_wp2_with fail;generalize ((((w.alloc (.cells wa 217)).alloc (.cells (An p k tl ul tr ur av nv cv) 293)).alloc (.cells xa 220)).alloc (.cells zS 220)).alloc (.cells zS 220)=W0 at *;clear c4
 go_loopw [15] (fun Zz wr=>∃(j m:Nat) (ej:List cr) (oj sj:ST) (xj ua:Array Value),m+j=C.aj/\Zz=.int .i64 j/\Hid (gD C π T (told π b F ej) w wa ic xj ua wr)/\Hid (lX (Kr π) CN body p U m ej oj sj)/\Hid (xj=aK sj)/\Hid (ua=aK oj)) (fun Zz _=>C.aj - (intOf Zz).toNat)
 case atStart=>exact⟨0,C.aj,[],none,s,xa,aK none,rfl,rfl,H0,U0,N6,rfl⟩
 case round =>
  obtain⟨j,m,ej,oj,sj,xj,ua,Qa,rfl,hq,Qb,hx,hu⟩:=hrel;clear H0 U0 N6;have fu:xj.size=17:=by rw[hx.out];exact aF sj
  have kY:ua.size=17:=by rw[hu.out];exact aF oj
  have ws:=Qb.ws;have wo:=Qb.wo;cases m with
  | zero =>
   obtain rfl:j=C.aj:=by omega
   have hE:=Qb.end;obtain⟨va,hva⟩:∃q,q=aK (AL sj):=⟨_,rfl⟩;obtain⟨q1,DU⟩:∃q,q=aK (CN (AL sj)).2.1:=⟨_,rfl⟩;obtain⟨q2,uS⟩:∃q,q=aK (CN (AL sj)).2.2:=⟨_,rfl⟩;obtain⟨ra,hra⟩:∃q,q=aK RS:=⟨_,rfl⟩;obtain⟨ba,hba⟩:∃q,q=aK (body (CN (AL sj)).2.1).2:=⟨_,rfl⟩;have nY:va.size=17:=by rw[hva];exact aF _
   have v1o:va.all (·.oneCell')=true:=by rw[hva];exact aX _
   have rU:q1.size=17:=by rw[DU];exact aF _
   have Kb:q1.all (·.oneCell')=true:=by rw[DU];exact aX _
   have xo:q2.size=17:=by rw[uS];exact aF _
   have KF:q2.all (·.oneCell')=true:=by rw[uS];exact aX _
   have Hs:ra.size=17:=by rw[hra];exact aF _
   have Vo:ra.all (·.oneCell')=true:=by rw[hra];exact aX _
   have P5:=hid hva;have XB:=hid DU;have Uz:=hid uS;have Hu:=hid hra;have HBA:=hid hba;have wv:=HAW.out sj ws;have wc:=HCW.out (AL sj) wv;have yh:=HR.out;have S8:=HES.out;have S0:=yo.out;rw[hE]at yh S8 S0;have Z4:=hid yh;have HRC:=hid yh.left;have Zx:=hid S8;have HRJ:Hid (ra=aK (Sp.jn (Dm π) oj (CN (AL sj)).2.2)):=by rw[hra,S0];rfl
   have HO:=hid hq.o;have HS:=hid hq.s;have d0:=cell_of hq.c 0 N4;have d1:=cell_of hq.c 1 DC;have d2:=cell_of hq.c 2 rM;have d3:=cell_of hq.c 3 DP;have d4:=cell_of hq.c 4 tM;clear hva DU uS hra hba yh S8 S0 hE HR HES yo UON;go_wp2_with (first
    | (refine cm rfl _ rfl rfl (c:=wa) HO.out eg ?_)
    | (refine bt rfl _ rfl rfl (c:=xj) HS.out fu ?_))
   refine(Zw.out wr ej sj xj ua va hq.out hx.out ws P5.out).mono ?_;rintro r w1⟨rfl,h1⟩;have zk:=hid h1.s;have Hw:Hid (gD C π T _ w wa ic va ua _):=h1.Vc HA.out va fu nY;clear h1 d0 d1 d2 d3 d4 HO HS;go_wp2_with (first
    | (refine bV rfl _ _ rfl rfl (c:=xj) (d:=va) rfl (by exact zk.out) fu nY v1o ?_))
   generalize w1.setCells (w.heap.size+1+1) 0 va.toList=w2 at *;have H2:Hid (gD C π T (told π b F ej) w wa ic va ua w2.drew):=Hw.call (Below.refl _ _).drew;refine wp_region_held_drew (S:=fun w':Wd=>∃e',gD C π T (told π b F e') w wa ic va ua w') (by kernel_rfl) ⟨_,H2.out⟩ (fun aa=>?_);refine mj 0 rfl (yieldsIf_load_mid (by rfl) _ _ rfl _ _ rfl (wa).toList _ (fun w' h=>(h.elim fun _ h=>aT h.o)) underlying217 rfl (by rw[fD,Array.length_toList,eg])) aa ?_;refine mj 4 rfl (yieldsIf_load_mid (by rfl) _ _ rfl _ _ rfl (va).toList _ (fun w' h=>(h.elim fun _ h=>aT h.s)) underlying220 rfl (by rw[bP,Array.length_toList,nY])) aa ?_;refine tq 1 (.pointer (some ⟨w.heap.size+1,0,none⟩)) aa ?_;refine tk 2 (.int .i64 p) rfl (fun w' h=>by obtain⟨_,h⟩:=h;have d0:=cell_of h.c 0 N4;go_simp) aa ?_;refine cH 3 fun K hK=>?_
   simp only[bT,gN,Array.toArray_toList];go_simp;refine(fB p _).mono ?_;rintro r w0⟨rfl,rfl⟩;go_wp2_with fail;refine hK.out _ _ aa (fun aa=>?_);clear hK K;refine cH 5 fun K hK=>?_
   simp only[bT];go_simp;refine(Q9.out _ ej (AL sj) va ua H2.out P5.out wv).mono ?_;rintro r w3⟨rfl,h3⟩;go_wp2_with fail;refine hK.out _ _ ⟨_,h3⟩ (fun _=>?_);clear hK K aa;refine wpAnyH_done (by kernel_rfl) ?_ _;have Rh:=hid h3;have W8:=hid h3.o;have KC:=hid h3.s;have c1:=cell_of h3.c 1 DC;have c2:=cell_of h3.c 2 rM;have c3:=cell_of h3.c 3 DP;clear h3 H2 Hw zk;go_wp2_with (first
    | (refine cm rfl _ rfl rfl (c:=wa) W8.out eg ?_)
    | (refine bt rfl _ rfl rfl (c:=va) KC.out nY ?_))
   refine(QM.out _ _ (AL sj) va ua q1 q2 Rh.out P5.out wv HRC.out XB.out Uz.out).mono ?_;rintro r w4⟨rfl,h4⟩;obtain⟨t1,t2,t3,t4,tb⟩:=ru w4 q1 q2 rU xo;have F6:=hid t1;have Bg:=hid t2;have hp8:w.heap.size+1+1+1+1<w4.heap.size:=ah h4.u;have DK:Hid (gD C π T _ w wa ic va ua _):=h4.call tb;have T3:=hid t3;have T4:=hid t4;have UE:=hid DK.o;have HU5:=hid DK.u;have c4:=cell_of DK.c 4 tM;have c7:=cell_of DK.o 7 tR;clear t1 t2 t3 t4 tb h4 c1 c2 c3 W8 KC Rh;cases b with
   | true =>
    simp only[if_true]at c7;go_wp2_with (first
     | (refine bV rfl _ _ rfl rfl (c:=zS) (d:=q1) rfl (by exact F6.out) rfl rU Kb ?_)
     | (refine bV rfl _ _ rfl rfl (c:=zS) (d:=q2) rfl (by exact Bg.out) rfl xo KF ?_)
     | (refine cm rfl _ rfl rfl (c:=wa) (by exact UE.out) eg ?_)
     | (refine bt rfl _ rfl rfl (c:=q1) (by exact T3.out) rU ?_))
    generalize ((((w4.alloc (.cells zS 220)).alloc (.cells zS 220)).setCells w4.heap.size 0 q1.toList).setCells (w4.heap.size+1) 0 q2.toList)=w5 at *;refine(WA.out w5 _ (CN (AL sj)).2.1 va ua q1 ba DK.out XB.out wc.1 Z4.out HBA.out).mono ?_;rintro r w6⟨rfl,h6,b6⟩;have t6:=b6.aW HA.out (by omega) T4.out;have T6:=hid t6;have HI6:=hid h6;have HO6:=hid h6.o;have HU6:=hid h6.u;clear h6 b6 t6 c4 c7 T3 T4 UE HU5 DK F6 Bg;go_wp2_with (first
     | (refine cm rfl _ rfl rfl (c:=wa) (by exact HO6.out) eg ?_)
     | (refine bt rfl _ rfl rfl (c:=ua) (by exact HU6.out) kY ?_)
     | (refine bt rfl _ rfl rfl (c:=q2) (by exact T6.out) xo ?_))
    refine(NQ.out w6 _ oj (CN (AL sj)).2.2 ua q2 ra va ua HI6.out hu.out Uz.out wo wc.2 HRJ.out).mono ?_;rintro r w7⟨rfl,b7⟩;have h7:=HI6.call b7;have HZ7:=hid h7.z;have Xp:=hid h7;have gA:Hid (_=_):=ar h7.z (d:=ra) (by rw[Hs];rfl);have fH:Hid (Below w.heap.size w7 _):=au (b:=w.heap.size+1+1+1) (by omega) ra.toList 0 w7 _ (Below.refl _ _);clear h7 b7;go_wp2_with (first
     | (refine bV rfl _ _ rfl rfl rfl HZ7.out rfl Hs Vo ?_))
    refine bodyPost_ret (aN results200 _ _ rfl gA.out Hs) rfl ⟨by rw[Hu.out],?_,ay.upon HA.out Xp.k fH.out⟩;rw[Zx.out];exact HA.upon Xp.a fH.out
   | false =>
    simp only[Bool.false_eq_true,if_false]at c7;go_wp2_with (first
     | (refine bV rfl _ _ rfl rfl (c:=zS) (d:=q1) rfl (by exact F6.out) rfl rU Kb ?_)
     | (refine bV rfl _ _ rfl rfl (c:=zS) (d:=q2) rfl (by exact Bg.out) rfl xo KF ?_)
     | (refine cm rfl _ rfl rfl (c:=wa) (by exact UE.out) eg ?_)
     | (refine bt rfl _ rfl rfl (c:=ua) (by exact HU5.out) kY ?_)
     | (refine bt rfl _ rfl rfl (c:=q2) (by exact T4.out) xo ?_))
    generalize ((((w4.alloc (.cells zS 220)).alloc (.cells zS 220)).setCells w4.heap.size 0 q1.toList).setCells (w4.heap.size+1) 0 q2.toList)=w6 at *;refine(NQ.out w6 _ oj (CN (AL sj)).2.2 ua q2 ra va ua DK.out hu.out Uz.out wo wc.2 HRJ.out).mono ?_;rintro r w7⟨rfl,b7⟩;have h7:=DK.call b7;have HZ7:=hid h7.z;have Xp:=hid h7;have gA:Hid (_=_):=ar h7.z (d:=ra) (by rw[Hs];rfl);have fH:Hid (Below w.heap.size w7 _):=au (b:=w.heap.size+1+1+1) (by omega) ra.toList 0 w7 _ (Below.refl _ _);clear h7 b7;go_wp2_with (first
     | (refine bV rfl _ _ rfl rfl rfl HZ7.out rfl Hs Vo ?_))
    refine bodyPost_ret (aN results200 _ _ rfl gA.out Hs) rfl ⟨by rw[Hu.out],?_,ay.upon HA.out Xp.k fH.out⟩;exact HA.upon Xp.a fH.out
  | succ m =>
   have DH:((j:Nat):Int)<((C.aj:Nat):Int):=by omega
   have wc:=HCW.out sj ws;obtain⟨q1,DU⟩:∃q,q=aK (CN sj).2.1:=⟨_,rfl⟩;obtain⟨q2,uS⟩:∃q,q=aK (CN sj).2.2:=⟨_,rfl⟩;obtain⟨oa,hoa⟩:∃q,q=aK (Sp.jn (Dm π) oj (CN sj).2.2):=⟨_,rfl⟩;obtain⟨sa,Tl⟩:∃q,q=aK (body (CN sj).2.1).2:=⟨_,rfl⟩;have rU:q1.size=17:=by rw[DU];exact aF _
   have Kb:q1.all (·.oneCell')=true:=by rw[DU];exact aX _
   have xo:q2.size=17:=by rw[uS];exact aF _
   have KF:q2.all (·.oneCell')=true:=by rw[uS];exact aX _
   have o17:oa.size=17:=by rw[hoa];exact aF _
   have o1o:oa.all (·.oneCell')=true:=by rw[hoa];exact aX _
   have Uu:sa.size=17:=by rw[Tl];exact aF _
   have s1o:sa.all (·.oneCell')=true:=by rw[Tl];exact aX _
   have XB:=hid DU;have Uz:=hid uS;have HOA:=hid hoa;have HSA:=hid Tl;clear DU uS hoa Tl;obtain⟨more,Rb⟩:=Qb.parts;have yh:=HR.out;rw[Rb]at yh;have Zr:df b F (ej ++ sV π p sj ++ (CN sj).1 ++ (body (CN sj).2.1).1):=yh.left.left.left.left;have HRC:=hid Zr.left;have Z4:=hid Zr;have FU:=hid (UON.out m ej oj sj Qb.out);clear yh Zr Rb;go_wp2_with fail;have HO:=hid hq.o;have H1:Hid (gD C π T (told π b F ej) w wa ic xj ua wr.drew):=hq.call (Below.refl _ _).drew;refine wp_region_held_drew (S:=fun w':Wd=>∃e',gD C π T (told π b F e') w wa ic xj ua w') (by kernel_rfl) ⟨_,H1.out⟩ (fun aa=>?_);refine mj 0 rfl (yieldsIf_load_mid (by rfl) _ _ rfl _ _ rfl (wa).toList _ (fun w' h=>(h.elim fun _ h=>aT h.o)) underlying217 rfl (by rw[fD,Array.length_toList,eg])) aa ?_;refine mj 4 rfl (yieldsIf_load_mid (by rfl) _ _ rfl _ _ rfl (xj).toList _ (fun w' h=>(h.elim fun _ h=>aT h.s)) underlying220 rfl (by rw[bP,Array.length_toList,fu])) aa ?_;refine tq 1 (.pointer (some ⟨w.heap.size+1,0,none⟩)) aa ?_;refine tk 2 (.int .i64 p) rfl (fun w' h=>by obtain⟨_,h⟩:=h;have d0:=cell_of h.c 0 N4;go_simp) aa ?_;refine cH 3 fun K hK=>?_
   simp only[bT,gN,Array.toArray_toList];go_simp;refine(fB p _).mono ?_;rintro r w0⟨rfl,rfl⟩;go_wp2_with fail;refine hK.out _ _ aa (fun aa=>?_);clear hK K;refine cH 5 fun K hK=>?_
   simp only[bT];go_simp;refine(Q9.out _ ej sj xj ua H1.out hx.out ws).mono ?_;rintro r w1⟨rfl,h1⟩;go_wp2_with fail;refine hK.out _ _ ⟨_,h1⟩ (fun _=>?_);clear hK K aa;refine wpAnyH_done (by kernel_rfl) ?_ _;have HI1:=hid h1;have Hk:=hid h1.o;have zk:=hid h1.s;have c1:=cell_of h1.c 1 DC;have c2:=cell_of h1.c 2 rM;have c3:=cell_of h1.c 3 DP;clear h1 H1 HO;go_wp2_with (first
    | (refine cm rfl _ rfl rfl Hk.out eg ?_)
    | (refine bt rfl _ rfl rfl zk.out fu ?_))
   refine(QM.out _ _ sj xj ua q1 q2 HI1.out hx.out ws HRC.out XB.out Uz.out).mono ?_;rintro r w2⟨rfl,h2⟩;obtain⟨t1,t2,t3,t4,tb⟩:=ru w2 q1 q2 rU xo;have F6:=hid t1;have Bg:=hid t2;have hp8:w.heap.size+1+1+1+1<w2.heap.size:=ah h2.u;have Rh:Hid (gD C π T _ w wa ic xj ua _):=h2.call tb;have T3:=hid t3;have T4:=hid t4;have W8:=hid Rh.o;have HU3:=hid Rh.u;clear t1 t2 t3 t4 tb h2 c1 c2 c3 Hk zk HI1;go_wp2_with (first
    | (refine bV rfl _ _ rfl rfl (c:=zS) (d:=q1) rfl (by exact F6.out) rfl rU Kb ?_)
    | (refine bV rfl _ _ rfl rfl (c:=zS) (d:=q2) rfl (by exact Bg.out) rfl xo KF ?_)
    | (refine cm rfl _ rfl rfl (c:=wa) (by exact W8.out) eg ?_)
    | (refine bt rfl _ rfl rfl (c:=ua) (by exact HU3.out) kY ?_)
    | (refine bt rfl _ rfl rfl (c:=q2) (by exact T4.out) xo ?_))
   generalize ((((w2.alloc (.cells zS 220)).alloc (.cells zS 220)).setCells w2.heap.size 0 q1.toList).setCells (w2.heap.size+1) 0 q2.toList)=w3 at *;refine(NQ.out w3 _ oj (CN sj).2.2 ua q2 oa xj ua Rh.out hu.out Uz.out wo wc.2 HOA.out).mono ?_;rintro r w4⟨rfl,b4⟩;have h4:=Rh.call b4;have HU4:=hid h4.u;have DK:Hid (gD C π T _ w wa ic xj oa _):=h4.YZ HA.out oa kY o17;have hw3:=ah T3.out;have t5:(w4.setCells (w.heap.size+1+1+1+1) 0 oa.toList).heap[w2.heap.size]?=some (.cells q1 220):=(al _ _ _ _ (by omega)).trans ((b4.block _ (ah T3.out)).trans T3.out);have T5:=hid t5;have UE:=hid DK.o;have c4:=cell_of DK.c 4 tM;clear b4 h4 t5 W8 HU3 T3 T4 F6 Bg Rh;go_wp2_with (first
    | (refine bV rfl _ _ rfl rfl (c:=ua) (d:=oa) rfl (by exact HU4.out) kY o17 o1o ?_)
    | (refine cm rfl _ rfl rfl (c:=wa) (by exact UE.out) eg ?_)
    | (refine bt rfl _ rfl rfl (c:=q1) (by exact T5.out) rU ?_))
   generalize w4.setCells (w.heap.size+1+1+1+1) 0 oa.toList=w5 at *;refine(WA.out w5 _ (CN sj).2.1 xj oa q1 sa DK.out XB.out wc.1 Z4.out HSA.out).mono ?_;rintro r w6⟨rfl,h6,_⟩;have HS6:=hid h6.s;have HQ:Hid (gD C π T _ w wa ic sa oa _):=h6.Vc HA.out sa fu Uu;clear h6 c4 T5 UE DK HU4;go_wp2_with (first
    | (refine bV rfl _ _ rfl rfl (c:=xj) (d:=sa) rfl (by exact HS6.out) fu Uu s1o ?_))
   exact⟨⟨j+1,m,_,_,_,sa,oa,by omega,by go_num,HQ,FU,HSA,HOA⟩,by simp[intOf];omega⟩
theorem ng(p:Int)(k:Nat)(hk:k<8)(tv:TypeId)(uv:Value)(C:Cx)(π:bO)(T:gB)(F:Fd)(b:Bool)(w:Wd)(e:Fin 8->Sp.Iv)(es:List cr)(o:Option Sp.Iv)(h:aM C π T F w)
  (hs:mV C π T F b (.iface tv uv) e es o) (u:ST) (hu:u=o.map fun v=>(show Fin 8->Sp.Iv from gZ (Dm π) e k v)) :
  Calls prog 158 #[.agg (wk C b),.agg #[.int .i64 p,.int .i64 (k:Nat),.iface tv uv],.agg (aK (some e))] w (fF C π T F b w es u):=by
 obtain⟨k0,k1,k2,k3,kb⟩:=bM (w:=w) (o1:=.cells (wk C b) 217) (o2:=.cells #[.int .i64 p,.int .i64 (k:Nat),.iface tv uv] 279) (o3:=.cells (aK (some e)) 220) (o4:=.cells zS 220) (Below.refl _ _);have HW:=hs _ (h.call kb);have eg:=cC C b;have eH:=aF (some e);have tS:(k:Int)<8:=by omega
 obtain⟨x0,x1⟩:=uM e ⟨k,hk⟩;have Bn:Hid (∀v:Sp.Iv,_=_):=fun v=>z8 (π:=π) e k hk v
 have Hk:Hid (∀v:Sp.Iv,(aK (show ST from some (gZ (Dm π) e k v))).size=17/\(aK (show ST from some (gZ (Dm π) e k v))).all (·.oneCell')=true):=fun v=>⟨aF _,aX _⟩
 generalize e ⟨k,hk⟩=x at *;simp only at x0 x1;obtain⟨na,qH⟩:∃na,na=eX:=⟨_,rfl⟩;have rO:na.size=17:=by rw[qH];rfl
 have pV:=hid qH;generalize wk C b=wa at *;generalize aK (some e)=xa at *;have K0:=hid k0;have K1:=hid k1;have K2:=hid k2;have K3:=hid k3;have c2:=cell_of k1 2 (v:=.iface tv uv) rfl;have HB:=hid kb;have HA:=hid h;have l1:w.heap.size<=w.heap.size+1:=by omega
 have l2:w.heap.size<=w.heap.size+1+1:=by omega
 have l3:w.heap.size<=w.heap.size+1+1+1:=by omega
 clear h hs k0 k1 k2 k3 kb qH;go_enter func158,ntmps158;go_wp2_with (first
  | (refine cm rfl _ rfl rfl K0.out eg ?_)
  | (refine bt rfl _ rfl rfl K2.out eH ?_))
 refine HW.mono ?_;rintro r w1⟨rfl,a1,b1⟩;have dI:w.heap.size<=w1.heap.size:=Nat.le_trans HB.size b1.below.size;have xF:Hid (_=_):=b1.aW HA.out l3 K3.out;have QK:Hid (_=_):=b1.aW HA.out l2 K2.out;have DV:Hid (_=_):=b1.aW HA.out l1 K1.out;have nN:=hid a1;have mx:Hid (ay C w w1):=(ay.aB HB.out HA.le).trans b1;clear a1 b1 HW;cases o with
 | none =>
  obtain rfl:u=none:=hu;have Ks:=below_alloc1 w1 (.cells #[.int .i16 0,.int .i16 0] 131);have ek:=(Ks.block _ (ah xF.out)).trans xF.out;have jt:=hid ek;have gA:Hid (_=_):=ar ek (d:=na) (by rw[rO];rfl);have fH:Hid (Below w.heap.size w1 _):=au (b:=w.heap.size+1+1+1) l3 na.toList 0 w1 _ (Ks.mono dI);clear ek Ks;simp only[ub];go_wp2_with (first
   | (refine As rfl _ _ rfl rfl rfl pV.out jt.out rfl ?_))
  refine bodyPost_ret (aN results158 _ _ rfl gA.out rO) rfl ⟨by rw[pV.out];rfl,HA.upon nN.out fH.out,ay.upon HA.out mx.out fH.out⟩
 | some v =>
  have A6:Hid (u=(show ST from some (gZ (Dm π) e k v))):=hu;clear hu;have Ks:=below_alloc1 w1 (.cells #[.int .i16 v.a,.int .i16 v.b] 131);obtain⟨n0,n1,_,_,_⟩:=aH (heap_alloc_new w1 (.cells #[.int .i16 v.a,.int .i16 v.b] 131));have my:=(Ks.block _ (ah QK.out)).trans QK.out;have ek:=(Ks.block _ (ah xF.out)).trans xF.out;have rM:=(Ks.block _ (ah DV.out)).trans DV.out;have e1:=cell_of rM 1 (v:=.int .i64 (k:Nat)) rfl;have y0:=cell_of my _ x0;have y1:=cell_of my _ x1;have f0:=aw my (1+k*2);have f1:=aw my (1+k*2+1);have xr:=ai (ai my (1+k*2) (.int .i16 v.a)) (1+k*2+1) (.int .i16 v.b);rw[Bn.out v]at xr;have Dt:w.heap.size+1+1+1≠w.heap.size+1+1:=by omega
  have js:(((w1.alloc (.cells #[.int .i16 v.a,.int .i16 v.b] 131)).setCell ⟨w.heap.size+1+1,1+k*2,none⟩ (.int .i16 v.a)).setCell ⟨w.heap.size+1+1,1+k*2+1,none⟩ (.int .i16 v.b)).heap[w.heap.size+1+1+1]?=some (.cells zS 220):=by rw[Below.heap_setCell _ _ _ _ (show w.heap.size+1+1+1≠(⟨w.heap.size+1+1,1+k*2+1,none⟩:Addr).block from Dt),Below.heap_setCell _ _ _ _ (show w.heap.size+1+1+1≠(⟨w.heap.size+1+1,1+k*2,none⟩:Addr).block from Dt)];exact ek
  have DQ:=hid xr;have Kv:=hid js;obtain⟨o1,o2⟩:=Hk.out v;have gA:Hid (_=_):=ar js (d:=aK (show ST from some (gZ (Dm π) e k v))) (by rw[o1];rfl);have fH:Hid (Below w.heap.size w1 _):=au (b:=w.heap.size+1+1+1) l3 (aK (show ST from some (gZ (Dm π) e k v))).toList 0 w1 _ (((Ks.mono dI).setCell (p:=⟨w.heap.size+1+1,1+k*2,none⟩) l2 (.int .i16 v.a)).setCell (p:=⟨w.heap.size+1+1,1+k*2+1,none⟩) l2 (.int .i16 v.b));clear xr js my ek rM Ks Bn Hk;generalize rS:aK (show ST from some (gZ (Dm π) e k v))=za at *;have Ty:=hid rS;clear rS;simp only[ub];go_wp2_with (first
   | (refine bt rfl _ rfl rfl (c:=za) (by exact DQ.out) o1 ?_)
   | (refine bV rfl _ _ rfl rfl (c:=zS) (d:=za) rfl (by exact Kv.out) rfl o1 o2 ?_))
  refine bodyPost_ret (aN results158 _ _ rfl gA.out o1) rfl ⟨by rw[A6.out];exact congrArg (fun z=>Ending.returned (.agg z)) Ty.symm,HA.upon nN.out fH.out,ay.upon HA.out mx.out fH.out⟩
structure ku(C:Cx)(π:bO)(T:gB)(F:Fd)(w:Wd)(wa ic xa:Array Value)(W:Wd):Prop where
 a:aM C π T F W
 k:ay C w W
 o:W.heap[w.heap.size]?=some (.cells wa 217)
 c:W.heap[w.heap.size+1]?=some (.cells ic 293)
 s:W.heap[w.heap.size+1+1]?=some (.cells xa 220)
 z:W.heap[w.heap.size+1+1+1]?=some (.cells zS 220)
theorem ku.call(h:ku C π T F w wa ic xa W)(k:Below W.heap.size W W'):ku C π T F w wa ic xa W' :=
 ⟨h.a.call k,h.k.trans (ay.aB k h.a.le),(k.block _ (ah h.o)).trans h.o,(k.block _ (ah h.c)).trans h.c,(k.block _ (ah h.s)).trans h.s,(k.block _ (ah h.z)).trans h.z⟩
theorem ku.bF(h:ku C π T F w wa ic xa W)(h0:aM C π T F0 w)(ha:aM C π T F' W')(k:ay C W W'):ku C π T F' w wa ic xa W' :=
 ⟨ha,h.k.trans k,k.aW h0 (Nat.le_refl _) h.o,k.aW h0 (by omega) h.c,k.aW h0 (by omega) h.s,k.aW h0 (by omega) h.z⟩
theorem ku.put(h:ku C π T F w wa ic xa W)(h0:aM C π T F0 w)(hp:w.heap.size+1+1+1<p)(l:List Value):ku C π T F w wa ic xa (W.setCells p 0 l):=by have hb:Below w.heap.size W (W.setCells p 0 l):=au (b:=p) (by omega) l 0 W _ (Below.refl _ _);exact⟨h0.upon h.a hb,ay.upon h0 h.k hb,(al _ _ _ _ (by omega)).trans h.o,(al _ _ _ _ (by omega)).trans h.c,(al _ _ _ _ (by omega)).trans h.s,(al _ _ _ _ (by omega)).trans h.z⟩
theorem SE{Q:Exit->Act->Wd->Prop}(qI:op.guard=none){parts:Array (Nat × Operand)}(ho:op.op=.build t parts)(hp:(parts.map fun(i,x)=>(i,a.eval x))=vals)(hb:(Instr.build t vals).run prog w=.ok v w)
  (k:wpList prog ops Q rest (a.put op.dst v) w):wpList prog ops Q (op :: rest) a w :=
 wpList_plain qI fun _ hK=>by unfold Oper.wp execOp;simp only[ho,hp,Sem.run_bind,Sem.run_pure,Result.andThen_ok,hb];exact hK _ _ k
theorem j7{S:Wd->Prop}(hw:Region.wanted op (yielded ops a.tmps)=true){parts:Array (Nat × Operand)}(ho:op.op=.build t parts)(hp:(parts.map fun(i,x)=>(i,a.eval x))=vals)(hb:∀w,(Instr.build t vals).run prog w=.ok v w):YieldsIf prog ops S op v a :=
 .inl ⟨hw,fun w _=>by unfold execOp;simp only[ho,hp,Sem.run_bind,Sem.run_pure,Result.andThen_ok,hb]⟩
theorem Aj{Q:Exit->Act->Wd->Prop}(qI:op.guard=none){x y:Operand}{c:Bool}(ho:op.op=.lookup t x y c)(hx:a.eval x=m)(hy:a.eval y=ky)(hb:(Instr.lookup t m ky c).run prog w=.ok v w)
  (k:wpList prog ops Q rest (a.put op.dst v) w):wpList prog ops Q (op :: rest) a w :=
 wpList_plain qI fun _ hK=>by unfold Oper.wp execOp;simp only[ho,hx,hy,Sem.run_bind,Sem.run_pure,Result.andThen_ok,hb];exact hK _ _ k
theorem Ik{Q:Exit->Act->Wd->Prop}(qI:op.guard=none){x y z:Operand}(ho:op.op=.mapUpdate t x y z)(hx:a.eval x=m)(hy:a.eval y=ky)(hz:a.eval z=vv)(hb:(Instr.mapUpdate t m ky vv).run prog w=.ok () w')
  (k:wpList prog ops Q rest (a.put op.dst undef) w'):wpList prog ops Q (op :: rest) a w :=
 wpList_plain qI fun _ hK=>by unfold Oper.wp execOp;simp only[ho,hx,hy,hz,Sem.run_bind,Sem.run_pure,Result.andThen_ok,hb];exact hK _ _ k
theorem zI{Q:Exit->Act->Wd->Prop}(qI:op.guard=none)(x:Operand)(ho:op.op=.load 365 x)(hx:a.eval x=.pointer (some ⟨b,0,none⟩))(h:Bk w b c 365)(hc:c.size=18)
  (k:wpList prog ops Q rest (a.put op.dst (.agg c)) w):wpList prog ops Q (op :: rest) a w:=by
 refine wpList_load_mid qI 365 x ho b 0 hx c.toList _ (aT h) underlying365 rfl (by rw[ET];simp[hc]) ?_;simpa using k
theorem Eh{Q:Exit->Act->Wd->Prop}(P:Wd->Prop)(qI:op.guard=none)(x y:Operand)(ho:op.op=.store 367 x y)(hx:a.eval x=.pointer (some ⟨b,0,none⟩))(hy:a.eval y=.agg d)(h:Bk w b c 367)(hc:c.size=18)(hd:d.size=18)(h1:d.all (·.oneCell')=true)(hP:P (w.setCells b 0 d.toList))
  (k:∀W,P W->wpList prog ops Q rest (a.put op.dst undef) W):wpList prog ops Q (op :: rest) a w :=
 wpList_plain qI fun _ hK=>wp_store_mid 367 x y ho b 0 d hx hy (by rw[hd,<-hc];exact bI h) (by rw[SK,hd]) h1 (hK _ _ (k _ hP))
theorem Mm{Q:Exit->Act->Wd->Prop}(qI:op.guard=none)(x:Operand)(ho:op.op=.load 220 x)(hx:a.eval x=.pointer (some ⟨b,0,none⟩))(h:w.rangeAt b 0 c.toList)(hc:c.size=17)
  (k:wpList prog ops Q rest (a.put op.dst (.agg c)) w):wpList prog ops Q (op :: rest) a w:=by
 refine wpList_load_mid qI 220 x ho b 0 hx c.toList _ h underlying220 rfl (by rw[bP];simp[hc]) ?_;simpa using k
theorem Jt{t:ST}{d:Bool}(h:Bk w b (km t d) 367):w.rangeAt b 0 (aK t).toList:=fun j v hv=>by
 have hj:j<17:=by have:=(List.getElem?_eq_some_iff.1 hv).1;rw[dz]at this;exact this
 rw[Nat.zero_add];refine cell_of h j ?_;rw[FN t d hj];simpa using hv
theorem SC(w:Wd)(ka:Array Value)(h:ka.size=18) :
  (w.alloc (.cells zP 367)).heap[w.heap.size]?=some (.cells zP 367)/\((w.alloc (.cells zP 367)).setCells w.heap.size 0 ka.toList).heap[w.heap.size]?=some (.cells ka 367)/\Below w.heap.size w ((w.alloc (.cells zP 367)).setCells w.heap.size 0 ka.toList):=by
 have a1:=heap_alloc_new w (.cells zP 367);exact⟨a1,ar a1 (by rw[h];rfl),au (Nat.le_refl _) _ _ _ _ (below_alloc1 w _)⟩
theorem wU(π:bO)(b:Bool)(F:Fd)(es:List cr):b=true->iO (Kr π) (told π b F es) es:=by intro hb;subst hb;exact sY (D:=Dm π) (K:=Kr π) es F
theorem jU(p:Int)(hp:0<=p/\p<=1000000)(k:Nat)(tl:TypeId)(ul:Value)(tr:TypeId)(ur:Value)(av:Option Addr)(nv cv:Nat)(C:Cx)(π:bO)(T:gB)(F:Fd)(b:Bool)(w:Wd)(s:ST)(h:aM C π T F w)(hs:Sp.Wf (Kr π) s)
  (har:∀W,ay C w W->aM C π T F W->Calls prog 200 #[.agg (wk C b),.agg (An p k tl ul tr ur av nv cv),.agg (aK s)] W (fF C π T F b W (T p s).1 (T p s).2)) :
  Calls prog 161 #[.agg (wk C b),.agg (An p k tl ul tr ur av nv cv),.agg (aK s)] w (fF C π T F b w (T p s).1 (T p s).2):=by
 have eg:=cC C b;have Zf:=RM C b;have tR:=Ci C b;obtain⟨wa,rV⟩:∃wa,wa=wk C b:=⟨_,rfl⟩;obtain⟨ic,hic⟩:∃ic,ic=An p k tl ul tr ur av nv cv:=⟨_,rfl⟩;obtain⟨xa,oe⟩:∃xa,xa=aK s:=⟨_,rfl⟩;obtain⟨ka,hka⟩:∃ka,ka=mM p s:=⟨_,rfl⟩;obtain⟨es,hes⟩:∃es,es=(T p s).1:=⟨_,rfl⟩;obtain⟨u,hu⟩:∃u,u=(T p s).2:=⟨_,rfl⟩;obtain⟨ua,hua⟩:∃ua,ua=aK u:=⟨_,rfl⟩;have HAR:Hid (∀W,ku C π T F w wa ic xa W->Calls prog 200 #[.agg wa,.agg (An p k tl ul tr ur av nv cv),.agg xa] W fun r w'=>r=.returned (.agg ua)/\ku C π T (told π b F es) w wa ic xa w'/\ay C W w'):=fun W hW=>by have:=har W hW.k hW.a;unfold fF at this;rw[<-hes,<-hu,<-hua,<-oe,<-rV]at this;exact this.mono fun r w' q=>⟨q.1,hW.bF h q.2.1 q.2.2,q.2.2⟩
 have Yb:Hid (∀W,ku C π T F w wa ic xa W->∃t d ok,(Instr.lookup PC (.map (some C.m)) (.agg ka) true).run prog W=.ok (.tuple #[.agg (km t d),.bool ok]) W/\(ok=true->u=t/\(d=true->iO (Kr π) F es))):=fun W hW=>by obtain⟨es0,cl,hm,hE⟩:=hW.a.memo;obtain⟨t,d,ok,h1,h2⟩:=IA hm hE hs hp;rw[hka,hu,hes];exact⟨t,d,ok,h1,h2⟩
 have TK:Hid (∀W,ku C π T (told π b F es) w wa ic xa W->∃W',(Instr.mapUpdate PC (.map (some C.m)) (.agg ka) (.agg (km u b))).run prog W=.ok () W'/\ku C π T (told π b F es) w wa ic xa W'/\ay C W W'):=fun W hW=>by obtain⟨es0,cl,hm,hE⟩:=hW.a.memo;obtain⟨es',cl',k1,k2⟩:=KW (t:=u) (d:=b) hm hE hs hp hu.symm (by rw[<-hes];exact wU π b F es);obtain⟨k3,k4⟩:=hW.a.OF (cl:=cl') k2;rw[hka];exact⟨_,k1,hW.bF h k3 k4,k4⟩
 have KH:Hid (∀W,(Instr.build 365 #[(0,.int .i64 p),(1,.agg xa)]).run prog W=.ok (.agg ka) W):=fun W=>by rw[oe,hka];exact LV p s W
 have HBP:Hid (∀W,(Instr.build 367 #[(0,.agg ua),(1,.bool b)]).run prog W=.ok (.agg (km u b)) W):=fun W=>by rw[hua];exact Mw u b W
 have fu:xa.size=17:=by rw[oe];exact aF s
 have DB:ka.size=18:=by rw[hka];exact I7 p s
 have k1o:ka.all (·.oneCell')=true:=by rw[hka];exact L6 p s
 have Hs:ua.size=17:=by rw[hua];exact aF u
 have Vo:ua.all (·.oneCell')=true:=by rw[hua];exact aX u
 rw[<-rV]at eg Zf tR;rw[<-rV,<-oe,<-hes,<-hu];have N4:ic[0]?=some (.int .i64 p):=by rw[hic];rfl
 have DC:ic[1]?=some (.int .i64 (k:Nat)):=by rw[hic];rfl
 have rM:ic[2]?=some (.iface tl ul):=by rw[hic];rfl
 have DP:ic[3]?=some (.iface tr ur):=by rw[hic];rfl
 have tM:ic[4]?=some (.slice av nv cv):=by rw[hic];rfl
 obtain⟨k0,k1,k2,k3,kb⟩:=bM (w:=w) (o1:=.cells wa 217) (o2:=.cells ic 293) (o3:=.cells xa 220) (o4:=.cells zS 220) (Below.refl _ _);have H0:Hid (ku C π T F w wa ic xa ((((w.alloc (.cells wa 217)).alloc (.cells (An p k tl ul tr ur av nv cv) 293)).alloc (.cells xa 220)).alloc (.cells zS 220))):=by rw[<-hic];exact⟨h.call kb,ay.aB kb h.le,k0,k1,k2,k3⟩
 have HA:=hid h;have HUA:=hid hua;clear h hs har hp rV hic oe hka hes hu hua k0 k1 k2 k3 kb;go_enter func161,ntmps161;go_wp2_with fail;generalize (((w.alloc (.cells wa 217)).alloc (.cells (An p k tl ul tr ur av nv cv) 293)).alloc (.cells xa 220)).alloc (.cells zS 220)=W0 at *
 go_cut [7] from 11 to 15 (fun v7 wc=>∃kE:Nat,v7=.pointer (some ⟨kE,0,none⟩)/\Hid (w.heap.size+1+1+1<kE/\ku C π T F w wa ic xa wc/\wc.heap[kE]?=some (.cells ka 365)))
 case first =>
  have H1:Hid (ku C π T F w wa ic xa W0.drew):=H0.call (Below.refl _ _).drew;refine wp_region_held_drew (S:=fun w':Wd=>ku C π T F w wa ic xa w') (by kernel_rfl) H1.out (fun aa=>?_);refine mj 3 rfl (yieldsIf_load_mid (by rfl) _ _ rfl _ _ rfl (xa).toList _ (fun w' h=>aT h.s) underlying220 rfl (by rw[bP,Array.length_toList,fu])) aa ?_;refine tq 0 (.pointer (some ⟨w.heap.size+1,0,none⟩)) aa ?_;refine tk 1 (.int .i64 p) rfl (fun w' h=>by have d0:=cell_of h.c 0 N4;go_simp) aa ?_;refine Kn 2 5 ?_ ?_
  ·intro K hK
   simp only[bT,gN,Array.toArray_toList];go_simp;refine(fB p _).mono ?_;rintro r w0⟨rfl,rfl⟩;go_wp2_with fail;refine hK.out _ _ aa (fun aa=>?_);clear hK K;refine mj 4 (v:=.agg ka) rfl (j7 (by rfl) rfl (vals:=#[(0,.int .i64 p),(1,.agg xa)]) (by kernel_rfl) KH.out) aa ?_;refine cH 5 fun K hK=>?_
   simp only[bT];have hp:w.heap.size+1+1+1<W0.drew.heap.size:=ah aa.z;have kb:=below_alloc1 W0.drew (.cells zE 365);have hz:=heap_alloc_new W0.drew (.cells zE 365);have hh:=aa.call kb;clear kb;go_simp;refine hK.out _ _ hh (fun aa=>?_);clear hK K hh;refine cH 6 fun K hK=>?_
   rw[if_pos (by rfl)];refine wp_store_mid _ _ _ rfl _ _ ka rfl rfl (by rw[DB];exact bI hz) (by rw[ET,DB]) k1o ?_;have zi:=aa.put HA.out hp ka.toList;refine hK.out _ _ zi (fun _=>?_);clear hK K;refine wpAnyH_done (by kernel_rfl) ?_ _;go_wp2_with fail;go_meet
   case rel=>exact⟨_,rfl,hp,zi,ar hz (by rw[DB];rfl)⟩
  ·intro K hK
   simp only[bT,gN,Array.toArray_toList];have hp:w.heap.size+1+1+1<W0.drew.heap.size:=ah aa.z;have kb:=below_alloc1 W0.drew (.cells zE 365);have hz:=heap_alloc_new W0.drew (.cells zE 365);have hh:=aa.call kb;clear kb;go_simp;refine hK.out _ _ hh (fun aa=>?_);clear hK K hh;refine cH 2 fun K hK=>?_
   simp only[bT];go_simp;refine(fB p _).mono ?_;rintro r w0⟨rfl,rfl⟩;go_wp2_with fail;refine hK.out _ _ aa (fun aa=>?_);clear hK K;refine mj 4 (v:=.agg ka) rfl (j7 (by rfl) rfl (vals:=#[(0,.int .i64 p),(1,.agg xa)]) (by kernel_rfl) KH.out) aa ?_;refine cH 6 fun K hK=>?_
   simp only[bT,gN];rw[if_pos (by rfl)];refine wp_store_mid _ _ _ rfl _ _ ka rfl rfl (by rw[DB];exact bI hz) (by rw[ET,DB]) k1o ?_;have zi:=aa.put HA.out hp ka.toList;refine hK.out _ _ zi (fun _=>?_);clear hK K;refine wpAnyH_done (by kernel_rfl) ?_ _;go_wp2_with fail;go_meet
   case rel=>exact⟨_,rfl,hp,zi,ar hz (by rw[DB];rfl)⟩
 case rest =>
  obtain⟨kE,rfl,hE⟩:=hcut;obtain⟨t,d,ok,Hf,rT⟩:=Yb.out _ hE.2.1;have WB:=hid Hf;have tQ:=hid rT;have Ya:=hid hE.2.2;have d6:=cell_of hE.2.1.o 6 Zf;have d7:=cell_of hE.2.1.o 7 tR;have WC:=Ij t d;have Yx:=LJ t d;obtain⟨t1,t2,tb⟩:=SC wc (km t d) WC;have T1:=hid t1;have dj:=ah hE.2.2;have DG:Hid (ku C π T F w wa ic xa _/\_/\_):=⟨hE.2.1.call tb,(tb.block _ dj).trans hE.2.2,t2⟩;have HL:=hid hE.1;have t17:=aF t;have t1o:=aX t;obtain⟨ta,VP⟩:∃ta,ta=aK t:=⟨_,rfl⟩;rw[<-VP]at t17 t1o;have HTA:=hid VP;have pG:=Jl t d;have Yj:Hid (∀(W:Wd) (q:Nat),W.heap[q]?=some (.cells (km t d) 367)->W.rangeAt q 0 ta.toList):=fun W q hW=>by rw[VP];exact Jt hW
  obtain⟨pa,hpa⟩:∃pa,pa=km t d:=⟨_,rfl⟩;rw[<-hpa]at WB WC Yx pG DG Yj;have tP:(ok=true/\d=true)∨(ok=true/\d=false/\b=false)∨(ok=false/\b=true)∨(ok=false/\b=false)∨(ok=true/\d=false/\b=true):=by
   cases ok<;>cases d<;>cases b<;>simp
  have XX:=ah T1.out;clear t1 t2 tb dj Hf rT VP hpa hE Yb XX
  rcases tP with⟨rfl,rfl⟩ | ⟨rfl,rfl,rfl⟩ | ⟨rfl,rfl⟩ | ⟨rfl,rfl⟩ | ⟨rfl,rfl,rfl⟩
  ·go_wp2_with (first
    | (refine zI rfl _ rfl rfl Ya.out DB ?_)
    | (refine Aj rfl rfl rfl rfl WB.out ?_)
    | (refine Eh (P:=fun W=>ku C π T F w wa ic xa W/\W.heap[kE]?=some (.cells ka 365)/\W.heap[wc.heap.size]?=some (.cells pa 367)) rfl _ _ rfl rfl rfl (by exact T1.out) rfl WC Yx DG.out ?_
       rintro w2⟨h2,_,rQ⟩;change Hid (wpList _ _ _ _ _ _)))
   unfold Hid;have Hw:=hid h2;have jt:=hid h2.z;have Zv:=hid (Yj.out _ _ rQ);have c17:=cell_of rQ 17 pG;clear h2 rQ d6 d7;go_upto_if 32 with fail;go_wp2_with (first
    | (refine Mm rfl _ rfl rfl Zv.out t17 ?_)
    | (refine bV rfl _ _ rfl rfl rfl jt.out rfl t17 t1o ?_))
   have gA:=ar Hw.z (d:=ta) (by rw[t17];rfl);have fH:=au (b:=w.heap.size+1+1+1) (by omega) ta.toList 0 w2 _ (Below.refl w.heap.size _);refine bodyPost_ret (aN results161 _ _ rfl gA t17) rfl ?_;obtain⟨h1,h2⟩:=tQ.out (by trivial);subst h1;unfold fF;rw[<-HTA.out];refine⟨rfl,?_,ay.upon HA.out Hw.k fH⟩;have e:told π b F es=F:=by
    cases b
    ·rfl
    ·exact y6 (abs π) Hw.a.wfF (h2 (by trivial))
   rw[e];exact HA.upon Hw.a fH
  ·go_wp2_with (first
    | (refine zI rfl _ rfl rfl Ya.out DB ?_)
    | (refine Aj rfl rfl rfl rfl WB.out ?_)
    | (refine Eh (P:=fun W=>ku C π T F w wa ic xa W/\W.heap[kE]?=some (.cells ka 365)/\W.heap[wc.heap.size]?=some (.cells pa 367)) rfl _ _ rfl rfl rfl (by exact T1.out) rfl WC Yx DG.out ?_
       rintro w2⟨h2,_,rQ⟩;change Hid (wpList _ _ _ _ _ _)))
   unfold Hid;have Hw:=hid h2;have jt:=hid h2.z;have Zv:=hid (Yj.out _ _ rQ);have c17:=cell_of rQ 17 pG;have e7:=cell_of h2.o 7 tR;clear h2 rQ d6 d7;go_upto_if 32 with fail;go_wp2_with (first
    | (refine Mm rfl _ rfl rfl Zv.out t17 ?_)
    | (refine bV rfl _ _ rfl rfl rfl jt.out rfl t17 t1o ?_))
   have gA:=ar Hw.z (d:=ta) (by rw[t17];rfl);have fH:=au (b:=w.heap.size+1+1+1) (by omega) ta.toList 0 w2 _ (Below.refl w.heap.size _);refine bodyPost_ret (aN results161 _ _ rfl gA t17) rfl ?_;obtain⟨h1,h2⟩:=tQ.out (by trivial);subst h1;unfold fF;rw[<-HTA.out];exact⟨rfl,HA.upon Hw.a fH,ay.upon HA.out Hw.k fH⟩
  all_goals
   go_wp2_with (first
    | (refine zI rfl _ rfl rfl Ya.out DB ?_)
    | (refine Aj rfl rfl rfl rfl WB.out ?_)
    | (refine Eh (P:=fun W=>ku C π T F w wa ic xa W/\W.heap[kE]?=some (.cells ka 365)/\W.heap[wc.heap.size]?=some (.cells pa 367)) rfl _ _ rfl rfl rfl (by exact T1.out) rfl WC Yx DG.out ?_
       rintro w2⟨h2,e2,rQ⟩;change Hid (wpList _ _ _ _ _ _)))
   unfold Hid;have Hw:=hid h2;have Qn:=hid h2.o;have FT:=hid h2.s;have E2:=hid e2;have c17:=cell_of rQ 17 pG;have e7:=cell_of h2.o 7 tR;have d0:=cell_of h2.c 0 N4;have d1:=cell_of h2.c 1 DC;have d2:=cell_of h2.c 2 rM;have d3:=cell_of h2.c 3 DP;have d4:=cell_of h2.c 4 tM;clear h2 rQ d6 d7 e2;go_upto_if 32 with fail;go_wp2_with (first
    | (refine cm rfl _ rfl rfl (c:=wa) Qn.out eg ?_)
    | (refine bt rfl _ rfl rfl (c:=xa) FT.out fu ?_))
   refine(HAR.out w2 Hw.out).mono ?_;rintro r w3⟨rfl,h3,b3⟩;obtain⟨t1,t2,tb⟩:=Gr w3 ua Hs;have e3:=b3.aW HA.out (by have:=HL.out;omega) E2.out;have l3:=ah e3;have h4:=h3.call tb;have e4:=(tb.block _ l3).trans e3;have E4:=hid e4;have T4:=hid t1;have T5:=hid t2;have f6:=cell_of h4.o 6 Zf;have f7:=cell_of h4.o 7 tR;obtain⟨W',xi,h5,b5⟩:=TK.out _ h4;have HPU:=hid xi;have t6:=b5.aW HA.out (by have:=HL.out;omega) t2;have T6:=hid t6;have HZ5:=hid h5.z;have DK:=hid h5;have hr5:Hid (_=_):=ar h5.z (d:=ua) (by rw[Hs];rfl);have A5:Hid (Below w.heap.size W' _):=au (b:=w.heap.size+1+1+1) (by omega) ua.toList 0 W' _ (Below.refl _ _);clear t1 t2 tb e3 h3 b3 h4 e4 xi h5 b5 t6 d0 d1 d2 d3 d4 c17 e7 Qn FT E2 WB Ya TK HAR Hw DG Yj;go_wp2_with (first
    | (refine bV rfl _ _ rfl rfl rfl (by exact T4.out) rfl Hs Vo ?_)
    | (refine zI rfl _ rfl rfl (by exact E4.out) DB ?_)
    | (refine bt rfl _ rfl rfl (by exact T5.out) Hs ?_)
    | (refine SE rfl rfl (by kernel_rfl) (HBP.out _) ?_)
    | (refine Ik rfl rfl rfl rfl rfl (by exact HPU.out) ?_
       change Hid (wpList _ _ _ _ _ _)))
   unfold Hid;go_wp2_with (first
    | (refine bt rfl _ rfl rfl T6.out Hs ?_)
    | (refine bV rfl _ _ rfl rfl rfl HZ5.out rfl Hs Vo ?_))
   refine bodyPost_ret (aN results161 _ _ rfl hr5.out Hs) rfl ?_;unfold fF;rw[<-HUA.out];exact⟨rfl,HA.upon DK.a A5.out,ay.upon HA.out DK.k A5.out⟩
end
end WI
end Go.Proofs.YtiopfihjmkfdmaaGreatDoor
