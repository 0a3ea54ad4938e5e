import Derived.Test.YtiopfihjmkfdmabGreatDoorC41
import Derived.Test.YtiopfihjmkfdmabGreatDoorC43
import Derived.Test.YtiopfihjmkfdmabGreatDoorC46
namespace Go.Proofs.YtiopfihjmkfdmabGreatDoor
open Go.Value renaming int->I,agg->J,iface->σ,pointer->ρ,slice->Z,bool->U,tuple->φ
open Go.IntKind renaming i64->O
open Option renaming none->M,some->Y
open Go.Obj renaming cells->L
open Go.Ending renaming returned->υ
open Go.Proofs.Tryz Sp
open Go.RowKit
set_option maxRecDepth 100000
set_option maxHeartbeats 16000000
section
namespace W
variable {E: Bool}{G: aw E}
theorem ot(p:Int)(k:Nat)(hk:k<8)(tv:TypeId)(uv:Value)(C:Cx)(G:aw E)(T:fS)(F:Fd)(b:Bool)(w:Wd)(e:Fin 8->Sp.Iv)(es:List cE)(o:Option Sp.Iv)(h:aP C G T F w)
  (hs:ve C G T F b (σ tv uv) e es o) (u:ST) (hu:u=o.map λv=>(show Fin 8->Sp.Iv from iK (Dm G) e k v)):
  Calls prog (G.ix 119 114) #[J (G.wk C b),J #[I O p,I O (k:Nat),σ tv uv],J (G.aQ (Y e))] w (jh C G T F b w es u):=by
 cases E
 all_goals
  try dsimp only[aw.ix,aw.kd]at*
  obtain⟨k0,k1,k2,k3,kb⟩:=cN (w:=w) (o1:=L (G.wk C b) (G.ix 171 154)) (o2:=L #[I O p,I O (k:Nat),σ tv uv] 276) (o3:=L (G.aQ (Y e)) (G.ix 174 157)) (o4:=L G.zS (G.ix 174 157)) Å;have HW:=hs _ (h.call kb);have fH:=G.du C b;have hY:=G.aG (Y e);have wF:(k:Int)<8:=À;obtain⟨x0,x1⟩:=G.xG e ⟨k,hk⟩;have DI:Hid (∀v:Sp.Iv,_=_):=λv=>G.CM e k hk v
  have Ni:Hid (∀v:Sp.Iv,(G.aQ (show ST from Y (iK (Dm G) e k v))).size=17/\(G.aQ (show ST from Y (iK (Dm G) e k v))).all (·.oneCell')=true):=λv=>⟨G.aG _,G.aZ _⟩
  generalize e ⟨k,hk⟩=x at*;simp only at x0 x1;obtain⟨na,sF⟩:∃na,na=G.fF:=⟨_,rfl⟩;have tT:na.size=17:=by rw[sF];rfl
  have rJ:=hid sF;generalize G.wk C b=wa at*;generalize G.aQ (Y e)=xa at*;have K0:=hid k0;have K1:=hid k1;have K2:=hid k2;have K3:=hid k3;have c2:=cell_of k1 2 (v:=σ tv uv) rfl;have HB:=hid kb;have HA:=hid h;have l1:w.heap.size<=w.heap.size+1:=À;have l2:w.heap.size<=w.heap.size+1+1:=À;have l3:w.heap.size<=w.heap.size+1+1+1:=À;clear h hs k0 k1 k2 k3 kb sF;try dsimp only[aw.ix,aw.kd]
  first|go_enter func119,ntmps119|go_enter func114,ntmps114
  go_wp2_with (first
   |(refine cR (G:=G) rfl _ rfl rfl K0.out fH ?_)
   |(refine bR (G:=G) rfl _ rfl rfl K2.out hY ?_))
  refine HW.mono ?_;rintro r w1⟨rfl,a1,b1⟩;have ea:w.heap.size<=w1.heap.size:=Nat.le_trans HB.size b1.below.size;have Gp:Hid (_=_):=b1.bf HA.out l3 K3.out;have T9:Hid (_=_):=b1.bf HA.out l2 K2.out;have Gk:Hid (_=_):=b1.bf HA.out l1 K1.out;have sD:=hid a1;have rG:Hid (aB C w w1):=(aB.aF HB.out HA.le).trans b1;clear a1 b1 HW;cases o with
  |none=>
   obtain rfl:u=M:=hu;have Nk:=below_alloc1 w1 (L #[I G.kd 0,I G.kd 0] (G.ix 90 85));have ff:=(Nk.block _ (ah Gp.out)).trans Gp.out;have mM:=hid ff;have je:Hid (_=_):=ar ff (d:=na) (by rw[tT];rfl);have ia:Hid (Below w.heap.size w1 _):=au (b:=w.heap.size+1+1+1) l3 na.toList 0 w1 _ (Nk.mono ea);clear ff Nk;simp only[aw.y7];go_wp2_with (first
    |(refine Cn (G:=G) rfl _ _ rfl rfl rfl rJ.out mM.out rfl ?_))
   refine Ç (aU rfl _ _ rfl je.out tT) rfl ⟨by rw[rJ.out];rfl,HA.upon sD.out ia.out,aB.upon HA.out rG.out ia.out⟩
  |some v=>
   have Dl:Hid (u=(show ST from Y (iK (Dm G) e k v))):=hu;clear hu;have Nk:=below_alloc1 w1 (L #[I G.kd v.a,I G.kd v.b] (G.ix 90 85));obtain⟨n0,n1,_,_,_⟩:=aI (heap_alloc_new w1 (L #[I G.kd v.a,I G.kd v.b] (G.ix 90 85)));have py:=(Nk.block _ (ah T9.out)).trans T9.out;have ff:=(Nk.block _ (ah Gp.out)).trans Gp.out;have px:=(Nk.block _ (ah Gk.out)).trans Gk.out;have e1:=cell_of px 1 (v:=I O (k:Nat)) rfl;have y0:=cell_of py _ x0;have y1:=cell_of py _ x1;have f0:=ay py (1+k*2);have f1:=ay py (1+k*2+1);have BJ:=ai (ai py (1+k*2) (I G.kd v.a)) (1+k*2+1) (I G.kd v.b);rw[DI.out v]at BJ;have FW:w.heap.size+1+1+1≠w.heap.size+1+1:=À;have nJ:(((w1.alloc (L #[I G.kd v.a,I G.kd v.b] (G.ix 90 85))).setCell ⟨w.heap.size+1+1,1+k*2,M⟩ (I G.kd v.a)).setCell ⟨w.heap.size+1+1,1+k*2+1,M⟩ (I G.kd v.b)).heap[w.heap.size+1+1+1]?=Y (L G.zS (G.ix 174 157)):=by rw[Æ _ _ _ _ (show w.heap.size+1+1+1≠(⟨w.heap.size+1+1,1+k*2+1,M⟩:Addr).block from FW),Æ _ _ _ _ (show w.heap.size+1+1+1≠(⟨w.heap.size+1+1,1+k*2,M⟩:Addr).block from FW)];exact ff
   have MJ:=hid BJ;have Gl:=hid nJ;obtain⟨o1,o2⟩:=Ni.out v;have je:Hid (_=_):=ar nJ (d:=G.aQ (show ST from Y (iK (Dm G) e k v))) (by rw[o1];rfl);have ia:Hid (Below w.heap.size w1 _):=au (b:=w.heap.size+1+1+1) l3 (G.aQ (show ST from Y (iK (Dm G) e k v))).toList 0 w1 _ (((Nk.mono ea).setCell (p:=⟨w.heap.size+1+1,1+k*2,M⟩) l2 (I G.kd v.a)).setCell (p:=⟨w.heap.size+1+1,1+k*2+1,M⟩) l2 (I G.kd v.b));clear BJ nJ py ff px Nk DI Ni;generalize xi:G.aQ (show ST from Y (iK (Dm G) e k v))=za at*;have Xu:=hid xi;clear xi;simp only[aw.y7];go_wp2_with (first
    |(refine bR (G:=G) rfl _ rfl rfl (c:=za) (by exact MJ.out) o1 ?_)
    |(refine cy (G:=G) rfl _ _ rfl rfl (c:=G.zS) (d:=za) rfl (by exact Gl.out) rfl o1 o2 ?_))
   refine Ç (aU rfl _ _ rfl je.out o1) rfl ⟨by rw[Dl.out];exact Ë (λz=>Ending.returned (J z)) Xu.symm,HA.upon sD.out ia.out,aB.upon HA.out rG.out ia.out⟩
end W
end
section
namespace W
variable {E: Bool}{G: aw E}
section
variable{T:fS}
variable{F F0:Fd}
variable{w W W' w':Wd}
variable{wa ic xa c d:Array Value}
variable{p b:Nat}
variable{ops:Array Oper}
variable{rest:List Oper}
variable{op:Oper}
variable{a:Act}
variable{t:TypeId}
variable{vals:Array (Nat×Value)}
variable{v m ky vv:Value}
structure lT(C:Cx)(G:aw E)(T:fS)(F:Fd)(w:Wd)(wa ic xa:Array Value)(W:Wd):Prop where
 a:aP C G T F W
 k:aB C w W
 o:W.heap[w.heap.size]?=Y (L wa (G.ix 171 154))
 c:W.heap[w.heap.size+1]?=Y (L ic 290)
 s:W.heap[w.heap.size+1+1]?=Y (L xa (G.ix 174 157))
 z:W.heap[w.heap.size+1+1+1]?=Y (L G.zS (G.ix 174 157))
theorem lT.call{C:Cx}{G:aw E}(h:lT C G T F w wa ic xa W)(k:ω W W'):lT C G T F w wa ic xa W':=
 ⟨h.a.call k,h.k.trans (aB.aF k h.a.le),(k.block _ (ah h.o)).trans h.o,(k.block _ (ah h.c)).trans h.c,(k.block _ (ah h.s)).trans h.s,(k.block _ (ah h.z)).trans h.z⟩
theorem lT.bH{C:Cx}{G:aw E}{F':Fd}(h:lT C G T F w wa ic xa W)(h0:aP C G T F0 w)(ha:aP C G T F' W')(k:aB C W W'):lT C G T F' w wa ic xa W':=
 ⟨ha,h.k.trans k,k.bf h0 È h.o,k.bf h0 À h.c,k.bf h0 À h.s,k.bf h0 À h.z⟩
theorem lT.put{C:Cx}{G:aw E}(h:lT C G T F w wa ic xa W)(h0:aP C G T F0 w)(hp:w.heap.size+1+1+1<p)(l:List Value):lT C G T F w wa ic xa (W.setCells p 0 l):=by have hb:Below w.heap.size W (W.setCells p 0 l):=au (b:=p) À l 0 W _ Å;exact⟨h0.upon h.a hb,aB.upon h0 h.k hb,(al _ _ _ _ À).trans h.o,(al _ _ _ _ À).trans h.c,(al _ _ _ _ À).trans h.s,(al _ _ _ _ À).trans h.z⟩
theorem U4{Q:Exit->Act->Wd->Prop}(sE:op.guard=M){parts:Array (Nat × Operand)}(ho:op.op=.build t parts)(hp:(parts.map λ(i,x)=>(i,a.eval x))=vals)(hb:(Instr.build t vals).run prog w=.ok v w)
  (k:wpList prog ops Q rest (a.put op.dst v) w):wpList prog ops Q (op::rest) a w:=
 wpList_plain sE λ_ hK=>by unfold Oper.wp execOp;simp only[ho,hp,ß,Sem.run_pure,Result.andThen_ok,hb];exact hK _ _ k
theorem lq{S:Wd->Prop}(hw:Region.wanted op (yielded ops a.tmps)=true){parts:Array (Nat×Operand)}(ho:op.op=.build t parts)(hp:(parts.map λ(i,x)=>(i,a.eval x))=vals)(hb:∀w,(Instr.build t vals).run prog w=.ok v w):YieldsIf prog ops S op v a:=
 .inl ⟨hw,λw _=>by unfold execOp;simp only[ho,hp,ß,Sem.run_pure,Result.andThen_ok,hb]⟩
theorem Cl{Q:Exit->Act->Wd->Prop}(sE:op.guard=M){x y:Operand}{c:Bool}(ho:op.op=.lookup t x y c)(hx:a.eval x=m)(hy:a.eval y=ky)(hb:(Instr.lookup t m ky c).run prog w=.ok v w)
  (k:wpList prog ops Q rest (a.put op.dst v) w):wpList prog ops Q (op::rest) a w:=
 wpList_plain sE λ_ hK=>by unfold Oper.wp execOp;simp only[ho,hx,hy,ß,Sem.run_pure,Result.andThen_ok,hb];exact hK _ _ k
theorem Lr{Q:Exit->Act->Wd->Prop}(sE:op.guard=M){x y z:Operand}(ho:op.op=.mapUpdate t x y z)(hx:a.eval x=m)(hy:a.eval y=ky)(hz:a.eval z=vv)(hb:(Instr.mapUpdate t m ky vv).run prog w=.ok () w')
  (k:wpList prog ops Q rest (a.put op.dst undef) w'):wpList prog ops Q (op::rest) a w:=
 wpList_plain sE λ_ hK=>by unfold Oper.wp execOp;simp only[ho,hx,hy,hz,ß,Sem.run_pure,Result.andThen_ok,hb];exact hK _ _ k
theorem B7{Q:Exit->Act->Wd->Prop}(sE:op.guard=M)(x:Operand)(ho:op.op=.load (G.ix 341 332) x)(hx:a.eval x=ρ (Y ⟨b,0,M⟩))(h:Bk w b c (G.ix 341 332))(hc:c.size=18)
  (k:wpList prog ops Q rest (a.put op.dst (J c)) w):wpList prog ops Q (op::rest) a w:=by
 cases E
 all_goals
  try dsimp only[aw.ix,aw.kd]at*
  refine wpList_load_mid sE (G.ix 341 332) x ho b 0 hx c.toList _ (aT h) (by first|exact underlying341|exact underlying332) rfl (by rw[Ie (G:=G)];simp[hc]) ?_;simpa using k
theorem Hw{Q:Exit->Act->Wd->Prop}(P:Wd->Prop)(sE:op.guard=M)(x y:Operand)(ho:op.op=.store (G.ix 343 334) x y)(hx:a.eval x=ρ (Y ⟨b,0,M⟩))(hy:a.eval y=J d)(h:Bk w b c (G.ix 343 334))(hc:c.size=18)(hd:d.size=18)(h1:d.all (·.oneCell')=true)(hP:P (w.setCells b 0 d.toList))
  (k:∀W,P W->wpList prog ops Q rest (a.put op.dst undef) W):wpList prog ops Q (op::rest) a w:=
 wpList_plain sE λ_ hK=>wp_store_mid (G.ix 343 334) x y ho b 0 d hx hy (by rw[hd,<-hc];exact bO h) (by rw[Vd (G:=G),hd]) h1 (hK _ _ (k _ hP))
theorem Oh{Q:Exit->Act->Wd->Prop}(sE:op.guard=M)(x:Operand)(ho:op.op=.load (G.ix 174 157) x)(hx:a.eval x=ρ (Y ⟨b,0,M⟩))(h:w.rangeAt b 0 c.toList)(hc:c.size=17)
  (k:wpList prog ops Q rest (a.put op.dst (J c)) w):wpList prog ops Q (op::rest) a w:=by
 cases E
 all_goals
  try dsimp only[aw.ix,aw.kd]at*
  refine wpList_load_mid sE (G.ix 174 157) x ho b 0 hx c.toList _ h (by first|exact underlying174|exact underlying157) rfl (by rw[eV (G:=G)];simp[hc]) ?_;simpa using k
theorem KG{t:ST}{d:Bool}(h:Bk w b (G.lS t d) (G.ix 343 334)):w.rangeAt b 0 (G.aQ t).toList:=λj v hv=>by
 have hj:j<17:=by have:=(Í.1 hv).1;rw[G.dF]at this;exact this
 rw[Nat.zero_add];refine cell_of h j ?_;rw[G.Gy t d hj];simpa using hv
theorem Vc(w:Wd)(ka:Array Value)(h:ka.size=18) :
  (w.alloc (L G.zP (G.ix 343 334))).heap[w.heap.size]?=Y (L G.zP (G.ix 343 334))/\((w.alloc (L G.zP (G.ix 343 334))).setCells w.heap.size 0 ka.toList).heap[w.heap.size]?=Y (L ka (G.ix 343 334))/\ω w ((w.alloc (L G.zP (G.ix 343 334))).setCells w.heap.size 0 ka.toList):=by
 have a1:=heap_alloc_new w (L G.zP (G.ix 343 334));exact⟨a1,ar a1 (by rw[h];rfl),au È _ _ _ _ (below_alloc1 w _)⟩
theorem yO(G:aw E)(b:Bool)(F:Fd)(es:List cE):b=true->jJ (Kr G) (told G b F es) es:=by intro hb;subst hb;exact vS (D:=Dm G) (K:=Kr G) es F
theorem lh(p:Int)(hp:0<=p/\p<=1000000)(k:Nat)(tl:TypeId)(ul:Value)(tr:TypeId)(ur:Value)(av:Option Addr)(nv cv:Nat)(C:Cx)(G:aw E)(T:fS)(F:Fd)(b:Bool)(w:Wd)(s:ST)(h:aP C G T F w)(hs:Sp.Wf (Kr G) s)
  (har:∀W,aB C w W->aP C G T F W->Calls prog (G.ix 169 165) #[J (G.wk C b),J (Cb p k tl ul tr ur av nv cv),J (G.aQ s)] W (jh C G T F b W (T p s).1 (T p s).2)):
  Calls prog (G.ix 122 117) #[J (G.wk C b),J (Cb p k tl ul tr ur av nv cv),J (G.aQ s)] w (jh C G T F b w (T p s).1 (T p s).2):=by
 cases E
 all_goals
  try dsimp only[aw.ix,aw.kd]at*
  have fH:=G.du C b;have hw6:=G.Vs C b;have wL:=G.Ed C b;obtain⟨wa,uf⟩:∃wa,wa=G.wk C b:=⟨_,rfl⟩;obtain⟨ic,hic⟩:∃ic,ic=Cb p k tl ul tr ur av nv cv:=⟨_,rfl⟩;obtain⟨xa,oQ⟩:∃xa,xa=G.aQ s:=⟨_,rfl⟩;obtain⟨ka,hka⟩:∃ka,ka=G.oE p s:=⟨_,rfl⟩;obtain⟨es,hes⟩:∃es,es=(T p s).1:=⟨_,rfl⟩;obtain⟨u,hu⟩:∃u,u=(T p s).2:=⟨_,rfl⟩;obtain⟨ua,hua⟩:∃ua,ua=G.aQ u:=⟨_,rfl⟩;have HAR:Hid (∀W,lT C G T F w wa ic xa W->Calls prog (G.ix 169 165) #[J wa,J (Cb p k tl ul tr ur av nv cv),J xa] W λr w'=>r=υ (J ua)/\lT C G T (told G b F es) w wa ic xa w'/\aB C W w'):=λW hW=>by have:=har W hW.k hW.a;unfold jh at this;rw[<-hes,<-hu,<-hua,<-oQ,<-uf]at this;exact this.mono λr w' q=>⟨q.1,hW.bH h q.2.1 q.2.2,q.2.2⟩
  have HLK:Hid (∀W,lT C G T F w wa ic xa W->∃t d ok,(Instr.lookup (Ta G) (.map (Y C.m)) (J ka) true).run prog W=.ok (φ #[J (G.lS t d),U ok]) W/\(ok=true->u=t/\(d=true->jJ (Kr G) F es))):=λW hW=>by obtain⟨es0,cl,hm,hE⟩:=hW.a.memo;obtain⟨t,d,ok,h1,h2⟩:=Lu hm hE hs hp;rw[hka,hu,hes];exact⟨t,d,ok,h1,h2⟩
  have XA:Hid (∀W,lT C G T (told G b F es) w wa ic xa W->∃W',(Instr.mapUpdate (Ta G) (.map (Y C.m)) (J ka) (J (G.lS u b))).run prog W=.ok () W'/\lT C G T (told G b F es) w wa ic xa W'/\aB C W W'):=λW hW=>by obtain⟨es0,cl,hm,hE⟩:=hW.a.memo;obtain⟨es',cl',k1,k2⟩:=Ou (t:=u) (d:=b) hm hE hs hp hu.symm (by rw[<-hes];exact yO G b F es);obtain⟨k3,k4⟩:=hW.a.Rg (cl:=cl') k2;rw[hka];exact⟨_,k1,hW.bH h k3 k4,k4⟩
  have Nf:Hid (∀W,(Instr.build (G.ix 341 332) #[(0,I O p),(1,J xa)]).run prog W=.ok (J ka) W):=λW=>by rw[oQ,hka];exact NB p s W
  have HBP:Hid (∀W,(Instr.build (G.ix 343 334) #[(0,J ua),(1,U b)]).run prog W=.ok (J (G.lS u b)) W):=λW=>by rw[hua];exact Qm u b W
  have fV:xa.size=17:=by rw[oQ];exact G.aG s
  have IZ:ka.size=18:=by rw[hka];exact G.LG p s
  have k1o:ka.all (·.oneCell')=true:=by rw[hka];exact G.Pe p s
  have Ki:ua.size=17:=by rw[hua];exact G.aG u
  have ZC:ua.all (·.oneCell')=true:=by rw[hua];exact G.aZ u
  rw[<-uf]at fH hw6 wL;rw[<-uf,<-oQ,<-hes,<-hu];have Qq:ic[0]?=Y (I O p):=by rw[hic];rfl
  have F8:ic[1]?=Y (I O (k:Nat)):=by rw[hic];rfl
  have px:ic[2]?=Y (σ tl ul):=by rw[hic];rfl
  have zH:ic[3]?=Y (σ tr ur):=by rw[hic];rfl
  have wO:ic[4]?=Y (Z av nv cv):=by rw[hic];rfl
  obtain⟨k0,k1,k2,k3,kb⟩:=cN (w:=w) (o1:=L wa (G.ix 171 154)) (o2:=L ic 290) (o3:=L xa (G.ix 174 157)) (o4:=L G.zS (G.ix 174 157)) Å;have H0:Hid (lT C G T F w wa ic xa ((((w.alloc (L wa (G.ix 171 154))).alloc (L (Cb p k tl ul tr ur av nv cv) 290)).alloc (L xa (G.ix 174 157))).alloc (L G.zS (G.ix 174 157)))):=by rw[<-hic];exact⟨h.call kb,aB.aF kb h.le,k0,k1,k2,k3⟩
  have HA:=hid h;have HUA:=hid hua;clear h hs har hp uf hic oQ hka hes hu hua k0 k1 k2 k3 kb;try dsimp only[aw.ix,aw.kd]
  first|go_enter func122,ntmps122|go_enter func117,ntmps117
  go_wp2_with fail;generalize (((w.alloc (L wa (G.ix 171 154))).alloc (L (Cb p k tl ul tr ur av nv cv) 290)).alloc (L xa (G.ix 174 157))).alloc (L G.zS (G.ix 174 157))=W0 at*
  go_cut [7] from 11 to 15 (λv7 wc=>∃kE:Nat,v7=ρ (Y ⟨kE,0,M⟩)/\Hid (w.heap.size+1+1+1<kE/\lT C G T F w wa ic xa wc/\wc.heap[kE]?=Y (L ka (G.ix 341 332))))
  case first=>
   have H1:Hid (lT C G T F w wa ic xa W0.drew):=H0.call (Å).drew;refine wp_region_held_drew (S:=λw':Wd=>lT C G T F w wa ic xa w') Ã H1.out (λaa=>?_);refine nu 3 rfl (G.nw rfl _ rfl _ _ rfl (xa) (λw' h=>aT h.s) fV) aa ?_;refine tq 0 (ρ (Y ⟨w.heap.size+1,0,M⟩)) aa ?_;refine tk 1 (I O p) rfl (λw' h=>by have d0:=cell_of h.c 0 Qq;go_simp) aa ?_;refine zZ 2 5 ?_ ?_
   .intro K hK
    simp only[bG,gd];go_simp;refine(fX p _).mono ?_;rintro r w0⟨rfl,rfl⟩;go_wp2_with fail;refine hK.out _ _ aa (λaa=>?_);clear hK K;refine nu 4 (v:=J ka) rfl (lq Ê rfl (vals:=#[(0,I O p),(1,J xa)]) Ã Nf.out) aa ?_;refine bP 5 λK hK=>?_
    simp only[bG];have hp:w.heap.size+1+1+1<W0.drew.heap.size:=ah aa.z;have kb:=below_alloc1 W0.drew (L G.zE (G.ix 341 332));have hz:=heap_alloc_new W0.drew (L G.zE (G.ix 341 332));have hh:=aa.call kb;clear kb;go_simp;refine hK.out _ _ hh (λaa=>?_);clear hK K hh;refine bP 6 λK hK=>?_
    rw[Á Ê];refine wp_store_mid _ _ _ rfl _ _ ka rfl rfl (by rw[IZ];exact bO hz) (by rw[Ie (G:=G),IZ]) k1o ?_;have BO:=aa.put HA.out hp ka.toList;refine hK.out _ _ BO (λ_=>?_);clear hK K;refine wpAnyH_done Ã ?_ _;go_wp2_with fail;go_meet
    case rel=>exact⟨_,rfl,hp,BO,ar hz (by rw[IZ];rfl)⟩
   .intro K hK
    simp only[bG,gd];have hp:w.heap.size+1+1+1<W0.drew.heap.size:=ah aa.z;have kb:=below_alloc1 W0.drew (L G.zE (G.ix 341 332));have hz:=heap_alloc_new W0.drew (L G.zE (G.ix 341 332));have hh:=aa.call kb;clear kb;go_simp;refine hK.out _ _ hh (λaa=>?_);clear hK K hh;refine bP 2 λK hK=>?_
    simp only[bG];go_simp;refine(fX p _).mono ?_;rintro r w0⟨rfl,rfl⟩;go_wp2_with fail;refine hK.out _ _ aa (λaa=>?_);clear hK K;refine nu 4 (v:=J ka) rfl (lq Ê rfl (vals:=#[(0,I O p),(1,J xa)]) Ã Nf.out) aa ?_;refine bP 6 λK hK=>?_
    simp only[bG,gd];rw[Á Ê];refine wp_store_mid _ _ _ rfl _ _ ka rfl rfl (by rw[IZ];exact bO hz) (by rw[Ie (G:=G),IZ]) k1o ?_;have BO:=aa.put HA.out hp ka.toList;refine hK.out _ _ BO (λ_=>?_);clear hK K;refine wpAnyH_done Ã ?_ _;go_wp2_with fail;go_meet
    case rel=>exact⟨_,rfl,hp,BO,ar hz (by rw[IZ];rfl)⟩
  case rest=>
   obtain⟨kE,rfl,hE⟩:=hcut;obtain⟨t,d,ok,Kn,rH⟩:=HLK.out _ hE.2.1;have Xe:=hid Kn;have ub:=hid rH;have HEE:=hid hE.2.2;have d6:=cell_of hE.2.1.o 6 hw6;have d7:=cell_of hE.2.1.o 7 wL;have Z5:=G.LY t d;have p1o:=G.P9 t d;obtain⟨t1,t2,tb⟩:=Vc (G:=G) wc (G.lS t d) Z5;have T1:=hid t1;have df:=ah hE.2.2;have FZ:Hid (lT C G T F w wa ic xa _/\_/\_):=⟨hE.2.1.call tb,(tb.block _ df).trans hE.2.2,t2⟩;have HL:=hid hE.1;have t17:=G.aG t;have t1o:=G.aZ t;obtain⟨ta,ZR⟩:∃ta,ta=G.aQ t:=⟨_,rfl⟩;rw[<-ZR]at t17 t1o;have HTA:=hid ZR;have qX:=G.L8 t d;have HPR:Hid (∀(W:Wd) (q:Nat),W.heap[q]?=Y (L (G.lS t d) (G.ix 343 334))->W.rangeAt q 0 ta.toList):=λW q hW=>by rw[ZR];exact KG hW
   obtain⟨pa,hpa⟩:∃pa,pa=G.lS t d:=⟨_,rfl⟩;rw[<-hpa]at Xe Z5 p1o qX FZ HPR;have wI:(ok=true/\d=true)∨(ok=true/\d=false/\b=false)∨(ok=false/\b=true)∨(ok=false/\b=false)∨(ok=true/\d=false/\b=true):=by
    cases ok<;>cases d<;>cases b<;>simp
   have hlc:=ah T1.out;clear t1 t2 tb df Kn rH ZR hpa hE HLK hlc
   rcases wI with⟨rfl,rfl⟩|⟨rfl,rfl,rfl⟩|⟨rfl,rfl⟩|⟨rfl,rfl⟩|⟨rfl,rfl,rfl⟩
   .go_wp2_with (first
     |(refine B7 (G:=G) rfl _ rfl rfl HEE.out IZ ?_)
     |(refine Cl rfl rfl rfl rfl Xe.out ?_)
     | (refine Hw (G:=G) (P:=λW=>lT C G T F w wa ic xa W/\W.heap[kE]?=Y (L ka (G.ix 341 332))/\W.heap[wc.heap.size]?=Y (L pa (G.ix 343 334))) rfl _ _ rfl rfl rfl (by exact T1.out) rfl Z5 p1o FZ.out ?_
        rintro w2⟨h2,_,tY⟩;change Hid (wpList _ _ _ _ _ _)))
    unfold Hid;have Kp:=hid h2;have mM:=hid h2.z;have RNG:=hid (HPR.out _ _ tY);have c17:=cell_of tY 17 qX;clear h2 tY d6 d7;go_upto_if 32 with fail;go_wp2_with (first
     |(refine Oh (G:=G) rfl _ rfl rfl RNG.out t17 ?_)
     |(refine cy (G:=G) rfl _ _ rfl rfl rfl mM.out rfl t17 t1o ?_))
    have je:=ar Kp.z (d:=ta) (by rw[t17];rfl);have ia:=au (b:=w.heap.size+1+1+1) À ta.toList 0 w2 _ (Û w.heap.size _);refine Ç (aU rfl _ _ rfl je t17) rfl ?_;obtain⟨h1,h2⟩:=ub.out (by trivial);subst h1;unfold jh;rw[<-HTA.out];refine⟨rfl,?_,aB.upon HA.out Kp.k ia⟩;have e:told G b F es=F:=by
     cases b
     .rfl
     .exact BH (abs G) Kp.a.wfF (h2 (by trivial))
    rw[e];exact HA.upon Kp.a ia
   .go_wp2_with (first
     |(refine B7 (G:=G) rfl _ rfl rfl HEE.out IZ ?_)
     |(refine Cl rfl rfl rfl rfl Xe.out ?_)
     | (refine Hw (G:=G) (P:=λW=>lT C G T F w wa ic xa W/\W.heap[kE]?=Y (L ka (G.ix 341 332))/\W.heap[wc.heap.size]?=Y (L pa (G.ix 343 334))) rfl _ _ rfl rfl rfl (by exact T1.out) rfl Z5 p1o FZ.out ?_
        rintro w2⟨h2,_,tY⟩;change Hid (wpList _ _ _ _ _ _)))
    unfold Hid;have Kp:=hid h2;have mM:=hid h2.z;have RNG:=hid (HPR.out _ _ tY);have c17:=cell_of tY 17 qX;have e7:=cell_of h2.o 7 wL;clear h2 tY d6 d7;go_upto_if 32 with fail;go_wp2_with (first
     |(refine Oh (G:=G) rfl _ rfl rfl RNG.out t17 ?_)
     |(refine cy (G:=G) rfl _ _ rfl rfl rfl mM.out rfl t17 t1o ?_))
    have je:=ar Kp.z (d:=ta) (by rw[t17];rfl);have ia:=au (b:=w.heap.size+1+1+1) À ta.toList 0 w2 _ (Û w.heap.size _);refine Ç (aU rfl _ _ rfl je t17) rfl ?_;obtain⟨h1,h2⟩:=ub.out (by trivial);subst h1;unfold jh;rw[<-HTA.out];exact⟨rfl,HA.upon Kp.a ia,aB.upon HA.out Kp.k ia⟩
   all_goals
    go_wp2_with (first
     |(refine B7 (G:=G) rfl _ rfl rfl HEE.out IZ ?_)
     |(refine Cl rfl rfl rfl rfl Xe.out ?_)
     | (refine Hw (G:=G) (P:=λW=>lT C G T F w wa ic xa W/\W.heap[kE]?=Y (L ka (G.ix 341 332))/\W.heap[wc.heap.size]?=Y (L pa (G.ix 343 334))) rfl _ _ rfl rfl rfl (by exact T1.out) rfl Z5 p1o FZ.out ?_
        rintro w2⟨h2,e2,tY⟩;change Hid (wpList _ _ _ _ _ _)))
    unfold Hid;have Kp:=hid h2;have Um:=hid h2.o;have TA:=hid h2.s;have E2:=hid e2;have c17:=cell_of tY 17 qX;have e7:=cell_of h2.o 7 wL;have d0:=cell_of h2.c 0 Qq;have d1:=cell_of h2.c 1 F8;have d2:=cell_of h2.c 2 px;have d3:=cell_of h2.c 3 zH;have d4:=cell_of h2.c 4 wO;clear h2 tY d6 d7 e2;go_upto_if 32 with fail;go_wp2_with (first
     |(refine cR (G:=G) rfl _ rfl rfl (c:=wa) Um.out fH ?_)
     |(refine bR (G:=G) rfl _ rfl rfl (c:=xa) TA.out fV ?_))
    refine(HAR.out w2 Kp.out).mono ?_;rintro r w3⟨rfl,h3,b3⟩;obtain⟨t1,t2,tb⟩:=JT (G:=G) w3 ua Ki;have e3:=b3.bf HA.out (by have:=HL.out;omega) E2.out;have l3:=ah e3;have h4:=h3.call tb;have e4:=(tb.block _ l3).trans e3;have E4:=hid e4;have T4:=hid t1;have T5:=hid t2;have f6:=cell_of h4.o 6 hw6;have f7:=cell_of h4.o 7 wL;obtain⟨W',zK,h5,b5⟩:=XA.out _ h4;have HPU:=hid zK;have t6:=b5.bf HA.out (by have:=HL.out;omega) t2;have T6:=hid t6;have HZ5:=hid h5.z;have Gj:=hid h5;have hr5:Hid (_=_):=ar h5.z (d:=ua) (by rw[Ki];rfl);have QW:Hid (Below w.heap.size W' _):=au (b:=w.heap.size+1+1+1) À ua.toList 0 W' _ Å;clear t1 t2 tb e3 h3 b3 h4 e4 zK h5 b5 t6 d0 d1 d2 d3 d4 c17 e7 Um TA E2 Xe HEE XA HAR Kp FZ HPR;go_wp2_with (first
     |(refine cy (G:=G) rfl _ _ rfl rfl rfl (by exact T4.out) rfl Ki ZC ?_)
     |(refine B7 (G:=G) rfl _ rfl rfl (by exact E4.out) IZ ?_)
     |(refine bR (G:=G) rfl _ rfl rfl (by exact T5.out) Ki ?_)
     |(refine U4 rfl rfl Ã (HBP.out _) ?_)
     | (refine Lr rfl rfl rfl rfl rfl (by exact HPU.out) ?_
        change Hid (wpList _ _ _ _ _ _)))
    unfold Hid;go_wp2_with (first
     |(refine bR (G:=G) rfl _ rfl rfl T6.out Ki ?_)
     |(refine cy (G:=G) rfl _ _ rfl rfl rfl HZ5.out rfl Ki ZC ?_))
    refine Ç (aU rfl _ _ rfl hr5.out Ki) rfl ?_;unfold jh;rw[<-HUA.out];exact⟨rfl,HA.upon Gj.a QW.out,aB.upon HA.out Gj.k QW.out⟩
end
end W
end
section
namespace W
variable {E: Bool}{G: aw E}
structure P7(G:aw E)(wa:Array Value)(c0 c1:Value)(k:Nat)(W:Wd):Prop where
 o:W.heap[k]?=Y (L wa (G.ix 171 154))
 c:W.heap[k+1+1+1]?=Y (L #[c0,c1] 279)
theorem L1(p:Int)(k:Nat)(hk:k<8)(C:Cx)(G:aw E)(T:fS)(F:Fd)(b:Bool)(w:Wd)(e:Fin 8->Sp.Iv)(h:aP C G T F w) :
  Calls prog (G.ix 81 78) #[J (G.wk C b),σ 279 (J #[I O p,I O (k:Nat)]),J (G.aQ (Y e))] w (jh C G T F b w [] (show ST from Y (iK (Dm G) e k G.dV))):=by
 cases E
 all_goals
  try dsimp only[aw.ix,aw.kd]at*
  have h1:=Vq (J #[I O p,I O (k:Nat)]);have h2:=U9 (J #[I O p,I O (k:Nat)]);obtain⟨k0,k1,k2,k3,kb⟩:=cN (w:=w) (o1:=L (G.wk C b) (G.ix 171 154)) (o2:=L (G.aQ (Y e)) (G.ix 174 157)) (o3:=L G.zS (G.ix 174 157)) (o4:=L #[I O p,I O (k:Nat)] 279) Å;have wF:(k:Int)<8:=À;have kL:=G.mj C b;obtain⟨x0,x1⟩:=G.xG e ⟨k,hk⟩;have im:=G.CM e k hk G.dV;have rI:=G.aG (show ST from Y (iK (Dm G) e k G.dV));have Nq:=G.aZ (show ST from Y (iK (Dm G) e k G.dV));have HD:Hid (∀W,aP C G T F W->Calls _ _ _ W _):=λW hW=>Vh hW.does
  generalize e ⟨k,hk⟩=x at*;simp only at x0 x1;generalize G.wk C b=wa at*;generalize G.aQ (Y e)=xa at*;unfold jh;generalize G.aQ (show ST from Y (iK (Dm G) e k G.dV))=uu at*;generalize (G.dV:Sp.Iv)=v at*;have DI:=hid im;have K1:=hid k1;have K2:=hid k2;have H0:Hid (P7 G wa (I O p) (I O (k:Nat)) w.heap.size ((((w.alloc (L wa (G.ix 171 154))).alloc (L xa (G.ix 174 157))).alloc (L G.zS (G.ix 174 157))).alloc (L #[I O p,I O (k:Nat)] 279)).drew):=⟨k0,k3⟩;have HB:=hid kb.drew;have HA:=hid h;have l1:w.heap.size<=w.heap.size+1:=À;have l2:w.heap.size<=w.heap.size+1+1:=À;clear h k0 k1 k2 k3 kb im;try dsimp only[aw.ix,aw.kd]
  first|go_enter func81,ntmps81|go_enter func78,ntmps78
  go_wp2_with fail;generalize (((w.alloc (L wa (G.ix 171 154))).alloc (L xa (G.ix 174 157))).alloc (L G.zS (G.ix 174 157))).alloc (L #[I O p,I O (k:Nat)] 279)=W at*;refine wp_region_held_drew (S:=λw':Wd=>P7 G wa (I O p) (I O (k:Nat)) w.heap.size w') Ã H0.out (λaa=>?_);refine tq 0 (ρ (Y ⟨w.heap.size+1+1+1,1,M⟩)) aa ?_;refine tk 1 (I O (k:Nat)) rfl (λw' h=>by have d:=cell_of h.c 1 (v:=I O (k:Nat)) rfl;go_simp) aa ?_;refine tq 2 (ρ (Y ⟨w.heap.size,0,M⟩)) aa ?_;refine tk 3 (σ (G.ix 92 87) C.dv) rfl (λw' h=>by have d:=cell_of h.o 0 kL;go_simp) aa ?_;refine tq 5 (ρ (Y ⟨w.heap.size+1,1,M⟩)) aa ?_;refine bP 4 λK hK=>?_
  simp only[bG,gd];go_simp;refine(HD.out _ (HA.call HB.out)).mono ?_;rintro r w1⟨rfl,b1⟩;go_wp2_with fail;have T9:Hid (w1.heap[w.heap.size+1]?=Y (L xa (G.ix 174 157))):=(b1.block _ (ah (show W.drew.heap[w.heap.size+1]?=_ from K1.out))).trans K1.out;have Gp:Hid (w1.heap[w.heap.size+1+1]?=Y (L G.fF (G.ix 174 157))):=(b1.block _ (ah (show W.drew.heap[w.heap.size+1+1]?=_ from K2.out))).trans K2.out;have DA:Hid (ω w w1):=HB.trans (b1.mono HB.size);have jW:P7 G wa (I O p) (I O (k:Nat)) w.heap.size w1:=⟨(b1.block _ (ah aa.o)).trans aa.o,(b1.block _ (ah aa.c)).trans aa.c⟩;refine hK.out _ _ jW (λaa=>?_);clear hK K jW b1;refine tq 6 (ρ (Y ⟨w.heap.size+1,1+k*2,M⟩)) aa ?_;have y0:=cell_of T9.out _ x0;have y1:=cell_of T9.out _ x1;have f0:=ay T9.out (1+k*2);have f1:=ay T9.out (1+k*2+1);refine bP 7 λK hK=>?_
  simp only[bG,gd];go_simp;have BJ:=ai (ai T9.out (1+k*2) (I G.kd v.a)) (1+k*2+1) (I G.kd v.b);rw[DI.out]at BJ;have o3:((w1.setCell ⟨w.heap.size+1,1+k*2,M⟩ (I G.kd v.a)).setCell ⟨w.heap.size+1,1+k*2+1,M⟩ (I G.kd v.b)).heap[w.heap.size]?=Y (L wa (G.ix 171 154)):=by rw[Æ _ _ _ _ (show w.heap.size≠(⟨w.heap.size+1,1+k*2+1,M⟩:Addr).block from by show w.heap.size≠w.heap.size+1;omega),Æ _ _ _ _ (show w.heap.size≠(⟨w.heap.size+1,1+k*2,M⟩:Addr).block from by show w.heap.size≠w.heap.size+1;omega)];exact aa.o
  have c3:((w1.setCell ⟨w.heap.size+1,1+k*2,M⟩ (I G.kd v.a)).setCell ⟨w.heap.size+1,1+k*2+1,M⟩ (I G.kd v.b)).heap[w.heap.size+1+1+1]?=Y (L #[I O p,I O (k:Nat)] 279):=by rw[Æ _ _ _ _ (show w.heap.size+1+1+1≠(⟨w.heap.size+1,1+k*2+1,M⟩:Addr).block from by show w.heap.size+1+1+1≠w.heap.size+1;omega),Æ _ _ _ _ (show w.heap.size+1+1+1≠(⟨w.heap.size+1,1+k*2,M⟩:Addr).block from by show w.heap.size+1+1+1≠w.heap.size+1;omega)];exact aa.c
  have z3:((w1.setCell ⟨w.heap.size+1,1+k*2,M⟩ (I G.kd v.a)).setCell ⟨w.heap.size+1,1+k*2+1,M⟩ (I G.kd v.b)).heap[w.heap.size+1+1]?=Y (L G.fF (G.ix 174 157)):=by rw[Æ _ _ _ _ (show w.heap.size+1+1≠(⟨w.heap.size+1,1+k*2+1,M⟩:Addr).block from by show w.heap.size+1+1≠w.heap.size+1;omega),Æ _ _ _ _ (show w.heap.size+1+1≠(⟨w.heap.size+1,1+k*2,M⟩:Addr).block from by show w.heap.size+1+1≠w.heap.size+1;omega)];exact Gp.out
  have MJ:=hid BJ;have Gl:=hid z3;have je:Hid (_=_):=ar z3 (d:=uu) (by rw[rI];rfl);have ia:Hid (ω w _):=au (b:=w.heap.size+1+1) l2 uu.toList 0 w _ ((DA.setCell (p:=⟨w.heap.size+1,1+k*2,M⟩) l1 (I G.kd v.a)).setCell (p:=⟨w.heap.size+1,1+k*2+1,M⟩) l1 (I G.kd v.b));refine hK.out _ _ ⟨o3,c3⟩ (λ_=>?_);clear hK K BJ o3 c3 z3 y0 y1 f0 f1 aa;refine wpAnyH_done Ã ?_ _;generalize (w1.setCell ⟨w.heap.size+1,1+k*2,M⟩ (I G.kd v.a)).setCell ⟨w.heap.size+1,1+k*2+1,M⟩ (I G.kd v.b)=w3 at*;go_wp2_with (first
   |(refine bR (G:=G) rfl _ rfl rfl MJ.out rI ?_)
   |(refine cy (G:=G) rfl _ _ rfl rfl rfl Gl.out rfl rI Nq ?_))
  refine Ç (aU rfl _ _ rfl je.out rI) rfl ⟨rfl,by rw[eI];exact HA.call ia.out,aB.aF ia.out HA.le⟩
end W
end
namespace W
theorem lJ{x:Sp.Iv}(h:Wv false x):∃c:Sp.Cg,x=vR c/\cV c:=⟨mz x,(qE h.1).symm,h.2⟩
theorem Pq(G:aw false)(o:Option Sp.Cg):ni o=G.y7 (o.map vR):=by cases o<;>rfl
theorem R5{B:Nat}(G:aw false){w:Wd}(hB:B<=w.heap.size):fU B G (J #[]) w:=by
 refine⟨hB,λw' _=>⟨λn h1 h2=>qO n w' h1 h2,FA w',λhx=>?_,λ{k} hk {x y} hx hy=>?_,λhx=>?_,λ{x y} hx hy=>?_,λ_ _ {r} hr {x y} hx hy=>?_,λ{r} hr {x y} hx hy=>?_,λ{x y} hx hy=>?_,λ{x y} hx hy=>?_,λhx=>?_⟩⟩
 .obtain⟨c,rfl,hc⟩:=lJ hx
  exact L4 c w' hc
 .obtain⟨c,rfl,hc⟩:=lJ hx
  obtain⟨d,rfl,hd⟩:=lJ hy;have:=Eg k hk c d w' hc hd;rw[Pq G]at this;exact this
 .obtain⟨c,rfl,hc⟩:=lJ hx
  have:=LV c.m c.r w';rw[<-Le hc]at this;exact this
 .obtain⟨c,rfl,hc⟩:=lJ hx
  obtain⟨d,rfl,hd⟩:=lJ hy;exact SO c d w' (jQ hc).1 (jQ hc).2 (jQ hd).1 (jQ hd).2 hc
 .obtain⟨c,rfl,hc⟩:=lJ hx
  obtain⟨d,rfl,hd⟩:=lJ hy;exact UJ r hr c d w' hc hd
 .obtain⟨c,rfl,hc⟩:=lJ hx
  obtain⟨d,rfl,hd⟩:=lJ hy;have:=Ph r c d w' hc hd;rw[Pq G]at this;exact this
 .obtain⟨c,rfl,hc⟩:=lJ hx
  obtain⟨d,rfl,hd⟩:=lJ hy;exact Oe c.m c.r d.m d.r w'
 .obtain⟨c,rfl,hc⟩:=lJ hx
  obtain⟨d,rfl,hd⟩:=lJ hy;exact KD c.m c.r d.m d.r w'
 .obtain⟨c,rfl,hc⟩:=lJ hx
  exact R6 c.m c.r w'
end W
end Go.Proofs.YtiopfihjmkfdmabGreatDoor
