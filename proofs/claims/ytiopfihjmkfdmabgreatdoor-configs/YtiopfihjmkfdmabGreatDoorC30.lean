import Derived.Test.YtiopfihjmkfdmabGreatDoorC29
import Derived.Deep.Cut
import Derived.DeepKeys3
namespace Go.Proofs.YtiopfihjmkfdmabGreatDoor
open Go.Value renaming agg->J,int->I,slice->Z,bool->U,pointer->ρ,iface->σ,tuple->φ
open Option renaming some->Y,none->M
open Go.Obj renaming cells->L
open Go.IntKind renaming i64->O
open Go.Ending renaming returned->υ
open Go.Proofs.Tryz Sp
open Go.RowKit
set_option maxRecDepth 100000
set_option maxHeartbeats 16000000
section
namespace W
variable {E: Bool}{G: aw E}
section
variable{wa u1 u2 ic:Array Value}
def PJ(C:Cx)(G:aw E)(T:fS)(F:Fd)(b:Bool)(w:Wd)(v:Value)(s:ST)(es:List cE)(u:ST):Prop:=
 ∀W,aB C w W->aP C G T F W->Calls prog (G.ix 47 42) #[J (G.wk C b),v,J (G.aQ s)] W (jh C G T F b W es u)
structure wu(G:aw E)(wa u1 u2:Array Value)(ic:Array Value)(k n:Nat)(W:Wd):Prop where
 o:W.heap[k]?=Y (L wa (G.ix 171 154))
 c:W.heap[k+1]?=Y (L ic 287)
 x:W.heap[n]?=Y (L u1 (G.ix 174 157))
 y:W.heap[n+1]?=Y (L u2 (G.ix 174 157))
 z:∃d,d.size=17/\W.heap[k+1+1+1]?=Y (L d (G.ix 174 157))
theorem wu.bH{n:Nat}{C:Cx}{G:aw E}{T:fS}{F:Fd}{w W W':Wd}(h:wu G wa u1 u2 ic w.heap.size n W)(h0:aP C G T F w)(hn:w.heap.size<=n)(b:aB C W W'):wu G wa u1 u2 ic w.heap.size n W':=by obtain⟨d,hd,hz⟩:=h.z;exact⟨b.bf h0 È h.o,b.bf h0 À h.c,b.bf h0 hn h.x,b.bf h0 À h.y,⟨d,hd,b.bf h0 À hz⟩⟩
theorem wu.call{k n:Nat}{W W':Wd}(h:wu G wa u1 u2 ic k n W)(b:ω W W'):wu G wa u1 u2 ic k n W':=by obtain⟨d,hd,hz⟩:=h.z;exact⟨(b.block _ (ah h.o)).trans h.o,(b.block _ (ah h.c)).trans h.c,(b.block _ (ah h.x)).trans h.x,(b.block _ (ah h.y)).trans h.y,⟨d,hd,(b.block _ (ah hz)).trans hz⟩⟩
theorem kB(p:Int)(k:Nat)(tl:TypeId)(ul:Value)(tr:TypeId)(ur:Value)(av:Option Addr)(nv cv:Nat)(ae:Option Addr)(ne ce:Nat)(hb:Bool)(C:Cx)(G:aw E)(T:fS)(F:Fd)(b:Bool)(w:Wd)(e:Fin 8->Sp.Iv)(es Xa dU:List cE)(s1 s2 v1 v2 u:ST)(h:aP C G T F w)
  (hs:xL C G T F b k (σ tl ul) (σ tr ur) (Y e) es s1 s2) (h1:PJ C G T (told G b F es) b w (Z av nv cv) s1 Xa v1) (h2:PJ C G T (told G b (told G b F es) Xa) b w (Z ae ne ce) s2 dU v2) (w1f:Sp.Wf (Kr G) v1) (w2f:Sp.Wf (Kr G) v2) (hu:Sp.jn (Dm G) v1 v2=u):
  Calls prog (G.ix 121 116) #[J (G.wk C b),J #[I O p,I O (k:Nat),σ tl ul,σ tr ur,Z av nv cv,Z ae ne ce,U hb],J (G.aQ (Y e))] w (jh C G T F b w (es++Xa++dU) u):=by
 cases E
 all_goals
  try dsimp only[aw.ix,aw.kd]at*
  obtain⟨k0,k1,k2,k3,kb⟩:=cN (w:=w) (o1:=L (G.wk C b) (G.ix 171 154)) (o2:=L #[I O p,I O (k:Nat),σ tl ul,σ tr ur,Z av nv cv,Z ae ne ce,U hb] 287) (o3:=L (G.aQ (Y e)) (G.ix 174 157)) (o4:=L G.zS (G.ix 174 157)) Å;have HW:=hs _ (h.call kb);have fH:=G.du C b;have hY:=G.aG (Y e);have ug:=G.aG s1;have MN:=G.aZ s1;have zL:=G.aG s2;have Nn:=G.aZ s2;have rI:=G.aG u;have Nq:=G.aZ u;have H1:Hid (∀W,aB C w W->aP C G T (told G b F es) W->Calls _ _ _ W _):=h1;have H2:Hid (∀W,aB C w W->aP C G T (told G b (told G b F es) Xa) W->Calls _ _ _ W _):=h2;have HJ:Hid (∀W,fU C.base G C.dv W->Calls prog (G.ix 82 79) #[J (G.wk C b),J (G.aQ v1),J (G.aQ v2)] W λe w'=>e=υ (J (G.aQ u))/\ω W w'):=λW hd=>qn (B:=C.base) (G:=G) C.dv C.ch C.ao C.narrow C.aj C.th C.m _ v1 v2 u W hd hu w1f w2f
  unfold gE at HW;unfold jh at H1 H2;generalize G.wk C b=wa at*;generalize G.aQ (Y e)=xa at*;generalize G.aQ s1=q1 at*;generalize G.aQ s2=q2 at*;generalize G.aQ v1=r1 at*;generalize G.aQ v2=r2 at*;generalize Zj:G.aQ u=uu at*;have Yh:=hid Zj;have K0:=hid k0;have K1:=hid k1;have K2:=hid k2;have K3:=hid k3;have c2:=cell_of k1 1 (v:=I O (k:Nat)) rfl;have c3:=cell_of k1 2 (v:=σ tl ul) rfl;have c4:=cell_of k1 3 (v:=σ tr ur) rfl;have HB:=hid kb;have HA:=hid h;have l1:w.heap.size<=w.heap.size+1:=À;have l3:w.heap.size<=w.heap.size+1+1+1:=À;clear h hs k0 k1 k2 k3 kb Zj h1 h2 hu w1f w2f;try dsimp only[aw.ix,aw.kd]
  first|go_enter func121,ntmps121|go_enter func116,ntmps116
  go_wp2_with (first
   |(refine cR (G:=G) rfl _ rfl rfl K0.out fH ?_)
   |(refine bR (G:=G) rfl _ rfl rfl K2.out hY ?_))
  refine HW.mono ?_;rintro r w1⟨rfl,a1,b1⟩;have ea:w.heap.size<=w1.heap.size:=Nat.le_trans HB.size b1.below.size;have qZ:w.heap.size+1+1+1<w1.heap.size:=Nat.lt_of_lt_of_le (ah K3.out) b1.below.size;obtain⟨t1,t2,t3,t4,tb⟩:=s9 (G:=G) w1 q1 q2 ug zL;have I4:=hid t1;have DF:=hid t2;have Zx:=(tb.block _ (ah (b1.bf HA.out È K0.out))).trans (b1.bf HA.out È K0.out);have wO:=(tb.block _ (ah (b1.bf HA.out l1 K1.out))).trans (b1.bf HA.out l1 K1.out);have pC:=(tb.block _ (ah (b1.bf HA.out l3 K3.out))).trans (b1.bf HA.out l3 K3.out);have H0:Hid (wu G wa q1 q2 #[I O p,I O (k:Nat),σ tl ul,σ tr ur,Z av nv cv,Z ae ne ce,U hb] w.heap.size w1.heap.size ((((w1.alloc (L G.zS (G.ix 174 157))).alloc (L G.zS (G.ix 174 157))).setCells w1.heap.size 0 q1.toList).setCells (w1.heap.size+1) 0 q2.toList).drew):=⟨Zx,wO,t3,t4,⟨_,rfl,pC⟩⟩;have HA4:Hid (aP C G T (told G b F es) ((((w1.alloc (L G.zS (G.ix 174 157))).alloc (L G.zS (G.ix 174 157))).setCells w1.heap.size 0 q1.toList).setCells (w1.heap.size+1) 0 q2.toList).drew):=HA.upon a1 (tb.mono ea).drew;have Xs:Hid (aB C w ((((w1.alloc (L G.zS (G.ix 174 157))).alloc (L G.zS (G.ix 174 157))).setCells w1.heap.size 0 q1.toList).setCells (w1.heap.size+1) 0 q2.toList).drew):=aB.upon HA.out ((aB.aF HB.out HA.le).trans b1) (tb.mono ea).drew;clear t1 t2 t3 t4 tb a1 b1 HW Zx wO pC;go_wp2_with (first
   |(refine cy (G:=G) rfl _ _ rfl rfl (c:=G.zS) (d:=q1) rfl (by exact I4.out) rfl ug MN ?_)
   |(refine cy (G:=G) rfl _ _ rfl rfl (c:=G.zS) (d:=q2) rfl (by exact DF.out) rfl zL Nn ?_))
  generalize ((((w1.alloc (L G.zS (G.ix 174 157))).alloc (L G.zS (G.ix 174 157))).setCells w1.heap.size 0 q1.toList).setCells (w1.heap.size+1) 0 q2.toList)=w4 at*;refine wp_region_held_drew (S:=λw':Wd=>wu G wa q1 q2 #[I O p,I O (k:Nat),σ tl ul,σ tr ur,Z av nv cv,Z ae ne ce,U hb] w.heap.size w1.heap.size w') Ã H0.out (λaa=>?_);refine nu 0 rfl (G.se rfl _ rfl _ _ rfl (wa) (λw' h=>aT h.o) fH) aa ?_;refine nu 1 rfl (G.se rfl _ rfl _ _ rfl (wa) (λw' h=>aT h.o) fH) aa ?_;refine nu 6 rfl (G.se rfl _ rfl _ _ rfl (wa) (λw' h=>aT h.o) fH) aa ?_;refine nu 4 rfl (G.nw rfl _ rfl _ _ rfl (q1) (λw' h=>aT h.x) ug) aa ?_;refine nu 9 rfl (G.nw rfl _ rfl _ _ rfl (q2) (λw' h=>aT h.y) zL) aa ?_;refine tq 2 (ρ (Y ⟨w.heap.size+1,4,M⟩)) aa ?_;refine tk 3 (Z av nv cv) rfl (λw' h=>by have d:=cell_of h.c 4 (v:=Z av nv cv) rfl;go_simp) aa ?_;refine tq 7 (ρ (Y ⟨w.heap.size+1,5,M⟩)) aa ?_;refine tk 8 (Z ae ne ce) rfl (λw' h=>by have d:=cell_of h.c 5 (v:=Z ae ne ce) rfl;go_simp) aa ?_;refine bP 5 λK hK=>?_
  simp only[bG,gd];go_simp;refine(H1.out _ Xs.out HA4.out).mono ?_;rintro r w5⟨rfl,a5,b5⟩;go_wp2_with fail;have Ub:=hid a5;have UH:Hid (aB C w w5):=Xs.trans b5;have BK:=aa.bH HA.out ea b5;refine hK.out _ _ BK (λaa=>?_);clear hK K BK a5 b5;refine bP 10 λK hK=>?_
  simp only[bG];go_simp;refine(H2.out _ UH.out Ub.out).mono ?_;rintro r w6⟨rfl,a6,b6⟩;go_wp2_with fail;have HA6:=hid a6;have HK6:Hid (aB C w w6):=UH.trans b6;have kj:=aa.bH HA.out ea b6;refine hK.out _ _ kj (λaa=>?_);clear hK K kj a6 b6;refine bP 11 λK hK=>?_
  simp only[bG];go_simp;refine(HJ.out _ HA6.does).mono ?_;rintro r w7⟨rfl,b7⟩;go_wp2_with fail;have HA7:Hid (aP C G T (told G b (told G b (told G b F es) Xa) dU) w7):=HA6.call b7;have HK7:Hid (aB C w w7):=HK6.more b7 HA.le;have Kj:=aa.call b7;refine hK.out _ _ Kj (λaa=>?_);clear hK K Kj b7;obtain⟨d,hd,hz⟩:=aa.z;have je:Hid (_=_):=ar hz (d:=uu) À;have ia:Hid (Below w.heap.size w7 _):=au (b:=w.heap.size+1+1+1) l3 uu.toList 0 w7 _ Å;refine bP 12 λK hK=>?_
  simp only[bG];rw[Á Ê];refine lY (G:=G) _ _ rfl rfl rfl (by rw[<-hd];exact bO hz) rI Nq ?_;refine hK.out _ _ ⟨(al _ _ _ _ À).trans aa.o,(al _ _ _ _ À).trans aa.c,(al _ _ _ _ À).trans aa.x,(al _ _ _ _ À).trans aa.y,⟨uu,rI,je.out⟩⟩ (λ_=>?_);clear hK K aa hz;refine wpAnyH_done Ã ?_ _;go_wp2_with fail;refine Ç (aU rfl _ _ rfl je.out rI) rfl ⟨by rw[Yh.out],by rw[aH,aH];exact HA.upon HA7.out ia.out,aB.upon HA.out HK7.out ia.out⟩
end
end W
end
section
namespace W
variable {E: Bool}{G: aw E}
section
variable{wq ic wa sa:Array Value}
variable{kq ko kw ks p:Nat}
variable{W W' w0:Wd}
structure lk(G:aw E)(wq ic wa sa:Array Value)(kq ko kw ks:Nat)(W:Wd):Prop where
 q:W.heap[kq]?=Y (L wq (G.ix 171 154))
 c:W.heap[ko]?=Y (L ic 290)
 o:W.heap[kw]?=Y (L wa (G.ix 171 154))
 s:W.heap[ks]?=Y (L sa (G.ix 174 157))
theorem lk.call(h:lk G wq ic wa sa kq ko kw ks W)(b:ω W W'):lk G wq ic wa sa kq ko kw ks W':=
 ⟨(b.block _ (ah h.q)).trans h.q,(b.block _ (ah h.c)).trans h.c,(b.block _ (ah h.o)).trans h.o,(b.block _ (ah h.s)).trans h.s⟩
structure TI(n kq ko kw ks:Nat):Prop where
 q:n<=kq
 c:n<=ko
 o:n<=kw
 s:n<=ks
theorem lk.bH{C:Cx}{G:aw E}{T:fS}{F:Fd}(h:lk G wq ic wa sa kq ko kw ks W)(h0:aP C G T F w0)(hn:TI w0.heap.size kq ko kw ks)(b:aB C W W'):lk G wq ic wa sa kq ko kw ks W':=
 ⟨b.bf h0 hn.q h.q,b.bf h0 hn.c h.c,b.bf h0 hn.o h.o,b.bf h0 hn.s h.s⟩
theorem lk.put(h:lk G wq ic wa sa kq ko kw ks W)(hp:kq<p/\ko<p/\kw<p/\ks<p)(l:List Value):lk G wq ic wa sa kq ko kw ks (W.setCells p 0 l):=
 ⟨(al _ _ _ _ À).trans h.q,(al _ _ _ _ À).trans h.c,(al _ _ _ _ À).trans h.o,(al _ _ _ _ À).trans h.s⟩
abbrev Cb(p:Int)(k:Nat)(tl:TypeId)(ul:Value)(tr:TypeId)(ur:Value)(av:Option Addr)(nv cv:Nat):Array Value:=#[I O p,I O (k:Nat),σ tl ul,σ tr ur,Z av nv cv]
theorem IS(p:Int)(k:Nat)(tl:TypeId)(ul:Value)(tr:TypeId)(ur:Value)(av:Option Addr)(nv cv:Nat)(C:Cx)(G:aw E)(T:fS)(F F0:Fd)(b:Bool)(w0 w:Wd)(kq ko kw ks:Nat)(s i:ST)(h0:aP C G T F0 w0)(hn:TI w0.heap.size kq ko kw ks)(h:aP C G T F w)(hc:lk G (G.wk C false) (Cb p k tl ul tr ur av nv cv) (G.wk C b) (G.aQ s) kq ko kw ks w)(Xa dU:List cE)(s1 s2 v u:ST)
  (hs:xL C G T F false k (σ tl ul) (σ tr ur) i Xa s1 s2) (h1:PJ C G T F false w (Z av nv cv) s1 dU v) (wsf:Sp.Wf (Kr G) s) (wvf:Sp.Wf (Kr G) v) (hu:Sp.jn (Dm G) s v=u):
  Calls prog (G.ix 221 218) #[J (G.aQ i),ρ (Y ⟨kq,0,M⟩),ρ (Y ⟨ko,0,M⟩),ρ (Y ⟨kw,0,M⟩),ρ (Y ⟨ks,0,M⟩)] w λe w'=>e=υ (J (G.aQ u))/\aP C G T F w'/\aB C w w':=by
 cases E
 all_goals
  try dsimp only[aw.ix,aw.kd]at*
  obtain⟨k0,k1,kb⟩:=ft (w:=w) (o1:=L (G.aQ i) (G.ix 174 157)) (o2:=L G.zS (G.ix 174 157)) Å;have HW:=hs _ (h.call kb);have fH:=G.du C b;have ZV:=G.du C false;have hY:=G.aG i;have ug:=G.aG s1;have MN:=G.aZ s1;have zL:=G.aG s2;have Nn:=G.aZ s2;have X1:=G.aG s;have rI:=G.aG u;have Nq:=G.aZ u;have H1:Hid (∀W,aB C w W->aP C G T F W->Calls _ _ _ W _):=h1;have HJ:Hid (∀W,fU C.base G C.dv W->Calls prog (G.ix 82 79) #[J (G.wk C b),J (G.aQ s),J (G.aQ v)] W λe w'=>e=υ (J (G.aQ u))/\ω W w'):=λW hd=>qn (B:=C.base) (G:=G) C.dv C.ch C.ao C.narrow C.aj C.th C.m _ s v u W hd hu wsf wvf
  have wO:=hc.call kb;unfold gE at HW;unfold jh at H1;generalize G.wk C false=wq at*;generalize G.wk C b=wa at*;generalize G.aQ i=xa at*;generalize G.aQ s=sa at*;generalize G.aQ s1=q1 at*;generalize G.aQ s2=q2 at*;generalize G.aQ v=r1 at*;generalize G.aQ u=uu at*;have K0:=hid k0;have K1:=hid k1;have HQ:=hid wO.q;have c1:=cell_of wO.c 1 (v:=I O (k:Nat)) rfl;have c2:=cell_of wO.c 2 (v:=σ tl ul) rfl;have c3:=cell_of wO.c 3 (v:=σ tr ur) rfl;have HC4:=hid wO;have HB:=hid kb;have HA:=hid h;have H00:=hid h0;have HN:=hid hn;have df:kq<w.heap.size/\ko<w.heap.size/\kw<w.heap.size/\ks<w.heap.size:=⟨ah hc.q,ah hc.c,ah hc.o,ah hc.s⟩;have QH:=hid df;clear h hs k0 k1 kb h1 hu wsf wvf hc wO h0 hn df;try dsimp only[aw.ix,aw.kd]
  first|go_enter func221,ntmps221|go_enter func218,ntmps218
  go_wp2_with (first
   |(refine cR (G:=G) rfl _ rfl rfl HQ.out ZV ?_)
   |(refine bR (G:=G) rfl _ rfl rfl K0.out hY ?_))
  refine HW.mono ?_;rintro r w1⟨rfl,a1,b1⟩;have ea:w.heap.size<=w1.heap.size:=Nat.le_trans HB.size b1.below.size;have sG:w.heap.size+1<w1.heap.size:=Nat.lt_of_lt_of_le (ah K1.out) b1.below.size;obtain⟨t1,t2,t3,t4,tb⟩:=s9 (G:=G) w1 q1 q2 ug zL;have I4:=hid t1;have DF:=hid t2;have pC:=(tb.block _ (ah (b1.bf HA.out À K1.out))).trans (b1.bf HA.out À K1.out);have H0:Hid ((lk G wq (Cb p k tl ul tr ur av nv cv) wa sa kq ko kw ks ((((w1.alloc (L G.zS (G.ix 174 157))).alloc (L G.zS (G.ix 174 157))).setCells w1.heap.size 0 q1.toList).setCells (w1.heap.size+1) 0 q2.toList).drew/\((((w1.alloc (L G.zS (G.ix 174 157))).alloc (L G.zS (G.ix 174 157))).setCells w1.heap.size 0 q1.toList).setCells (w1.heap.size+1) 0 q2.toList).drew.heap[w1.heap.size]?=Y (L q1 (G.ix 174 157)))/\∃d:Array Value,d.size=17/\((((w1.alloc (L G.zS (G.ix 174 157))).alloc (L G.zS (G.ix 174 157))).setCells w1.heap.size 0 q1.toList).setCells (w1.heap.size+1) 0 q2.toList).drew.heap[w.heap.size+1]?=Y (L d (G.ix 174 157))):=
   ⟨⟨(HC4.bH H00.out HN.out b1).call tb.drew,t3⟩,⟨_,rfl,pC⟩⟩
  have HA4:Hid (aP C G T F ((((w1.alloc (L G.zS (G.ix 174 157))).alloc (L G.zS (G.ix 174 157))).setCells w1.heap.size 0 q1.toList).setCells (w1.heap.size+1) 0 q2.toList).drew):=HA.upon a1 (tb.mono ea).drew;have Xs:Hid (aB C w ((((w1.alloc (L G.zS (G.ix 174 157))).alloc (L G.zS (G.ix 174 157))).setCells w1.heap.size 0 q1.toList).setCells (w1.heap.size+1) 0 q2.toList).drew):=aB.upon HA.out ((aB.aF HB.out HA.le).trans b1) (tb.mono ea).drew;clear t1 t2 t3 t4 tb a1 b1 HW pC HC4 c1 c2 c3;go_wp2_with (first
   |(refine cy (G:=G) rfl _ _ rfl rfl (c:=G.zS) (d:=q1) rfl (by exact I4.out) rfl ug MN ?_)
   |(refine cy (G:=G) rfl _ _ rfl rfl (c:=G.zS) (d:=q2) rfl (by exact DF.out) rfl zL Nn ?_))
  generalize ((((w1.alloc (L G.zS (G.ix 174 157))).alloc (L G.zS (G.ix 174 157))).setCells w1.heap.size 0 q1.toList).setCells (w1.heap.size+1) 0 q2.toList)=w4 at*;refine wp_region_held_drew (S:=λw':Wd=>(lk G wq (Cb p k tl ul tr ur av nv cv) wa sa kq ko kw ks w'/\w'.heap[w1.heap.size]?=Y (L q1 (G.ix 174 157)))/\∃d:Array Value,d.size=17/\w'.heap[w.heap.size+1]?=Y (L d (G.ix 174 157))) Ã H0.out (λaa=>?_);refine nu 0 rfl (G.se rfl _ rfl _ _ rfl (wa) (λw' h=>aT h.1.1.o) fH) aa ?_;refine nu 2 rfl (G.se rfl _ rfl _ _ rfl (wq) (λw' h=>aT h.1.1.q) ZV) aa ?_;refine nu 1 rfl (G.nw rfl _ rfl _ _ rfl (sa) (λw' h=>aT h.1.1.s) X1) aa ?_;refine nu 5 rfl (G.nw rfl _ rfl _ _ rfl (q1) (λw' h=>aT h.1.2) ug) aa ?_;refine tq 3 (ρ (Y ⟨ko,4,M⟩)) aa ?_;refine tk 4 (Z av nv cv) rfl (λw' h=>by have d:=cell_of h.1.1.c 4 (v:=Z av nv cv) rfl;go_simp) aa ?_;refine bP 6 λK hK=>?_
  simp only[bG,gd];go_simp;refine(H1.out _ Xs.out HA4.out).mono ?_;rintro r w5⟨rfl,a5,b5⟩;go_wp2_with fail;have Ub:=hid a5;have UH:Hid (aB C w w5):=Xs.trans b5;obtain⟨d5,hd5,tQ⟩:=aa.2;have BK:=aa.1.1.bH H00.out HN.out b5;have hq5:=b5.bf HA.out ea aa.1.2;have tQ:=b5.bf HA.out À tQ;refine hK.out _ _ ⟨⟨BK,hq5⟩,d5,hd5,tQ⟩ (λaa=>?_);clear hK K BK a5 b5 hq5 tQ;refine bP 7 λK hK=>?_
  simp only[bG];go_simp;refine(HJ.out _ Ub.does).mono ?_;rintro r w7⟨rfl,b7⟩;go_wp2_with fail;have HA7:Hid (aP C G T F w7):=Ub.call b7;have HK7:Hid (aB C w w7):=UH.more b7 HA.le;obtain⟨d7,hd7,Kt⟩:=aa.2;have Kj:=aa.1.1.call b7;have hq7:=(b7.block _ (ah aa.1.2)).trans aa.1.2;have Kt:=(b7.block _ (ah Kt)).trans Kt;refine hK.out _ _ ⟨⟨Kj,hq7⟩,d7,hd7,Kt⟩ (λ_=>?_);clear hK K b7;have je:Hid (_=_):=ar Kt (d:=uu) À;have ia:Hid (Below w.heap.size w7 _):=au (b:=w.heap.size+1) À uu.toList 0 w7 _ Å;have df:=QH.out;refine bP 8 λK hK=>?_
  simp only[bG];rw[Á Ê];refine lY (G:=G) _ _ rfl rfl rfl (by rw[<-hd7];exact bO Kt) rI Nq ?_;refine hK.out _ _ ⟨⟨Kj.put À _,(al _ _ _ _ À).trans hq7⟩,⟨uu,rI,je.out⟩⟩ (λ_=>?_);clear hK K aa;refine wpAnyH_done Ã ?_ _;go_wp2_with fail;refine Ç (aU rfl _ _ rfl je.out rI) rfl ⟨rfl,HA.upon HA7.out ia.out,aB.upon HA.out HK7.out ia.out⟩
end
end W
end
section
namespace W
variable {E: Bool}{G: aw E}
theorem IA(tv:TypeId)(uv:Value)(C:Cx)(G:aw E)(T:fS)(F:Fd)(b:Bool)(w:Wd)(e:Fin 8->Sp.Iv)(es:List cE)(o:Option Sp.Iv)(h:aP C G T F w)
  (hs:∀W,aP C G T F W->Calls prog (G.ix 198 190) #[J (G.wk C b),J #[σ tv uv],J (G.aQ (Y e))] W (iU C G T F b W es o)):
  Calls prog (G.ix 166 162) #[J (G.wk C b),σ 351 (J #[σ tv uv]),J (G.aQ (Y e))] w (iU C G T F b w es o):=by
 cases E
 all_goals
  try dsimp only[aw.ix,aw.kd]at*
  have h1:=G8 (J #[σ tv uv]);have h2:=vL (J #[σ tv uv]);have h3:=GH (J #[σ tv uv]);obtain⟨k0,k1,k2,k3,kb⟩:=cN (w:=w) (o1:=L (G.wk C b) (G.ix 171 154)) (o2:=L (G.aQ (Y e)) (G.ix 174 157)) (o3:=L #[I G.kd 0,I G.kd 0] (G.ix 90 85)) (o4:=L #[σ tv uv] 351) Å;have HW:=hs _ (h.call kb);have fH:=G.du C b;have hY:=G.aG (Y e);generalize G.wk C b=wa at*;generalize G.aQ (Y e)=xa at*;have K0:=hid k0;have K1:=hid k1;have K2:=hid k2;have HB:=hid kb;have HA:=hid h;have qY:w.heap.size<=w.heap.size+1+1:=À;clear h k0 k1 k2 k3 kb hs;try dsimp only[aw.ix,aw.kd]
  first|go_enter func166,ntmps166|go_enter func162,ntmps162
  go_wp2_with (first
   |(refine cR (G:=G) rfl _ rfl rfl K0.out fH ?_)
   |(refine bR (G:=G) rfl _ rfl rfl K1.out hY ?_))
  refine HW.mono ?_;rintro r w1⟨rfl,a1,b1⟩;have kh:=b1.bf HA.out qY K2.out;obtain⟨m0,m1,jo,jH,_⟩:=aI kh;have Gp:=hid kh;have sD:=hid a1;have rG:Hid (aB C w w1):=(aB.aF HB.out HA.le).trans b1;clear a1 b1 HW kh;cases o with
  |none=>have H2:Hid (_=_):=dG Gp.out (I G.kd 0) (I G.kd 0);have nI:Hid (Below w.heap.size w1 _):=Below.two (Û w.heap.size w1) qY (I G.kd 0) (I G.kd 0);simp only[aw.y7];go_wp2_with fail;have Q0:=cell_of H2.out 0 (v:=I G.kd 0) rfl;have Q1:=cell_of H2.out 1 (v:=I G.kd 0) rfl;refine Ç (v:=φ #[J #[I G.kd 0,I G.kd 0],U false]) (by simp[results,results166,results162,go_sem,Q0,Q1]) rfl ?_;exact⟨rfl,HA.upon sD.out nI.out,aB.upon HA.out rG.out nI.out⟩
  |some z=>have H2:Hid (_=_):=dG Gp.out (I G.kd z.a) (I G.kd z.b);have nI:Hid (Below w.heap.size w1 _):=Below.two (Û w.heap.size w1) qY (I G.kd z.a) (I G.kd z.b);simp only[aw.y7];go_wp2_with fail;have Q0:=cell_of H2.out 0 (v:=I G.kd z.a) rfl;have Q1:=cell_of H2.out 1 (v:=I G.kd z.b) rfl;refine Ç (v:=φ #[J #[I G.kd z.a,I G.kd z.b],U true]) (by simp[results,results166,results162,go_sem,Q0,Q1]) rfl ?_;exact⟨rfl,HA.upon sD.out nI.out,aB.upon HA.out rG.out nI.out⟩
theorem ou(k:Nat)(q:Int)(tl:TypeId)(ul:Value)(tr:TypeId)(ur:Value)(C:Cx)(G:aw E)(T:fS)(F:Fd)(b:Bool)(w:Wd)(e:Fin 8->Sp.Iv)(es:List cE)(o:Option Sp.Iv)(h:aP C G T F w)
  (hs:∀W,aP C G T F W->Calls prog (G.ix 199 191) #[J (G.wk C b),J #[I O (k:Nat),I O q,σ tl ul,σ tr ur],J (G.aQ (Y e))] W (iU C G T F b W es o)):
  Calls prog (G.ix 166 162) #[J (G.wk C b),σ 355 (J #[I O (k:Nat),I O q,σ tl ul,σ tr ur]),J (G.aQ (Y e))] w (iU C G T F b w es o):=by
 cases E
 all_goals
  try dsimp only[aw.ix,aw.kd]at*
  have h1:=IP (J #[I O (k:Nat),I O q,σ tl ul,σ tr ur]);have h2:=pW (J #[I O (k:Nat),I O q,σ tl ul,σ tr ur]);have h3:=GL (J #[I O (k:Nat),I O q,σ tl ul,σ tr ur]);have h4:=Hn (J #[I O (k:Nat),I O q,σ tl ul,σ tr ur]);obtain⟨k0,k1,k2,k3,kb⟩:=cN (w:=w) (o1:=L (G.wk C b) (G.ix 171 154)) (o2:=L (G.aQ (Y e)) (G.ix 174 157)) (o3:=L #[I G.kd 0,I G.kd 0] (G.ix 90 85)) (o4:=L #[I O (k:Nat),I O q,σ tl ul,σ tr ur] 355) Å;have HW:=hs _ (h.call kb);have fH:=G.du C b;have hY:=G.aG (Y e);generalize G.wk C b=wa at*;generalize G.aQ (Y e)=xa at*;have K0:=hid k0;have K1:=hid k1;have K2:=hid k2;have HB:=hid kb;have HA:=hid h;have qY:w.heap.size<=w.heap.size+1+1:=À;clear h k0 k1 k2 k3 kb hs;try dsimp only[aw.ix,aw.kd]
  first|go_enter func166,ntmps166|go_enter func162,ntmps162
  go_wp2_with (first
   |(refine cR (G:=G) rfl _ rfl rfl K0.out fH ?_)
   |(refine bR (G:=G) rfl _ rfl rfl K1.out hY ?_))
  refine HW.mono ?_;rintro r w1⟨rfl,a1,b1⟩;have kh:=b1.bf HA.out qY K2.out;obtain⟨m0,m1,jo,jH,_⟩:=aI kh;have Gp:=hid kh;have sD:=hid a1;have rG:Hid (aB C w w1):=(aB.aF HB.out HA.le).trans b1;clear a1 b1 HW kh;cases o with
  |none=>have H2:Hid (_=_):=dG Gp.out (I G.kd 0) (I G.kd 0);have nI:Hid (Below w.heap.size w1 _):=Below.two (Û w.heap.size w1) qY (I G.kd 0) (I G.kd 0);simp only[aw.y7];go_wp2_with fail;have Q0:=cell_of H2.out 0 (v:=I G.kd 0) rfl;have Q1:=cell_of H2.out 1 (v:=I G.kd 0) rfl;refine Ç (v:=φ #[J #[I G.kd 0,I G.kd 0],U false]) (by simp[results,results166,results162,go_sem,Q0,Q1]) rfl ?_;exact⟨rfl,HA.upon sD.out nI.out,aB.upon HA.out rG.out nI.out⟩
  |some z=>have H2:Hid (_=_):=dG Gp.out (I G.kd z.a) (I G.kd z.b);have nI:Hid (Below w.heap.size w1 _):=Below.two (Û w.heap.size w1) qY (I G.kd z.a) (I G.kd z.b);simp only[aw.y7];go_wp2_with fail;have Q0:=cell_of H2.out 0 (v:=I G.kd z.a) rfl;have Q1:=cell_of H2.out 1 (v:=I G.kd z.b) rfl;refine Ç (v:=φ #[J #[I G.kd z.a,I G.kd z.b],U true]) (by simp[results,results166,results162,go_sem,Q0,Q1]) rfl ?_;exact⟨rfl,HA.upon sD.out nI.out,aB.upon HA.out rG.out nI.out⟩
theorem Vx(tv:TypeId)(uv:Value)(x:Sp.Sm)(ct:Sp.Ct)(hx:yd x)(hs:oW G (σ tv uv) x ct):oW G (σ 351 (J #[σ tv uv])) (.neg x) ct:=by intro C G T F b w e h he hr;exact IA tv uv C G T F b w e _ _ h λW hW=>lG tv uv C G T F b W e _ _ hW (λW2 Qy=>hs C G T F b W2 e Qy he hr) (λa ha=>j6 (K:=Kr G) x hx ct e he a ha)
theorem D0(tl:TypeId)(ul:Value)(tr:TypeId)(ur:Value)(x y:Sp.Sm)(ct bj:Sp.Ct)(hs:oW G (σ tl ul) x ct)(dq:oW G (σ tr ur) y bj)
  (C:Cx) (G:aw E) (T:fS) (F:Fd) (b:Bool) (e:Fin 8->Sp.Iv) (he:∀k,G.Wv (e k)):
  (∀es,Sp.dJ (Dm G) x ct e=(es,M)->dk b F es->oh C G T F b (σ tl ul) (σ tr ur) e es M) /\
  (∀es a dU,Sp.dJ (Dm G) x ct e=(es,Y a)->Sp.dJ (Dm G) y bj e=(dU,M)->dk b F (es++dU)->oh C G T F b (σ tl ul) (σ tr ur) e (es++dU) M) /\
  (∀es a dU c,Sp.dJ (Dm G) x ct e=(es,Y a)->Sp.dJ (Dm G) y bj e=(dU,Y c)->dk b F (es++dU)->oh C G T F b (σ tl ul) (σ tr ur) e (es++dU) (Y (a,c))):=by
 refine⟨λes h1 hr W hW=>?_,λes a dU h1 h2 hr W hW=>?_,λes a dU c h1 h2 hr W hW=>?_⟩
 .refine Ol tl ul tr ur C G T F b W e es hW (λW2 Qy=>?_)
  have:=hs C G T F b W2 e Qy he (by rw[h1];exact hr);rw[h1]at this;exact this
 .refine AU tl ul tr ur C G T F b W e es dU a M hW (λW2 Qy=>?_) (λW2 Qy=>?_)
  .have:=hs C G T F b W2 e Qy he (by rw[h1];exact hr.left)
   rw[h1]at this;exact this
  .have:=dq C G T (told G b F es) b W2 e Qy he (by rw[h2];exact hr.right)
   rw[h2]at this;exact this
 .refine AU tl ul tr ur C G T F b W e es dU a (Y c) hW (λW2 Qy=>?_) (λW2 Qy=>?_)
  .have:=hs C G T F b W2 e Qy he (by rw[h1];exact hr.left)
   rw[h1]at this;exact this
  .have:=dq C G T (told G b F es) b W2 e Qy he (by rw[h2];exact hr.right)
   rw[h2]at this;exact this
theorem Nt(k:Nat)(hk:k<5)(q:Int)(tl:TypeId)(ul:Value)(tr:TypeId)(ur:Value)(x y:Sp.Sm)(ct:Sp.Ct)(hq:3<=k->q=(Sp.cS x ct).2)(hx:yd x)(hy:yd y)
  (hs:oW G (σ tl ul) x ct) (dq:oW G (σ tr ur) y (if 3<=k then Sp.aL (Sp.cS x ct) else Sp.cS x ct)):
  oW G (σ 355 (J #[I O (k:Nat),I O q,σ tl ul,σ tr ur])) (.bin k x y) ct:=by
 intro C G T F b w e h he hr;obtain⟨s1,s2,s3⟩:=D0 tl ul tr ur x y ct _ hs dq C G T F b e he;have wx:=j6 (K:=Kr G) x hx ct e he;have wy:=j6 (K:=Kr G) y hy (if 3<=k then Sp.aL (Sp.cS x ct) else Sp.cS x ct) e he;cases ex:Sp.dJ (Dm G) x ct e with
 |mk es o=>
  rw[ex]at wx;cases o with
  |none=>have δ:=Sp.yt (Dm G) k x y ct e es ex;rw[δ]at hr⊢;exact ou k q tl ul tr ur C G T F b w e _ _ h λW hW=>AS k q tl ul tr ur C G T F b W e es hW (s1 es ex hr)
  |some a=>
   cases ey:Sp.dJ (Dm G) y (if 3<=k then Sp.aL (Sp.cS x ct) else Sp.cS x ct) e with
   |mk dU o2=>
    rw[ey]at wy;cases o2 with
    |none=>have δ:=Sp.uA (Dm G) k x y ct e es a dU ex ey;rw[δ]at hr⊢;exact ou k q tl ul tr ur C G T F b w e _ _ h λW hW=>AS k q tl ul tr ur C G T F b W e (es++dU) hW (s2 es a dU ex ey hr)
    |some c=>
     by_cases h3:3<=k
     .have δ:=Qb (Dm G) k x y ct e es a dU c ex ey h3
      rw[<-hq h3]at δ;rw[δ]at hr⊢;exact ou k q tl ul tr ur C G T F b w e _ _ h λW hW=>yQ k hk q tl ul tr ur C G T F b W e (es++dU) a c (wx a rfl) (wy c rfl) hW (s3 es a dU c ex ey hr.left) _ (.inr ⟨h3,rfl,hr.right⟩)
     .have δ:=NU (Dm G) k x y ct e es a dU c ex ey h3
      rw[δ]at hr⊢;exact ou k q tl ul tr ur C G T F b w e _ _ h λW hW=>yQ k hk q tl ul tr ur C G T F b W e (es++dU) a c (wx a rfl) (wy c rfl) hW (s3 es a dU c ex ey hr) _ (.inl ⟨h3,rfl⟩)
end W
end
section
namespace W
variable {E: Bool}{G: aw E}
def Ha(_:aw E)(vl vr:Value)(k:Nat)(x y:Sp.Sm)(ct:Sp.Ct):Prop:=
 ∀(C:Cx) (G:aw E) (T:fS) (F:Fd) (b:Bool) (w:Wd) (s:ST),aP C G T F w->Sp.Wf (Kr G) s->dk b F (Sp.dK (Dm G) k x y ct s).1 ->
  Calls prog (G.ix 167 163) #[J (G.wk C b),J #[I O (k:Nat),vl,vr],J (G.aQ s)] w (gE C G T F b w (Sp.dK (Dm G) k x y ct s).1 (Sp.dK (Dm G) k x y ct s).2.1 (Sp.dK (Dm G) k x y ct s).2.2)
theorem xH(k:Nat)(hk:k<6)(tl:TypeId)(ul:Value)(tr:TypeId)(ur:Value)(x y:Sp.Sm)(ct:Sp.Ct)(hx:yd x)(hy:yd y)(sx:lN (σ tl ul) x)(sy:lN (σ tr ur) y)
  (hs:oW G (σ tl ul) x ct) (dq:oW G (σ tr ur) y (Sp.cS x ct)):Ha G (σ tl ul) (σ tr ur) k x y ct:=by
 intro C G T F b w s h hw hr;cases s with
 |none=>exact KK k _ _ C G T F b w h
 |some e=>
  have he:=hw e rfl
  suffices H:∀A:List cE×ST×ST,Sp.dK (Dm G) k x y ct (Y e)=A->dk b F A.1->Calls prog (G.ix 167 163) #[J (G.wk C b),J #[I O (k:Nat),σ tl ul,σ tr ur],J (G.aQ (Y e))] w (gE C G T F b w A.1 A.2.1 A.2.2) from H _ rfl hr
  intro A hA hr;obtain⟨s1,s2,s3⟩:=D0 tl ul tr ur x y ct _ hs dq C G T F b e he;have wx:=j6 (K:=Kr G) x hx ct e he;have wy:=j6 (K:=Kr G) y hy (Sp.cS x ct) e he;cases ex:Sp.dJ (Dm G) x ct e with
  |mk es o=>
   rw[ex]at wx;cases o with
   |none=>have δ:=U6 (Dm G) k x y ct e es ex;obtain rfl:=hA.symm.trans δ;exact Jo k tl ul tr ur C G T F b w e es h (s1 es ex hr)
   |some a=>
    cases ey:Sp.dJ (Dm G) y (Sp.cS x ct) e with
    |mk dU o2=>
     rw[ey]at wy;cases o2 with
     |none=>have δ:=Wh (Dm G) k x y ct e es a dU ex ey;obtain rfl:=hA.symm.trans δ;exact Jo k tl ul tr ur C G T F b w e (es++dU) h (s2 es a dU ex ey hr)
     |some c=>have δ:=Vr (Dm G) k x y ct e es a dU c ex ey;obtain rfl:=hA.symm.trans δ;exact O4 (G:=G) k hk tl ul tr ur x y sx sy a c (wx a rfl) (wy c rfl) C G T F b w e he (es++dU) h (s3 es a dU c ex ey hr) _ _ rfl rfl
end W
end
section
namespace W
variable {E: Bool}{G: aw E}
theorem D4(C:Cx)(b:Bool)(w:Wd) :
  Calls prog (G.ix 220 217) #[J (G.wk C b)] w λe w'=>e=υ (J (G.wk C false))/\ω w w':=by
 cases E
 all_goals
  try dsimp only[aw.ix,aw.kd]at*
  unfold aw.wk aw.At;simp only[Bool.false_eq_true,if_false];generalize (if b=true then Y (⟨C.fb,0,M⟩:Addr) else M)=f;try dsimp only[aw.ix,aw.kd]
  first|go_enter func220,ntmps220|go_enter func217,ntmps217
  go_wp2_with fail;go_returns;exact⟨rfl,by go_grown⟩
inductive Yu:TypeId->Nat->Nat->Array Value->Prop
 |assign (p:Int) (k:Nat) (tv:TypeId) (uv:Value):Yu 276 119 114 #[I O p,I O (k:Nat),σ tv uv]
 |assert (p q:Int) (k:Nat) (tl:TypeId) (ul:Value) (tr:TypeId) (ur:Value):Yu 284 120 115 #[I O p,I O q,I O (k:Nat),σ tl ul,σ tr ur]
 |ite (p:Int) (k:Nat) (tl:TypeId) (ul:Value) (tr:TypeId) (ur:Value) (av:Option Addr) (nv cv:Nat) (ae:Option Addr) (ne ce:Nat) (hb:Bool):Yu 287 121 116 #[I O p,I O (k:Nat),σ tl ul,σ tr ur,Z av nv cv,Z ae ne ce,U hb]
 |loop (p:Int) (k:Nat) (tl:TypeId) (ul:Value) (tr:TypeId) (ur:Value) (av:Option Addr) (nv cv:Nat):Yu 290 122 117 #[I O p,I O (k:Nat),σ tl ul,σ tr ur,Z av nv cv]
theorem pN{ty:TypeId}{fI fC:Nat}{cs:Array Value}(hk:Yu ty fI fC cs)(C:Cx)(G:aw E)(T:fS)(F:Fd)(b:Bool)(w:Wd)(e:Fin 8->Sp.Iv)(es:List cE)(u:ST)(h:aP C G T F w)
  (hs:∀W,aB C w W->aP C G T F W->Calls prog (G.ix fI fC) #[J (G.wk C b),J cs,J (G.aQ (Y e))] W (jh C G T F b W es u)):
  Calls prog (G.ix 81 78) #[J (G.wk C b),σ ty (J cs),J (G.aQ (Y e))] w (jh C G T F b w es u):=by
 cases E
 all_goals
  try dsimp only[aw.ix,aw.kd]at*
  obtain⟨k0,k1,k2,k3,kb⟩:=cN (w:=w) (o1:=L (G.wk C b) (G.ix 171 154)) (o2:=L (G.aQ (Y e)) (G.ix 174 157)) (o3:=L G.zS (G.ix 174 157)) (o4:=L cs ty) Å;have HW:=hs _ (aB.aF kb h.le) (h.call kb);have fH:=G.du C b;have hY:=G.aG (Y e);have rI:=G.aG u;have Nq:=G.aZ u;unfold jh at HW;generalize G.wk C b=wa at*;generalize G.aQ (Y e)=xa at*;generalize Zj:G.aQ u=uu at*;have Yh:=hid Zj;have K0:=hid k0;have K1:=hid k1;have K2:=hid k2;have HB:=hid kb;have HA:=hid h;have l2:w.heap.size<=w.heap.size+1+1:=À;clear h hs k0 k1 k2 k3 kb Zj;try dsimp only[aw.ix,aw.kd]
  cases hk
  all_goals
   have t1:=Vf;have t2:=Vw;have t3:=Wa;have t4:=Vp;have t5:=Vz;have t6:=UL;have t7:=US;have t8:=VE;have t9:=U1;have t10:=Vj;have t11:=UY;have t12:=Wc;have t13:=Vu
   first|go_enter func81,ntmps81|go_enter func78,ntmps78
   go_wp2_with (first
    |(refine cR (G:=G) rfl _ rfl rfl (c:=wa) (by exact K0.out) fH ?_)
    |(refine bR (G:=G) rfl _ rfl rfl (c:=xa) (by exact K1.out) hY ?_))
   refine HW.mono ?_;rintro r w1⟨rfl,a1,b1⟩;have kh:=b1.bf HA.out l2 K2.out;have Gp:=hid kh;have je:Hid (_=_):=ar kh (d:=uu) (by rw[rI];rfl);have ia:Hid (Below w.heap.size w1 _):=au (b:=w.heap.size+1+1) l2 uu.toList 0 w1 _ Å;have sD:=hid a1;have rG:Hid (aB C w w1):=(aB.aF HB.out HA.le).trans b1;clear a1 b1 HW kh;go_wp2_with (first
    |(refine cy (G:=G) rfl _ _ rfl rfl rfl Gp.out rfl rI Nq ?_))
   refine Ç (aU rfl _ _ rfl je.out rI) rfl ⟨by rw[Yh.out],HA.upon sD.out ia.out,aB.upon HA.out rG.out ia.out⟩
end W
end
section
namespace W
variable {E: Bool}{G: aw E}
theorem GP(uD:Value)(g:Sp.Iv->Sp.Iv->Sp.Iv)(xs ys:List Sp.Iv)(w:Wd)(hx:xs.length=8)(hy:ys.length=8)(Xf:∀x∈xs,G.Wv x)(Wu:∀y∈ys,G.Wv y)
  (zK:∀W x y,ω w W->G.Wv x->G.Wv y->Calls prog (G.ix 305 282) #[uD,J #[I G.kd x.a,I G.kd x.b],J #[I G.kd y.a,I G.kd y.b]] W λe w'=>e=υ (J #[I G.kd (g x y).a,I G.kd (g x y).b])/\ω W w'):
  Calls prog (G.ix 123 118) #[J (G.eW true xs),J (G.eW true ys),.func (Fn.method "Widen") #[σ (G.ix 92 87) uD] #[]] w λe w'=>e=υ (J (G.eW true (List.zipWith g xs ys)))/\ω w w':=by
 cases E
 all_goals
  dsimp only[aw.ix,aw.kd]at*
  have HP:=hid zK;have zx:=G.iT true xs;have zy:=G.iT true ys;have H0:Hid (ee G w xs ys (((w.alloc (L (G.eW true xs) (G.ix 174 157))).alloc (L (G.eW true ys) (G.ix 174 157))).alloc (L G.zS (G.ix 174 157)))):=by obtain⟨k0,k1,k2,kb⟩:=bQ (w:=w) (o1:=L (G.eW true xs) (G.ix 174 157)) (o2:=L (G.eW true ys) (G.ix 174 157)) (o3:=L G.fF (G.ix 174 157)) Å;exact⟨k0,k1,k2,kb⟩
  have sx:(G.eW true xs).size=17:=G.eb hx;have sy:(G.eW true ys).size=17:=G.eb hy;clear zK
  first|go_enter func123,ntmps123|go_enter func118,ntmps118
  go_wp2_with fail
  go_loopw [17] (λoO wr=>∃j:Nat,j<=8/\oO=I O j/\Hid (ee G w (iy g xs ys j) ys wr)) (λoO _=>8-(intOf oO).toNat)
  case atStart=>exact⟨0,Ì,rfl,H0.out⟩
  case round=>
   obtain⟨j,hj,rfl,hq⟩:=hrel;clear H0 zx zy sx sy;by_cases dZ:j<8
   .obtain⟨x,hxj⟩:∃x,xs[j]?=Y x:=⟨_,Î À⟩
    obtain⟨y,hyj⟩:∃y,ys[j]?=Y y:=⟨_,Î À⟩;have WX:Hid (G.Wv x):=Xf x (Ù hxj);have WY:Hid (G.Wv y):=Wu y (Ù hyj);have Tv:(iy g xs ys j)[j]?=Y x:=by exact Dd hx hy dZ hxj
    have hml:(iy g xs ys j).length=8:=by unfold iy;simp;omega
    have Ua:Hid ((iy g xs ys j).set j (g x y)=iy g xs ys (j+1)):=yT hx hy dZ hxj hyj;obtain⟨x0,x1⟩:=G.iV (r:=true) Tv;obtain⟨y0,y1⟩:=G.iV (r:=true) hyj;have cx0:=cell_of hq.x _ x0;have cx1:=cell_of hq.x _ x1;have cy0:=cell_of hq.y _ y0;have cy1:=cell_of hq.y _ y1;have wJ:(j:Int)<8:=À;clear x0 x1 y0 y1;go_wp2_with fail
    go_region_with ((first|go_at_call 305|go_at_call 282);go_must (refine(HP.out _ x y hq.b.drew WX.out WY.out).mono ?_);rintro e w1 ⟨rfl,b1⟩;have A1:Hid (ee G w (iy g xs ys j) ys w1):=hq.call (W':=w1) ⟨b1.os,b1.tape,b1.output,b1.size,b1.block⟩;obtain⟨d0,d1,d2,d3⟩:=A1.cells Tv)
    all_goals
     have A2:Hid (ee G w (iy g xs ys (j+1)) ys ((w1.setCell ⟨w.heap.size,1+j*2,M⟩ (I G.kd (g x y).a)).setCell ⟨w.heap.size,1+j*2+1,M⟩ (I G.kd (g x y).b))):=by unfold Hid;rw[<-Ua.out];exact A1.set À (g x y)
     clear b1;go_wp2_with fail;exact⟨⟨j+1,À,by go_num,A2⟩,by simp[intOf];omega⟩
   .obtain rfl:j=8:=À
    have A:Hid (ee G w (List.zipWith g xs ys) ys wr):=by unfold Hid;rw[<-yC hx hy];exact hq.out
    have sz:(G.eW true (List.zipWith g xs ys)).size=17:=G.eb (by simp;omega);have hr:Hid (_=_):=ar A.z (d:=G.eW true (List.zipWith g xs ys)) (by rw[sz];rfl);have HB:Hid (ω w _):=au (b:=w.heap.size+1+1) À (G.eW true (List.zipWith g xs ys)).toList 0 w _ A.b;clear hq hj dZ;go_wp2_with (first
     |(refine bR (G:=G) rfl _ rfl rfl A.x sz ?_)
     |(refine cy (G:=G) rfl _ _ rfl rfl rfl A.z rfl sz (G.mh _ _) ?_))
    refine Ç (aU rfl _ _ rfl hr.out sz) rfl ⟨rfl,HB.out⟩
theorem EO(uD:Value)(g:Sp.Iv->Sp.Iv->Sp.Iv)(xs ys:List Sp.Iv)(w:Wd)(hx:xs.length=8)(hy:ys.length=8)(Xf:∀x∈xs,G.Wv x)(Wu:∀y∈ys,G.Wv y)
  (zK:∀W x y,ω w W->G.Wv x->G.Wv y->Calls prog (G.ix 300 277) #[uD,J #[I G.kd x.a,I G.kd x.b],J #[I G.kd y.a,I G.kd y.b]] W λe w'=>e=υ (J #[I G.kd (g x y).a,I G.kd (g x y).b])/\ω W w'):
  Calls prog (G.ix 123 118) #[J (G.eW true xs),J (G.eW true ys),.func (Fn.method "Narrow") #[σ (G.ix 92 87) uD] #[]] w λe w'=>e=υ (J (G.eW true (List.zipWith g xs ys)))/\ω w w':=by
 cases E
 all_goals
  dsimp only[aw.ix,aw.kd]at*
  have HP:=hid zK;have zx:=G.iT true xs;have zy:=G.iT true ys;have H0:Hid (ee G w xs ys (((w.alloc (L (G.eW true xs) (G.ix 174 157))).alloc (L (G.eW true ys) (G.ix 174 157))).alloc (L G.zS (G.ix 174 157)))):=by obtain⟨k0,k1,k2,kb⟩:=bQ (w:=w) (o1:=L (G.eW true xs) (G.ix 174 157)) (o2:=L (G.eW true ys) (G.ix 174 157)) (o3:=L G.fF (G.ix 174 157)) Å;exact⟨k0,k1,k2,kb⟩
  have sx:(G.eW true xs).size=17:=G.eb hx;have sy:(G.eW true ys).size=17:=G.eb hy;clear zK
  first|go_enter func123,ntmps123|go_enter func118,ntmps118
  go_wp2_with fail
  go_loopw [17] (λoO wr=>∃j:Nat,j<=8/\oO=I O j/\Hid (ee G w (iy g xs ys j) ys wr)) (λoO _=>8-(intOf oO).toNat)
  case atStart=>exact⟨0,Ì,rfl,H0.out⟩
  case round=>
   obtain⟨j,hj,rfl,hq⟩:=hrel;clear H0 zx zy sx sy;by_cases dZ:j<8
   .obtain⟨x,hxj⟩:∃x,xs[j]?=Y x:=⟨_,Î À⟩
    obtain⟨y,hyj⟩:∃y,ys[j]?=Y y:=⟨_,Î À⟩;have WX:Hid (G.Wv x):=Xf x (Ù hxj);have WY:Hid (G.Wv y):=Wu y (Ù hyj);have Tv:(iy g xs ys j)[j]?=Y x:=by exact Dd hx hy dZ hxj
    have hml:(iy g xs ys j).length=8:=by unfold iy;simp;omega
    have Ua:Hid ((iy g xs ys j).set j (g x y)=iy g xs ys (j+1)):=yT hx hy dZ hxj hyj;obtain⟨x0,x1⟩:=G.iV (r:=true) Tv;obtain⟨y0,y1⟩:=G.iV (r:=true) hyj;have cx0:=cell_of hq.x _ x0;have cx1:=cell_of hq.x _ x1;have cy0:=cell_of hq.y _ y0;have cy1:=cell_of hq.y _ y1;have wJ:(j:Int)<8:=À;clear x0 x1 y0 y1;go_wp2_with fail
    go_region_with ((first|go_at_call 300|go_at_call 277);go_must (refine(HP.out _ x y hq.b.drew WX.out WY.out).mono ?_);rintro e w1 ⟨rfl,b1⟩;have A1:Hid (ee G w (iy g xs ys j) ys w1):=hq.call (W':=w1) ⟨b1.os,b1.tape,b1.output,b1.size,b1.block⟩;obtain⟨d0,d1,d2,d3⟩:=A1.cells Tv)
    all_goals
     have A2:Hid (ee G w (iy g xs ys (j+1)) ys ((w1.setCell ⟨w.heap.size,1+j*2,M⟩ (I G.kd (g x y).a)).setCell ⟨w.heap.size,1+j*2+1,M⟩ (I G.kd (g x y).b))):=by unfold Hid;rw[<-Ua.out];exact A1.set À (g x y)
     clear b1;go_wp2_with fail;exact⟨⟨j+1,À,by go_num,A2⟩,by simp[intOf];omega⟩
   .obtain rfl:j=8:=À
    have A:Hid (ee G w (List.zipWith g xs ys) ys wr):=by unfold Hid;rw[<-yC hx hy];exact hq.out
    have sz:(G.eW true (List.zipWith g xs ys)).size=17:=G.eb (by simp;omega);have hr:Hid (_=_):=ar A.z (d:=G.eW true (List.zipWith g xs ys)) (by rw[sz];rfl);have HB:Hid (ω w _):=au (b:=w.heap.size+1+1) À (G.eW true (List.zipWith g xs ys)).toList 0 w _ A.b;clear hq hj dZ;go_wp2_with (first
     |(refine bR (G:=G) rfl _ rfl rfl A.x sz ?_)
     |(refine cy (G:=G) rfl _ _ rfl rfl rfl A.z rfl sz (G.mh _ _) ?_))
    refine Ç (aU rfl _ _ rfl hr.out sz) rfl ⟨rfl,HB.out⟩
end W
end
section
namespace W
variable {E: Bool}{G: aw E}
theorem L9(f:Value)(x y:Array Value)(w:Wd)(h0:x[0]?=Y (U false)) :
  Calls prog (G.ix 123 118) #[J x,J y,f] w λe w'=>e=υ (J (G.aQ M))/\ω w w':=by
 cases E
 all_goals
  dsimp only[aw.ix,aw.kd]at*
  obtain⟨k0,k1,k2,kb⟩:=bQ (w:=w) (o1:=L x (G.ix 174 157)) (o2:=L y (G.ix 174 157)) (o3:=L G.zS (G.ix 174 157)) Å;have c0:=cell_of k0 0 h0;have HZ:=hid k2;have ia:=hid kb;clear k0 k1 k2 kb
  first|go_enter func123,ntmps123|go_enter func118,ntmps118
  go_wp2_with fail;refine Ç (aU rfl _ _ rfl HZ.out rfl) rfl ⟨rfl,ia.out⟩
theorem Et{B:Nat}{G:aw E}(dv:Value)(e e':Fin 8->Sp.Iv)(w:Wd)(hd:fU B G dv w)(he:∀k,G.Wv (e k))(Ad:∀k,G.Wv (e' k)) :
  Calls prog (G.ix 123 118) #[J (G.aQ (Y e)),J (G.aQ (Y e')),.func (Fn.method "Widen") #[σ (G.ix 92 87) dv] #[]] w λr w'=>r=υ (J (G.aQ (o6 (Dm G) (Dm G).widen (Y e) (Y e'))))/\ω w w':=by
 have h:=GP dv (G.iB) (List.ofFn e) (List.ofFn e') w Ä Ä (λx hx=>by obtain⟨k,rfl⟩:=ì.1 hx;exact he k) (λx hx=>by obtain⟨k,rfl⟩:=ì.1 hx;exact Ad k)
  (λW x y k wx wy=>VK (hd.below (k.mono hd.size)) wx wy)
 rw[zv]at h;exact h
theorem Da{B:Nat}{G:aw E}(dv:Value)(e e':Fin 8->Sp.Iv)(w:Wd)(hd:fU B G dv w)(he:∀k,G.Wv (e k))(Ad:∀k,G.Wv (e' k)) :
  Calls prog (G.ix 123 118) #[J (G.aQ (Y e)),J (G.aQ (Y e')),.func (Fn.method "Narrow") #[σ (G.ix 92 87) dv] #[]] w λr w'=>r=υ (J (G.aQ (o6 (Dm G) (Dm G).narrow (Y e) (Y e'))))/\ω w w':=by
 have h:=EO dv G.kC (List.ofFn e) (List.ofFn e') w Ä Ä (λx hx=>by obtain⟨k,rfl⟩:=ì.1 hx;exact he k) (λx hx=>by obtain⟨k,rfl⟩:=ì.1 hx;exact Ad k)
  (λW x y k wx wy=>Ry (hd.below (k.mono hd.size)) wx wy)
 rw[zv]at h;exact h
end W
end
section
namespace W
variable {E: Bool}{G: aw E}
abbrev vA(x:Sp.Iv):Int:=x.a
abbrev vB(x:Sp.Iv):Int:=x.b
theorem wm{x y:Sp.Iv}(h:vA x=vA y)(k:vB x=vB y):x=y:=si h k
def zu(G:aw E)(x:Sp.Iv):Prop:=(Lit.int G.kd (vA x)).wf=true/\(Lit.int G.kd (vB x)).wf=true
theorem VD{x:Sp.Iv}(h:G.Wv x):zu G x:=by
 cases E
 .obtain⟨h0,h⟩:=h
  have e1:IntKind.i64.min=-9223372036854775808:=rfl;have e2:IntKind.i64.max=9223372036854775807:=rfl;have hm:(mz x).m=x.a.toNat:=rfl;have hr:(mz x).r=x.b:=rfl;have q:x.a<=65536/\-65536<=x.b/\x.b<=65536:=by
   rcases h with⟨h1,h2⟩|⟨h1,h2,h3,h4⟩
   .have:=h2.1;have:=h2.2;omega
   .omega
  refine⟨?_,?_⟩<;>(simp only[Lit.wf,vA,vB,e1,e2,à,Õ];omega)
 .obtain⟨h1,h2,h3⟩:=h
  have e1:IntKind.i16.min=-32768:=rfl;have e2:IntKind.i16.max=32767:=rfl;refine⟨?_,?_⟩<;>(simp only[Lit.wf,vA,vB,e1,e2,à,Õ];omega)
theorem PR:zu G ⟨0,0⟩:=by cases E<;>exact⟨Ê,Ê⟩
end W
end
end Go.Proofs.YtiopfihjmkfdmabGreatDoor
