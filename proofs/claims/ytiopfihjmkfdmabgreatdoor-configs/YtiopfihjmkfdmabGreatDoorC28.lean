import Derived.Test.YtiopfihjmkfdmabGreatDoorC27
import Derived.Deep.CutRange
namespace Go.Proofs.YtiopfihjmkfdmabGreatDoor
open Option renaming none->M,some->Y
open Go.Value renaming agg->J,pointer->ρ,int->I,bool->U,iface->σ,tuple->φ,slice->Z
open Go.IntKind renaming i64->O
open Go.Obj renaming cells->L
open Go.Ending renaming returned->υ
open Go.Proofs.Tryz Sp
open Go.RowKit
set_option maxRecDepth 100000
set_option maxHeartbeats 16000000
section
namespace W
variable {E: Bool}{G: aw E}
section
variable{b k B:Nat}
variable{c na wa xa:Array Value}
theorem Cn{ops:Array Oper}{rest:List Oper}{op:Oper}{a:Act}{w:Wd}{Q:Exit->Act->Wd->Prop}(sE:op.guard=M)(x y:Operand)(ho:op.op=.store (G.ix 174 157) x y)(hx:a.eval x=ρ (Y ⟨b,0,M⟩))(hy:a.eval y=J G.zS)(sF:na=G.fF)(h:Bk w b c (G.ix 174 157))(hc:c.size=17)
  (k:wpList prog ops Q rest (a.put op.dst undef) (w.setCells b 0 na.toList)):wpList prog ops Q (op::rest) a w:=by
 subst sF;exact cy sE x y ho hx hy h hc rfl (G.aZ M) k
def lN(v:Value):Sp.Sm->Prop
 |.name k=>v=σ 272 (I O (k:Nat))/\k<8
 |_=>(∃t u,v=σ t u)/\∀w,(Instr.typeAssert v 274 272 true).run prog w=.ok (φ #[I O 0,U false]) w
theorem La{G:aw E}(e:Fin 8->Sp.Iv)(k:Nat)(v:Sp.Iv):(List.ofFn e).set k v=List.ofFn (show Fin 8->Sp.Iv from iK (Dm G) e k v):=by
 refine List.ext_getElem? λi=>?_
 rw[List.getElem?_set,â,â];by_cases hi:i<8
 .rw[dif_pos hi,dif_pos hi]
  by_cases hk:k=i
  .subst hk
   rw[Á rfl,Á (by simpa using hi)];exact Ë Y (Á rfl).symm
  .rw[Â hk]
   exact Ë Y (Â (λe=>hk e.symm)).symm
 .rw[dif_neg hi,dif_neg hi]
  by_cases hk:k=i
  .rw[Á hk,Â (by simp;omega)]
  .rw[Â hk]
theorem aw.CM(G:aw E)(e:Fin 8->Sp.Iv)(k:Nat)(hk:k<8)(v:Sp.Iv):((G.aQ (Y e)).setIfInBounds (1+k*2) (I G.kd v.a)).setIfInBounds (1+k*2+1) (I G.kd v.b)=G.aQ (show ST from Y (iK (Dm G) e k v)):=by show((G.eW true (List.ofFn e)).setIfInBounds (1+k*2) (I G.kd v.a)).setIfInBounds (1+k*2+1) (I G.kd v.b)=G.eW true (List.ofFn _);rw[G.CZ v (by simpa using hk),La]
theorem gK(tv:TypeId)(uv:Value)(r:Nat)(wa:Array Value)(y:Sp.Iv)(s:ST)(w:Wd)(h:s=M∨∀w,(Instr.typeAssert (σ tv uv) 274 272 true).run prog w=.ok (φ #[I O 0,U false]) w)(hn:s=M->(∃k:Nat,tv=272/\uv=I O k)∨∀w,(Instr.typeAssert (σ tv uv) 274 272 true).run prog w=.ok (φ #[I O 0,U false]) w) :
  Calls prog (G.ix 202 194) #[J wa,σ tv uv,I O (r:Nat),J #[I G.kd y.a,I G.kd y.b],J (G.aQ s)] w λe w'=>e=υ (J (G.aQ s))/\ω w w':=by
 cases E
 all_goals
  try dsimp only[aw.ix,aw.kd]at*
  obtain⟨k0,k1,k2,k3,kb⟩:=cN (w:=w) (o1:=L wa (G.ix 171 154)) (o2:=L #[I G.kd y.a,I G.kd y.b] (G.ix 90 85)) (o3:=L (G.aQ s) (G.ix 174 157)) (o4:=L G.fF (G.ix 174 157)) Å;have UA:=G.aG s;have h1:=G.aZ s;have hz:=G.iY s;have hr:Hid (_=_):=ar k3 (d:=G.aQ s) (by rw[UA];rfl);have HB:Hid (ω w _):=au (b:=w.heap.size+1+1+1) À (G.aQ s).toList 0 w _ kb;have K2:=hid k2;have K3:=hid k3;have d0:(G.aQ s)[0]?=Y (U s.isSome):=by rw[Ü À,hz]
  have c0:=cell_of k2 0 d0;clear k0 k1 k2 k3 kb hz d0;have wI:(∀w,(Instr.typeAssert (σ tv uv) 274 272 true).run prog w=.ok (φ #[I O 0,U false]) w)∨(s=M/\∃k:Nat,tv=272/\uv=I O k):=by
   rcases h with h|h
   .rcases hn h with hk|hk
    .exact .inr ⟨h,hk⟩
    .exact .inl hk
   .exact .inl h
  clear h hn
  rcases wI with ht|⟨hs,k,rfl,rfl⟩
  .generalize G.aQ s=xa at*
   generalize s.isSome=rb at*;try dsimp only[aw.ix,aw.kd]
   first|go_enter func202,ntmps202|go_enter func194,ntmps194
   go_wp2_with (first
    |(refine bR (G:=G) rfl _ rfl rfl K2.out UA ?_)
    |(refine cy (G:=G) rfl _ _ rfl rfl rfl K3.out rfl UA h1 ?_))
   refine Ç (aU rfl _ _ rfl hr.out UA) rfl ⟨rfl,HB.out⟩
  .have ht:=nW (I O k)
   have dq:s.isSome=false:=by rw[hs];rfl
   have z0:∀h:0<(G.aQ s).size,(G.aQ s)[0]=U false:=λh=>by rw[G.iY s h,dq]
   generalize G.aQ s=xa at*;clear hs dq c0;try dsimp only[aw.ix,aw.kd]
   first|go_enter func202,ntmps202|go_enter func194,ntmps194
   go_wp2_with (first
    |(refine bR (G:=G) rfl _ rfl rfl K2.out UA ?_)
    |(refine cy (G:=G) rfl _ _ rfl rfl rfl K3.out rfl UA h1 ?_))
   refine Ç (aU rfl _ _ rfl hr.out UA) rfl ⟨rfl,HB.out⟩
structure D6(G:aw E)(wa xa:Array Value)(y:Sp.Iv)(k:Nat)(W:Wd):Prop where
 o:W.heap[k]?=Y (L wa (G.ix 171 154))
 y:W.heap[k+1]?=Y (L #[I G.kd y.a,I G.kd y.b] (G.ix 90 85))
 x:W.heap[k+1+1]?=Y (L xa (G.ix 174 157))
 z:W.heap[k+1+1+1]?=Y (L G.fF (G.ix 174 157))
theorem D6.call{y:Sp.Iv}{W W':Wd}(h:D6 G wa xa y k W)(b:ω W W'):D6 G wa xa y k W':=
 ⟨(b.block _ (ah h.o)).trans h.o,(b.block _ (ah h.y)).trans h.y,(b.block _ (ah h.x)).trans h.x,(b.block _ (ah h.z)).trans h.z⟩
theorem GK{G:aw E}(k:Nat)(hk:k<8)(r:Nat)(hr:r<6)(dv:Value)(wa:Array Value)(kL:wa[0]?=Y (σ (G.ix 92 87) dv))(y:Sp.Iv)(hy:G.Wv y)(e:Fin 8->Sp.Iv)(he:∀j,G.Wv (e j))(w:Wd)(hd:fU B G dv w)(u:ST)(hu:sd (Dm G) (.name k) r y (Y e)=u) :
  Calls prog (G.ix 202 194) #[J wa,σ 272 (I O (k:Nat)),I O (r:Nat),J #[I G.kd y.a,I G.kd y.b],J (G.aQ (Y e))] w λe w'=>e=υ (J (G.aQ u))/\ω w w':=by
 cases E
 all_goals
  try dsimp only[aw.ix,aw.kd]at*
  have hg:pV (Dm G) e k=e ⟨k,hk⟩:=dif_pos hk;have Ul:u=match G.iP r (e ⟨k,hk⟩) y with
    |some v=>(show ST from Y (iK (Dm G) e k v))
    |none=>M:=by
   rw[<-hu];have e1:(Dm G).bound r (pV (Dm G) e k) y=G.iP r (e ⟨k,hk⟩) y:=Ë (λz=>(Dm G).bound r z y) hg;cases hb:G.iP r (e ⟨k,hk⟩) y with
   |none=>exact y5 (Dm G) k r y e (e1.trans hb)
   |some v=>exact sT (Dm G) k r y e v (e1.trans hb)
  obtain⟨k0,k1,k2,k3,kb⟩:=cN (w:=w) (o1:=L wa (G.ix 171 154)) (o2:=L #[I G.kd y.a,I G.kd y.b] (G.ix 90 85)) (o3:=L (G.aQ (Y e)) (G.ix 174 157)) (o4:=L G.fF (G.ix 174 157)) Å;have ht:=nW (I O k);obtain⟨na,sF⟩:∃na,na=G.fF:=⟨_,rfl⟩;have tT:na.size=17:=by rw[sF];rfl
  have rJ:=hid sF;clear sF;have UA:=G.aG (Y e);have z0:∀h:0<(G.aQ (Y e)).size,(G.aQ (Y e))[0]=U true:=λh=>G.iY (Y e) h
  obtain⟨x0,x1⟩:=G.xG e ⟨k,hk⟩;have wF:(k:Int)<8:=À;have DI:Hid (∀v:Sp.Iv,_=_):=λv=>G.CM e k hk v
  have HX:=he ⟨k,hk⟩;have Ni:Hid (∀v:Sp.Iv,(G.aQ (show ST from Y (iK (Dm G) e k v))).size=17/\(G.aQ (show ST from Y (iK (Dm G) e k v))).all (·.oneCell')=true):=λv=>⟨G.aG _,G.aZ _⟩
  generalize e ⟨k,hk⟩=x at*;simp only at x0 x1;have HD:Hid (∀W,ω w W->Calls _ _ _ W _):=λW hW=>U2 (hd.below (hW.mono hd.size)) hr HX hy
  generalize oQ:G.aQ (Y e)=xa at*;clear hg hu;have H0:Hid (D6 G wa xa y w.heap.size ((((w.alloc (L wa (G.ix 171 154))).alloc (L #[I G.kd y.a,I G.kd y.b] (G.ix 90 85))).alloc (L xa (G.ix 174 157))).alloc (L G.zS (G.ix 174 157))).drew):=⟨k0,k1,k2,k3⟩;have HB:=hid kb;clear k0 k1 k2 k3 kb;try dsimp only[aw.ix,aw.kd]
  first|go_enter func202,ntmps202|go_enter func194,ntmps194
  have X9:Hid (ω w ((((w.alloc (L wa (G.ix 171 154))).alloc (L #[I G.kd y.a,I G.kd y.b] (G.ix 90 85))).alloc (L xa (G.ix 174 157))).alloc (L G.zS (G.ix 174 157))).drew):=HB.drew;go_wp2_with fail;generalize (((w.alloc (L wa (G.ix 171 154))).alloc (L #[I G.kd y.a,I G.kd y.b] (G.ix 90 85))).alloc (L xa (G.ix 174 157))).alloc (L G.zS (G.ix 174 157))=W at*;obtain⟨p,q,ok,hp⟩:=PE G (G.iP r x y);have HO:=hid hp;clear hp
  go_cut [12,13] from 27 to 40 (λv12 WO wc=>∃n:Nat,v12=U ok/\WO=ρ (Y ⟨n,0,M⟩)/\Hid (D6 G wa xa y w.heap.size wc/\wc.heap[n]?=Y (L #[I G.kd p,I G.kd q] (G.ix 90 85))/\ω w wc))
  case first=>
   refine wp_region_held_drew (S:=λw':Wd=>D6 G wa xa y w.heap.size w') Ã H0.out (λaa=>?_);refine tq 0 (ρ (Y ⟨w.heap.size,0,M⟩)) aa ?_;refine tk 1 (σ (G.ix 92 87) dv) rfl (λw' h=>by have d:=cell_of h.o 0 kL;go_simp) aa ?_;refine tq 2 (I O (r:Nat)) aa ?_;refine tq 3 (I O (k:Nat)) aa ?_;refine tq 4 (ρ (Y ⟨w.heap.size+1+1,1,M⟩)) aa ?_;refine tq 5 (ρ (Y ⟨w.heap.size+1+1,1+k*2,M⟩)) aa ?_;refine tk 6 (J #[I G.kd x.a,I G.kd x.b]) rfl (λw' h=>by(have d0:=cell_of h.x _ x0);have d1:=cell_of h.x _ x1;go_simp) aa ?_;refine tk 7 (J #[I G.kd y.a,I G.kd y.b]) rfl (λw' h=>by(have d0:=cell_of h.y 0 (v:=I G.kd y.a) rfl);have d1:=cell_of h.y 1 (v:=I G.kd y.b) rfl;go_simp) aa ?_;refine tq 8 (σ (G.ix 92 87) dv) aa ?_;refine tq 9 (σ (G.ix 92 87) dv) aa ?_;refine zZ 10 14 (λK hK=>?_) (λK hK=>?_)
   .simp only[bG,gd]
    go_simp;refine(HD.out _ X9.out).mono ?_;rintro q1 w1⟨rfl,b1⟩;rw[HO.out];go_wp2_with fail;have jW:=aa.call b1;have hH1:=jW;have DA:Hid (ω w w1):=X9.trans (b1.mono X9.size);refine hK.out _ _ jW (λaa=>?_);clear hK K jW b1;refine tq 11 (φ #[J #[I G.kd p,I G.kd q],U ok]) aa ?_;refine tq 12 (J #[I G.kd p,I G.kd q]) aa ?_;refine tq 13 (U ok) aa ?_;refine bP 14 λK hK=>?_
    simp only[bG];go_simp;refine hK.out _ _ (aa.call (below_alloc1 _ _)) (λaa=>?_);clear hK K;refine bP 15 λK hK=>?_
    simp only[bG];go_simp;refine hK.out _ _ (hH1.call (below_alloc1 _ _)) (λaa=>?_);clear hK K;refine bP 16 λK hK=>?_
    simp only[bG];go_simp;refine hK.out _ _ aa (λaa=>?_);clear hK K;refine wpAnyH_done Ã ?_ _;have HR:=hid (And.intro aa (And.intro (heap_alloc_new w1 (L #[I G.kd p,I G.kd q] (G.ix 90 85))) (DA.alloc DA.size (L #[I G.kd p,I G.kd q] (G.ix 90 85)))));clear aa hH1;go_wp2_with fail;go_meet;exact⟨_,rfl,rfl,HR⟩
   .simp only[bG,gd]
    go_simp;have Xm:=aa.call (below_alloc1 _ (L #[I G.kd 0,I G.kd 0] (G.ix 90 85)));have Zl:w.heap.size≠W.heap.size:=by have:=ah aa.z;show w.heap.size≠W.drew.heap.size;omega
    have X7:w.heap.size+1≠W.heap.size:=by have:=ah aa.z;show w.heap.size+1≠W.drew.heap.size;omega
    have Yk:w.heap.size+1+1≠W.heap.size:=by have:=ah aa.z;show w.heap.size+1+1≠W.drew.heap.size;omega
    have hd3:w.heap.size+1+1+1≠W.heap.size:=by have:=ah aa.z;show w.heap.size+1+1+1≠W.drew.heap.size;omega
    have WI:w.heap.size<=W.heap.size:=X9.size;have HBa:Hid (ω w (W.drew.alloc (L #[I G.kd 0,I G.kd 0] (G.ix 90 85)))):=X9.alloc X9.size _;have HNa:Hid (_=_):=heap_alloc_new W.drew (L #[I G.kd 0,I G.kd 0] (G.ix 90 85));refine hK.out _ _ Xm (λaa=>?_);clear hK K Xm;refine bP 10 λK hK=>?_
    simp only[bG];go_simp;refine(HD.out _ HBa.out).mono ?_;rintro q1 w1⟨rfl,b1⟩;rw[HO.out];go_wp2_with fail;have jW:=aa.call b1;have DA:Hid (ω w w1):=HBa.trans (b1.mono HBa.size);have MO:Hid (w1.heap[W.heap.size]?=Y (L #[I G.kd 0,I G.kd 0] (G.ix 90 85))):=(b1.block _ (ah HNa.out)).trans HNa.out;obtain⟨g0,g1,gf0,gf1,gq⟩:=aI MO.out;refine hK.out _ _ jW (λaa=>?_);clear hK K jW b1;refine tq 11 (φ #[J #[I G.kd p,I G.kd q],U ok]) aa ?_;refine tq 12 (J #[I G.kd p,I G.kd q]) aa ?_;refine tq 13 (U ok) aa ?_;refine bP 15 λK hK=>?_
    simp only[bG];go_simp;have tQ:=ai (ai MO.out 0 (I G.kd p)) 1 (I G.kd q);refine hK.out _ _ ⟨cH Zl aa.o _ _,cH X7 aa.y _ _,cH Yk aa.x _ _,cH hd3 aa.z _ _⟩ (λaa=>?_);clear hK K;refine bP 16 λK hK=>?_
    simp only[bG];go_simp;refine hK.out _ _ aa (λaa=>?_);clear hK K;refine wpAnyH_done Ã ?_ _;have HR:=hid (And.intro aa (And.intro tQ (Below.two DA.out WI (I G.kd p) (I G.kd q))));clear aa tQ;go_wp2_with fail;go_meet;exact⟨_,rfl,rfl,HR⟩
  case rest=>
   obtain⟨nn,rfl,rfl,HQ⟩:=hcut;have gN:=HQ.1;have Gb:=HQ.2.1;have WT:=hid HQ.2.2;cases hq:G.iP r x y with
   |none=>
    have H1:=HO.out;rw[hq]at H1;simp[aw.y7]at H1;obtain⟨⟨rfl,rfl⟩,rfl⟩:=H1;clear HO;have Xy:Hid (u=M):=Ul.trans (by rw[hq];try rfl);clear Ul hq;have HZ:=hid gN.z;have je:Hid (_=_):=ar gN.z (d:=na) (by rw[tT];rfl);have ia:Hid (ω w _):=au (b:=w.heap.size+1+1+1) À na.toList 0 w _ WT.out;clear gN;go_wp2_with (first
     |(refine Cn (G:=G) rfl _ _ rfl rfl rfl rJ.out HZ.out rfl ?_))
    refine Ç (aU rfl _ _ rfl je.out tT) rfl ⟨by rw[Xy.out,rJ.out];rfl,ia.out⟩
   |some v=>
    have H1:=HO.out;rw[hq]at H1;simp[aw.y7]at H1;obtain⟨⟨rfl,rfl⟩,rfl⟩:=H1;clear HO;have Xy:Hid (u=Y (iK (Dm G) e k v)):=Ul.trans (by rw[hq];try rfl);clear Ul hq;obtain⟨n0,n1,_,_,_⟩:=aI Gb;have y0:=cell_of gN.x _ x0;have y1:=cell_of gN.x _ x1;have f0:=ay gN.x (1+k*2);have f1:=ay gN.x (1+k*2+1);have BJ:=ai (ai gN.x (1+k*2) (I G.kd v.a)) (1+k*2+1) (I G.kd v.b);rw[DI.out v]at BJ;have FW:w.heap.size+1+1+1≠w.heap.size+1+1:=À;have nJ:((wc.setCell ⟨w.heap.size+1+1,1+k*2,M⟩ (I G.kd v.a)).setCell ⟨w.heap.size+1+1,1+k*2+1,M⟩ (I G.kd v.b)).heap[w.heap.size+1+1+1]?=Y (L G.fF (G.ix 174 157)):=by rw[Æ _ _ _ _ (show w.heap.size+1+1+1≠(⟨w.heap.size+1+1,1+k*2+1,M⟩:Addr).block from FW),Æ _ _ _ _ (show w.heap.size+1+1+1≠(⟨w.heap.size+1+1,1+k*2,M⟩:Addr).block from FW)];exact gN.z
    have MJ:=hid BJ;have Gl:=hid nJ;obtain⟨o1,o2⟩:=Ni.out v;have je:Hid (_=_):=ar nJ (d:=G.aQ (show ST from Y (iK (Dm G) e k v))) (by rw[o1];rfl);have ia:Hid (ω w _):=au (b:=w.heap.size+1+1+1) À (G.aQ (show ST from Y (iK (Dm G) e k v))).toList 0 w _ ((WT.setCell (p:=⟨w.heap.size+1+1,1+k*2,M⟩) (by show w.heap.size<=w.heap.size+1+1;omega) (I G.kd v.a)).setCell (p:=⟨w.heap.size+1+1,1+k*2+1,M⟩) (by show w.heap.size<=w.heap.size+1+1;omega) (I G.kd v.b));clear gN BJ nJ Gb DI Ni;generalize xi:G.aQ (show ST from Y (iK (Dm G) e k v))=za at*;have Xu:=hid xi;clear xi;go_wp2_with (first
     |(refine bR (G:=G) rfl _ rfl rfl MJ.out o1 ?_)
     |(refine cy (G:=G) rfl _ _ rfl rfl rfl Gl.out rfl o1 o2 ?_))
    refine Ç (aU rfl _ _ rfl je.out o1) rfl ⟨by rw[Xy.out];exact Ë (λz=>Ending.returned (J z)) Xu.symm,ia.out⟩
theorem vU{G:aw E}(v:Value)(x:Sp.Sm)(hv:lN v x)(r:Nat)(hr:r<6)(dv:Value)(wa:Array Value)(kL:wa[0]?=Y (σ (G.ix 92 87) dv))(y:Sp.Iv)(hy:G.Wv y)(s:ST)(hs:Sp.Wf (Kr G) s)(w:Wd)(hd:fU B G dv w)(u:ST)(hu:sd (Dm G) x r y s=u) :
  Calls prog (G.ix 202 194) #[J wa,v,I O (r:Nat),J #[I G.kd y.a,I G.kd y.b],J (G.aQ s)] w λe w'=>e=υ (J (G.aQ u))/\ω w w':=by
 cases s with
 |none=>
  have hu:u=M:=by rw[<-hu];rfl
  subst hu;cases x with
  |name k=>obtain⟨rfl,hk⟩:=hv;exact gK _ _ r wa y M w (.inl rfl) (λ_=>.inl ⟨k,rfl,rfl⟩)
  |num n=>obtain⟨⟨t,u,rfl⟩,h⟩:=hv;exact gK t u r wa y M w (.inr h) (λ_=>.inr h)
  |neg z=>obtain⟨⟨t,u,rfl⟩,h⟩:=hv;exact gK t u r wa y M w (.inr h) (λ_=>.inr h)
  |bin k z q=>obtain⟨⟨t,u,rfl⟩,h⟩:=hv;exact gK t u r wa y M w (.inr h) (λ_=>.inr h)
 |some e=>
  cases x with
  |name k=>obtain⟨rfl,hk⟩:=hv;exact GK k hk r hr dv wa kL y hy e (hs _ rfl) w hd u hu
  |num n=>obtain⟨⟨t,z,rfl⟩,h⟩:=hv;have hu:u=Y e:=hu.symm;subst hu;exact gK t z r wa y (Y e) w (.inr h) (λ_=>.inr h)
  |neg z=>obtain⟨⟨t,z,rfl⟩,h⟩:=hv;have hu:u=Y e:=hu.symm;subst hu;exact gK t z r wa y (Y e) w (.inr h) (λ_=>.inr h)
  |bin k z q=>obtain⟨⟨t,z,rfl⟩,h⟩:=hv;have hu:u=Y e:=hu.symm;subst hu;exact gK t z r wa y (Y e) w (.inr h) (λ_=>.inr h)
end
end W
end
section
namespace W
variable {E: Bool}{G: aw E}
section
variable{B:Nat}
structure jk(G:aw E)(wa xa:Array Value)(c0 vl vr:Value)(a b:Sp.Iv)(kw kl kr kc ks:Nat)(W:Wd):Prop where
 o:W.heap[kw]?=Y (L wa (G.ix 171 154))
 l:W.heap[kl]?=Y (L #[I G.kd a.a,I G.kd a.b] (G.ix 90 85))
 r:W.heap[kr]?=Y (L #[I G.kd b.a,I G.kd b.b] (G.ix 90 85))
 c:W.heap[kc]?=Y (L #[c0,vl,vr] 282)
 x:W.heap[ks]?=Y (L xa (G.ix 174 157))
theorem jk.call{wa xa:Array Value}{c0 vl vr:Value}{a b:Sp.Iv}{kw kl kr kc ks:Nat}{W W':Wd}(h:jk G wa xa c0 vl vr a b kw kl kr kc ks W)(k:ω W W'):jk G wa xa c0 vl vr a b kw kl kr kc ks W':=
 ⟨(k.block _ (ah h.o)).trans h.o,(k.block _ (ah h.l)).trans h.l,(k.block _ (ah h.r)).trans h.r,(k.block _ (ah h.c)).trans h.c,(k.block _ (ah h.x)).trans h.x⟩
theorem LD{G:aw E}(r:Nat)(hr:r<6)(dv:Value)(wa xa:Array Value)(kL:wa[0]?=Y (σ (G.ix 92 87) dv))(c0 vl vr:Value)(a b:Sp.Iv)(ha:G.Wv a)(hb:G.Wv b)(kw kl kr kc ks:Nat)(w:Wd)(hd:fU B G dv w)(hT:gI w)(hG:11<=w.heap.size)(h:jk G wa xa c0 vl vr a b kw kl kr kc ks w)(hm:G.nV r a b=false) :
  Calls prog (G.ix 201 193) #[I O (r:Nat),ρ (Y ⟨kw,0,M⟩),ρ (Y ⟨kl,0,M⟩),ρ (Y ⟨kr,0,M⟩),ρ (Y ⟨kc,0,M⟩),ρ (Y ⟨ks,0,M⟩)] w λe w'=>e=υ (J (G.aQ M))/\ω w w':=by
 cases E
 all_goals
  try dsimp only[aw.ix,aw.kd]at*
  have kb:=below_alloc1 w (L G.zS (G.ix 174 157));have h0:=h.call kb;have HD:=YN (hd.below (kb.mono hd.size)) (hT.below kb hG) (Nat.le_trans hG kb.size) hr ha hb;rw[hm]at HD;have d0:=cell_of h0.o 0 kL;obtain⟨x0,x1,_,_,_⟩:=aI h0.l;obtain⟨y0,y1,_,_,_⟩:=aI h0.r;have HZ:Hid (_=_):=heap_alloc_new w (L G.zS (G.ix 174 157));have HB:=hid kb;obtain⟨na,sF⟩:∃na,na=G.fF:=⟨_,rfl⟩;have tT:na.size=17:=by rw[sF];rfl
  have rJ:=hid sF;clear sF h0 h hd hT kb;try dsimp only[aw.ix,aw.kd]
  first|go_enter func201,ntmps201|go_enter func193,ntmps193
  go_wp2_with fail;refine HD.mono ?_;rintro q w1⟨rfl,b1⟩;have kh:=(b1.block _ (ah HZ.out)).trans HZ.out;have Gp:=hid kh;have je:Hid (_=_):=ar kh (d:=na) (by rw[tT];rfl);have ia:Hid (ω w _):=au (b:=w.heap.size) È na.toList 0 w _ (HB.trans (b1.mono HB.size));clear b1 kh HD d0 x0 x1 y0 y1;go_wp2_with (first
   |(refine Cn (G:=G) rfl _ _ rfl rfl rfl rJ.out Gp.out rfl ?_))
  refine Ç (aU rfl _ _ rfl je.out tT) rfl ⟨by rw[rJ.out];rfl,ia.out⟩
theorem IC{G:aw E}(r:Nat)(hr:r<6)(hm6:eh r<6)(dv:Value)(wa:Array Value)(kL:wa[0]?=Y (σ (G.ix 92 87) dv))(fH:wa.size=8)(c0 vl vr:Value)(tl tr:TypeId)(ul ur:Value)(Yj:vl=σ tl ul)(hvr:vr=σ tr ur)(x y:Sp.Sm)(hl:lN vl x)(hy:lN vr y)(a b:Sp.Iv)(ha:G.Wv a)(hb:G.Wv b)(e:Fin 8->Sp.Iv)(he:∀k,G.Wv (e k))(kw kl kr kc ks:Nat)(w:Wd)(hd:fU B G dv w)(hT:gI w)(hG:11<=w.heap.size)(h:jk G wa (G.aQ (Y e)) c0 vl vr a b kw kl kr kc ks w)(hm:G.nV r a b=true)(s1 u:ST)(jW:sd (Dm G) x r b (Y e)=s1)(hu:sd (Dm G) y (eh r) a s1=u) :
  Calls prog (G.ix 201 193) #[I O (r:Nat),ρ (Y ⟨kw,0,M⟩),ρ (Y ⟨kl,0,M⟩),ρ (Y ⟨kr,0,M⟩),ρ (Y ⟨kc,0,M⟩),ρ (Y ⟨ks,0,M⟩)] w λe w'=>e=υ (J (G.aQ u))/\ω w w':=by
 cases E
 all_goals
  try dsimp only[aw.ix,aw.kd]at*
  have kb:=below_alloc1 w (L G.zS (G.ix 174 157));have h0:=h.call kb;have HD:=YN (hd.below (kb.mono hd.size)) (hT.below kb hG) (Nat.le_trans hG kb.size) hr ha hb;rw[hm]at HD;have w1f:Sp.Wf (Kr G) s1:=by rw[<-jW];exact xN (Sp.Wf.some he) hb
  have DA:Hid (∀W,ω w W->Calls _ _ _ W _):=λW hW=>vU (B:=B) (G:=G) vl x hl r hr dv wa kL b hb (Y e) (Sp.Wf.some he) W (hd.below (hW.mono hd.size)) s1 jW
  have nI:Hid (∀W,ω w W->Calls _ _ _ W _):=λW hW=>vU (B:=B) (G:=G) vr y hy (eh r) hm6 dv wa kL a ha s1 w1f W (hd.below (hW.mono hd.size)) u hu
  have HM:Hid (∀W,ω w W->Calls _ _ _ W _):=λW hW=>nR r hr W (hT.below hW hG)
  have lo:=ah h.o;have ll:=ah h.l;have lr:=ah h.r;have lc:=ah h.c;have lx:=ah h.x;have d0:=cell_of h0.o 0 kL;obtain⟨x0,x1,_,_,_⟩:=aI h0.l;obtain⟨y0,y1,_,_,_⟩:=aI h0.r;subst Yj hvr;have hY:=G.aG (Y e);have WN:=G.aG u;have Np:=G.aZ u;generalize G.aQ (Y e)=xa at*;generalize G.aQ s1=sa at*;generalize G.aQ u=ua at*;have HZ:Hid (_=_):=heap_alloc_new w (L G.zS (G.ix 174 157));have HB:=hid kb;have HC:Hid (jk G wa xa c0 (σ tl ul) (σ tr ur) a b kw kl kr kc ks _):=h0;clear h0 h hd hT kb;try dsimp only[aw.ix,aw.kd]
  first|go_enter func201,ntmps201|go_enter func193,ntmps193
  go_wp2_with fail;refine HD.mono ?_;rintro q w1⟨rfl,b1⟩;have zV:Hid (ω w w1.drew):=(HB.trans (b1.mono HB.size)).drew;have H0:Hid (jk G wa xa c0 (σ tl ul) (σ tr ur) a b kw kl kr kc ks w1.drew/\w1.drew.heap[w.heap.size]?=Y (L G.zS (G.ix 174 157))/\ω w w1.drew):=⟨HC.call b1.drew,(b1.block _ (ah HZ.out)).trans HZ.out,zV.out⟩;clear b1 HD d0 x0 x1 y0 y1;go_wp2_with fail;refine wp_region_held_drew (S:=λw':Wd=>jk G wa xa c0 (σ tl ul) (σ tr ur) a b kw kl kr kc ks w'/\(∃c,c.size=17/\w'.heap[w.heap.size]?=Y (L c (G.ix 174 157)))/\ω w w') Ã ⟨H0.1,⟨_,rfl,H0.2.1⟩,H0.2.2⟩ (λaa=>?_);refine nu 0 rfl (G.se rfl _ rfl _ _ rfl (wa) (λw' h=>aT h.1.o) fH) aa ?_;refine nu 6 rfl (G.se rfl _ rfl _ _ rfl (wa) (λw' h=>aT h.1.o) fH) aa ?_;refine nu 11 rfl (G.nw rfl _ rfl _ _ rfl (xa) (λw' h=>aT h.1.x) hY) aa ?_;refine tq 1 (ρ (Y ⟨kc,2,M⟩)) aa ?_;refine tk 2 (σ tr ur) rfl (λw' h=>by have d:=cell_of h.1.c 2 (v:=σ tr ur) rfl;go_simp) aa ?_;refine tq 3 (I O (r:Nat)) aa ?_;refine tk 5 (J #[I G.kd a.a,I G.kd a.b]) rfl (λw' h=>by(have d0:=cell_of h.1.l 0 (v:=I G.kd a.a) rfl);have d1:=cell_of h.1.l 1 (v:=I G.kd a.b) rfl;go_simp) aa ?_;refine tq 7 (ρ (Y ⟨kc,1,M⟩)) aa ?_;refine tk 8 (σ tl ul) rfl (λw' h=>by have d:=cell_of h.1.c 1 (v:=σ tl ul) rfl;go_simp) aa ?_;refine tq 9 (I O (r:Nat)) aa ?_;refine tk 10 (J #[I G.kd b.a,I G.kd b.b]) rfl (λw' h=>by(have d0:=cell_of h.1.r 0 (v:=I G.kd b.a) rfl);have d1:=cell_of h.1.r 1 (v:=I G.kd b.b) rfl;go_simp) aa ?_;refine bP 4 λK hK=>?_
  simp only[bG,gd];go_simp;refine(HM.out _ aa.2.2).mono ?_;rintro q w2⟨rfl,rfl⟩;go_wp2_with fail;refine hK.out _ _ aa (λaa=>?_);clear hK K;refine bP 12 λK hK=>?_
  simp only[bG];go_simp;refine(DA.out _ aa.2.2).mono ?_;rintro q w3⟨rfl,b3⟩;go_wp2_with fail;obtain⟨c3,zH,nJ⟩:=aa.2.1;have BM:jk G wa xa c0 (σ tl ul) (σ tr ur) a b kw kl kr kc ks w3/\(∃c,c.size=17/\w3.heap[w.heap.size]?=Y (L c (G.ix 174 157)))/\ω w w3:=⟨aa.1.call b3,⟨c3,zH,(b3.block _ (ah nJ)).trans nJ⟩,aa.2.2.trans (b3.mono aa.2.2.size)⟩;refine hK.out _ _ BM (λaa=>?_);clear hK K BM b3 nJ;refine bP 13 λK hK=>?_
  simp only[bG];go_simp;refine(nI.out _ aa.2.2).mono ?_;rintro q w4⟨rfl,b4⟩;go_wp2_with fail;obtain⟨c4,wO,pC⟩:=aa.2.1;have tQ:=(b4.block _ (ah pC)).trans pC;have XP:jk G wa xa c0 (σ tl ul) (σ tr ur) a b kw kl kr kc ks w4/\(∃c,c.size=17/\w4.heap[w.heap.size]?=Y (L c (G.ix 174 157)))/\ω w w4:=⟨aa.1.call b4,⟨c4,wO,tQ⟩,aa.2.2.trans (b4.mono aa.2.2.size)⟩;refine hK.out _ _ XP (λaa=>?_);clear hK K XP b4 pC;have je:Hid (_=_):=ar tQ (d:=ua) À;have ia:Hid (ω w _):=au (b:=w.heap.size) È ua.toList 0 w _ aa.2.2;refine bP 14 λK hK=>?_
  simp only[bG];rw[Á Ê];refine lY (G:=G) _ _ rfl rfl rfl (by rw[<-wO];exact bO tQ) WN Np ?_;refine hK.out _ _ ⟨⟨(al _ _ _ _ À).trans aa.1.o,(al _ _ _ _ À).trans aa.1.l,(al _ _ _ _ À).trans aa.1.r,(al _ _ _ _ À).trans aa.1.c,(al _ _ _ _ À).trans aa.1.x⟩,⟨ua,WN,je.out⟩,ia.out⟩ (λ_=>?_);clear hK K;refine wpAnyH_done Ã ?_ _;go_wp2_with fail;refine Ç (aU rfl _ _ rfl je.out WN) rfl ⟨rfl,ia.out⟩
theorem km{G:aw E}(r:Nat)(hr:r<6)(dv:Value)(wa:Array Value)(kL:wa[0]?=Y (σ (G.ix 92 87) dv))(fH:wa.size=8)(c0:Value)(tl tr:TypeId)(ul ur:Value)(x y:Sp.Sm)(hl:lN (σ tl ul) x)(hy:lN (σ tr ur) y)(a b:Sp.Iv)(ha:G.Wv a)(hb:G.Wv b)(e:Fin 8->Sp.Iv)(he:∀k,G.Wv (e k))(kw kl kr kc ks:Nat)(w:Wd)(hd:fU B G dv w)(hT:gI w)(hG:11<=w.heap.size)(h:jk G wa (G.aQ (Y e)) c0 (σ tl ul) (σ tr ur) a b kw kl kr kc ks w)(u:ST)(hu:gk (Dm G) r x y a b e=u) :
  Calls prog (G.ix 201 193) #[I O (r:Nat),ρ (Y ⟨kw,0,M⟩),ρ (Y ⟨kl,0,M⟩),ρ (Y ⟨kr,0,M⟩),ρ (Y ⟨kc,0,M⟩),ρ (Y ⟨ks,0,M⟩)] w λe w'=>e=υ (J (G.aQ u))/\ω w w':=by
 have hm6:eh r<6:=by rcases(show r=0∨r=1∨r=2∨r=3∨r=4∨r=5 from À) with rfl|rfl|rfl|rfl|rfl|rfl<;>decide
 cases hm:G.nV r a b with
 |false=>
  have:u=M:=by rw[<-hu];exact wA (Dm G) r x y a b e hm
  subst this;exact LD r hr dv wa _ kL c0 _ _ a b ha hb kw kl kr kc ks w hd hT hG h hm
 |true=>exact IC r hr hm6 dv wa kL fH c0 _ _ tl tr ul ur rfl rfl x y hl hy a b ha hb e he kw kl kr kc ks w hd hT hG h hm _ u rfl ((FF (Dm G) r x y a b e hm).symm.trans hu)
end
end W
end
theorem Pb(k:Nat)(hk:k<5)(w:Wd) :
  Calls prog 216 #[I O k] w λe w'=>e=υ (U (decide (3<=k)))/\w'=w:=by
 have wF:k=3∨k=4∨(k<3/\¬((k:Int)=3)/\¬((k:Int)=4)):=À
 rcases wF with rfl|rfl|⟨h2,h0,h1⟩
 .go_enter func216,ntmps216
  go_wp2_with fail;go_ret;exact⟨rfl,rfl⟩
 .go_enter func216,ntmps216
  go_wp2_with fail;go_ret;exact⟨rfl,rfl⟩
 .have hl:Hid (decide (3<=k)=false):=by unfold Hid;simp;omega
  clear h2 hk;go_enter func216,ntmps216;go_wp2_with fail;go_ret;refine⟨bt ?_,rfl⟩;rw[hl.out];simp[h0,h1]
def J7(t:TypeId)(u:Value)(p:Int):Prop:=∀w,(method 580 t u "Where").run prog w=.ok (45,I O p) w
theorem fX(p:Int)(w:Wd):Calls prog 45 #[I O p] w λe w'=>e=υ (I O p)/\w'=w:=by go_enter func45,ntmps45;go_wp2_with fail;go_ret;exact⟨rfl,rfl⟩
section
namespace W
variable {E: Bool}{G: aw E}
structure IW(G:aw E)(C:Cx)(F:Fd)(wa:Array Value)(k:Nat)(W:Wd):Prop where
 o:W.heap[k]?=Y (L wa (G.ix 171 154))
 f:W.heap[C.fb]?=Y (L #[Z (Y ⟨C.gf,0,M⟩) F.1.length C.cf,Z (Y ⟨C.gs,0,M⟩) F.2.length C.cs] (G.ix 169 152))
theorem Ls(C:Cx)(G:aw E)(T:fS)(F:Fd)(w:Wd)(h:aP C G T F w)(q n:Nat)(hq:F.2[q]?=Y n)(bad:Bool) :
  Calls prog (G.ix 168 164) #[J (G.wk C true),I O (q:Nat),U bad] w λe w'=>e=υ (φ #[])/\aP C G T (cY (Dm G) F (.site (q:Int) bad)) w'/\aB C w w':=by
 cases E
 all_goals
  dsimp only[aw.ix,aw.kd]at*
  have Zd:q<F.2.length:=(Í.1 hq).1;have abA:((q:Nat):Int)<((F.2.length:Nat):Int):=À;have wL:(G.wk C true)[7]?=Y (ρ (Y ⟨C.fb,0,M⟩)):=rfl;generalize G.wk C true=wa at*;have b0:ω w (w.alloc (L wa (G.ix 171 154))).drew:=(below_alloc1 w _).drew;have HA:Hid (aP C G T F (w.alloc (L wa (G.ix 171 154))).drew):=h.call b0;have HK:Hid (aB C w (w.alloc (L wa (G.ix 171 154))).drew):=aB.aF b0 h.le;have ho:(w.alloc (L wa (G.ix 171 154))).drew.heap[w.heap.size]?=Y (L wa (G.ix 171 154)):=heap_alloc_new w _;have H0:Hid (IW G C F wa w.heap.size (w.alloc (L wa (G.ix 171 154))).drew):=⟨ho,HA.DO⟩;have HC:Hid (_=_):=rj hq;have HQ:=hid hq;have d7:=cell_of (heap_alloc_new w (L wa (G.ix 171 154))) 7 wL;have c1:(w.alloc (L wa (G.ix 171 154))).cell? ⟨C.gs,q,M⟩=Y (I O (n:Nat)):=cell_of HA.xW q HC.out;have f1:(w.alloc (L wa (G.ix 171 154))).frozen? ⟨C.gs,q,M⟩=false:=ay HA.xW q;have db:w.heap.size≠C.gs:=by have:=h.lt.2.2.1;omega
  have aaf:C.fb≠C.gs:=h.ne.2.1;have hle:((n:Nat):Int)=(n:Int):=rfl;clear h hq b0 ho hle;cases bad with
  |true=>
   first|go_enter func168,ntmps168|go_enter func164,ntmps164
   go_wp2_with fail;generalize w.alloc (L wa (G.ix 171 154))=W at*;refine wp_region_held_drew (S:=λw':Wd=>IW G C F wa w.heap.size w') Ã H0.out (λaa=>?_);refine tq 0 (ρ (Y ⟨w.heap.size,7,M⟩)) aa ?_;refine tk 1 (ρ (Y ⟨C.fb,0,M⟩)) rfl (λw' h=>by have d:=cell_of h.o 7 wL;go_simp) aa ?_;refine tq 2 (ρ (Y ⟨C.fb,0,M⟩)) aa ?_;refine tq 3 (ρ (Y ⟨C.fb,1,M⟩)) aa ?_;refine tk 4 (Z (Y ⟨C.gs,0,M⟩) F.2.length C.cs) rfl (λw' h=>by have d:=cell_of h.f 1 rfl;go_simp) aa ?_;refine tq 5 (I O (q:Nat)) aa ?_;refine tq 6 (ρ (Y ⟨w.heap.size,7,M⟩)) aa ?_;refine tk 7 (ρ (Y ⟨C.fb,0,M⟩)) rfl (λw' h=>by have d:=cell_of h.o 7 wL;go_simp) aa ?_;refine tq 8 (ρ (Y ⟨C.fb,0,M⟩)) aa ?_;refine tq 9 (ρ (Y ⟨C.fb,1,M⟩)) aa ?_;refine tk 10 (Z (Y ⟨C.gs,0,M⟩) F.2.length C.cs) rfl (λw' h=>by have d:=cell_of h.f 1 rfl;go_simp) aa ?_;refine tq 11 (I O (q:Nat)) aa ?_;refine tq 12 (ρ (Y ⟨C.gs,q,M⟩)) aa ?_;refine tq 14 (I O 2) aa ?_;refine bP 13 λK hK=>?_
   simp only[bG,gd];go_simp;refine hK.out _ _ aa (λaa=>?_);clear hK K;refine tk 15 (I O (max ((n:Nat):Int) 2)) rfl (λw' h=>by go_simp<;>split<;>omega) aa ?_;refine tq 16 (ρ (Y ⟨C.gs,q,M⟩)) aa ?_;refine bP 17 λK hK=>?_
   simp only[bG,gd];go_simp;refine hK.out _ _ ⟨(Æ _ _ _ _ db).trans aa.o,(Æ _ _ _ _ aaf).trans aa.f⟩ (λ_=>?_);clear hK K;refine wpAnyH_done Ã ?_ _;go_wp2_with fail;have R:=hid (HA.site HQ.out true);rw[show((max n (if true=true then 2 else 1):Nat):Int)=max ((n:Nat):Int) 2 by simp;omega]at R;go_returns;exact⟨rfl,R.1,HK.trans R.2⟩
  |false=>
   first|go_enter func168,ntmps168|go_enter func164,ntmps164
   go_wp2_with fail;generalize w.alloc (L wa (G.ix 171 154))=W at*;refine wp_region_held_drew (S:=λw':Wd=>IW G C F wa w.heap.size w') Ã H0.out (λaa=>?_);refine tq 0 (ρ (Y ⟨w.heap.size,7,M⟩)) aa ?_;refine tk 1 (ρ (Y ⟨C.fb,0,M⟩)) rfl (λw' h=>by have d:=cell_of h.o 7 wL;go_simp) aa ?_;refine tq 2 (ρ (Y ⟨C.fb,0,M⟩)) aa ?_;refine tq 3 (ρ (Y ⟨C.fb,1,M⟩)) aa ?_;refine tk 4 (Z (Y ⟨C.gs,0,M⟩) F.2.length C.cs) rfl (λw' h=>by have d:=cell_of h.f 1 rfl;go_simp) aa ?_;refine tq 5 (I O (q:Nat)) aa ?_;refine tq 6 (ρ (Y ⟨w.heap.size,7,M⟩)) aa ?_;refine tk 7 (ρ (Y ⟨C.fb,0,M⟩)) rfl (λw' h=>by have d:=cell_of h.o 7 wL;go_simp) aa ?_;refine tq 8 (ρ (Y ⟨C.fb,0,M⟩)) aa ?_;refine tq 9 (ρ (Y ⟨C.fb,1,M⟩)) aa ?_;refine tk 10 (Z (Y ⟨C.gs,0,M⟩) F.2.length C.cs) rfl (λw' h=>by have d:=cell_of h.f 1 rfl;go_simp) aa ?_;refine tq 11 (I O (q:Nat)) aa ?_;refine tq 12 (ρ (Y ⟨C.gs,q,M⟩)) aa ?_;refine tq 14 (I O 1) aa ?_;refine bP 13 λK hK=>?_
   simp only[bG,gd];go_simp;refine hK.out _ _ aa (λaa=>?_);clear hK K;refine tk 15 (I O (max ((n:Nat):Int) 1)) rfl (λw' h=>by go_simp<;>split<;>omega) aa ?_;refine tq 16 (ρ (Y ⟨C.gs,q,M⟩)) aa ?_;refine bP 17 λK hK=>?_
   simp only[bG,gd];go_simp;refine hK.out _ _ ⟨(Æ _ _ _ _ db).trans aa.o,(Æ _ _ _ _ aaf).trans aa.f⟩ (λ_=>?_);clear hK K;refine wpAnyH_done Ã ?_ _;go_wp2_with fail;have R:=hid (HA.site HQ.out false);rw[show((max n (if false=true then 2 else 1):Nat):Int)=max ((n:Nat):Int) 1 by simp;omega]at R;go_returns;exact⟨rfl,R.1,HK.trans R.2⟩
theorem Hk(C:Cx)(q:Int)(bad:Bool)(w:Wd) :
  Calls prog (G.ix 168 164) #[J (G.wk C false),I O q,U bad] w λe w'=>e=υ (φ #[])/\ω w w':=by
 cases E
 all_goals
  dsimp only[aw.ix,aw.kd]at*
  have wL:(G.wk C false)[7]?=Y (ρ M):=rfl;generalize G.wk C false=wa at*;have d7:=cell_of (heap_alloc_new w (L wa (G.ix 171 154))) 7 wL
  first|go_enter func168,ntmps168|go_enter func164,ntmps164
  go_wp2_with fail;go_returns;exact⟨rfl,by go_grown⟩
theorem gG(C:Cx)(G:aw E)(T:fS)(F:Fd)(b:Bool)(w:Wd)(h:aP C G T F w)(q:Int)(bad:Bool)(hr:dk b F [.site q bad]) :
  Calls prog (G.ix 168 164) #[J (G.wk C b),I O q,U bad] w λe w'=>e=υ (φ #[])/\aP C G T (told G b F [.site q bad]) w'/\aB C w w':=by
 cases b with
 |false=>refine(Hk C q bad w).mono ?_;rintro e w'⟨rfl,k⟩;exact⟨rfl,h.call k,aB.aF k h.le⟩
 |true=>obtain⟨h1,h2⟩:=hr rfl _ (Ö.2 rfl);obtain⟨n,rfl⟩:∃n:Nat,q=(n:Int):=⟨q.toNat,À⟩;exact Ls C G T F w h n _ (Î (by simpa using h2)) bad
end W
end
end Go.Proofs.YtiopfihjmkfdmabGreatDoor
