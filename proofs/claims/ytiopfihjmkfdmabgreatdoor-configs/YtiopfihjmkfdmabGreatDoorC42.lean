import Derived.Test.YtiopfihjmkfdmabGreatDoorC17
import Derived.Test.YtiopfihjmkfdmabGreatDoorC41
import Derived.MapKept
namespace Go.Proofs.YtiopfihjmkfdmabGreatDoor
open Option renaming none->M,some->Y
open Go.Obj renaming cells->L
open Go.Value renaming int->I,slice->Z,agg->J,bool->U,iface->σ,tuple->φ,pointer->ρ
open Go.IntKind renaming i64->O
open Go.Ending renaming returned->υ
open Go.Proofs.Tryz Sp
open Go.RowKit
set_option maxRecDepth 100000
set_option maxHeartbeats 16000000
section
namespace W
variable {E: Bool}{G: aw E}
abbrev yP:=Int×((Fin 8->Sp.Iv)->List cE×ST)
def po:List yP->ST->List cE×ST
 |[],s=>([],s)
 |_::_,M=>([],M)
 |(p,π)::xs,Y e=>(.aA p e::((π e).1++(po xs (π e).2).1),(po xs (π e).2).2)
theorem AZ:∀xs:List yP,po xs M=([],M)
 |[]=>rfl
 |_::_=>rfl
structure Qg(C:Cx)(G:aw E)(T:fS)(F:Fd)(b:Bool)(w:Wd)(xs:List yP)(s:ST)(wa xa:Array Value)(j:Nat)(sj:ST)(ej:List cE)(W:Wd):Prop where
 eq:po xs s=(ej++(po (xs.drop j) sj).1,(po (xs.drop j) sj).2)
 a:aP C G T (told G b F ej) W
 k:aB C w W
 o:W.heap[w.heap.size]?=Y (L wa (G.ix 171 154))
 x:W.heap[w.heap.size+1]?=Y (L xa (G.ix 174 157))
 z:W.heap[w.heap.size+1+1]?=Y (L G.zS (G.ix 174 157))
 wf:Sp.Wf (Kr G) sj
 rng:dk b (told G b F ej) (po (xs.drop j) sj).1
 h:xa=G.aQ sj
theorem Fj(C:Cx)(G:aw E)(T:fS)(F:Fd)(b:Bool)(w:Wd)(g cap:Nat)(xs:List yP)(vs:List Value)(hlen:vs.length=xs.length)(hg:g<C.base)(hmx:(xs.length:Int)<=9223372036854775807)(s:ST)(hs:Sp.Wf (Kr G) s)(h:aP C G T F w)(hr:dk b F (po xs s).1)
  (il:∀(i:Nat) (u:Value),vs[i]?=Y u->w.cell? ⟨g,i,M⟩=Y u)
  (he:∀(i:Nat) (u:Value) (p:Int) (π:(Fin 8->Sp.Iv)->List cE × ST),vs[i]?=Y u->xs[i]?=Y (p,π)->∃t y,u=σ t y/\J7 t y p/\(∀e,(∀k,G.Wv (e k))->Sp.Wf (Kr G) (π e).2) /\
    ∀F' W e,aB C w W->aP C G T F' W->(∀k,G.Wv (e k))->dk b F' (π e).1->Calls prog (G.ix 81 78) #[J (G.wk C b),u,J (G.aQ (Y e))] W (jh C G T F' b W (π e).1 (π e).2)):
  Calls prog (G.ix 47 42) #[J (G.wk C b),Z (Y ⟨g,0,M⟩) xs.length cap,J (G.aQ s)] w (jh C G T F b w (po xs s).1 (po xs s).2):=by
 cases E
 all_goals
  try dsimp only[aw.ix,aw.kd]at*
  have fH:=G.du C b;have HPt:Hid (∀F' W p e,aP C G T F' W->(∀k,G.Wv (e k))->dk b F' [.aA p e]->Calls _ _ _ W _):=λF' W p e hW hwv W9=>Fb C G T F' b W hW p e hwv W9
  have HE:=hid he;generalize uf:G.wk C b=wa at*;have HWA:=hid uf;obtain⟨xa,oQ⟩:∃xa,xa=G.aQ s:=⟨_,rfl⟩;rw[<-oQ];have H0:Hid (Qg C G T F b w xs s wa xa 0 s [] (((w.alloc (L wa (G.ix 171 154))).alloc (L xa (G.ix 174 157))).alloc (L G.zS (G.ix 174 157)))):=by obtain⟨k0,k1,k2,kb⟩:=bQ (w:=w) (o1:=L wa (G.ix 171 154)) (o2:=L xa (G.ix 174 157)) (o3:=L G.zS (G.ix 174 157)) Å;exact⟨rfl,by rw[eI];exact h.call kb,aB.aF kb h.le,k0,k1,k2,hs,by rw[eI];exact hr,oQ⟩
  have HA:=hid h;have Z3:=hid il;have l1:w.heap.size<=w.heap.size+1:=À;have l2:w.heap.size<=w.heap.size+1+1:=À;clear h he il uf oQ hr hs;try dsimp only[aw.ix,aw.kd]
  first|go_enter func47,ntmps47|go_enter func42,ntmps42
  go_wp2_with fail;generalize ((w.alloc (L wa (G.ix 171 154))).alloc (L xa (G.ix 174 157))).alloc (L G.zS (G.ix 174 157))=W0 at*
  go_loopw [8,11] (λ_ i wr=>∃(j:Nat) (sj:ST) (ej:List cE) (xj:Array Value),j<=xs.length/\i=I O j/\Hid (Qg C G T F b w xs s wa xj j sj ej wr)) (λ_ i _=>xs.length-(intOf i).toNat)
  case atStart=>exact⟨0,s,[],xa,Ì,rfl,H0.out⟩
  case round=>
   obtain⟨j,sj,ej,xj,hj,rfl,hq⟩:=hrel;clear H0;have fV:xj.size=17:=by rw[hq.h];exact G.aG sj
   have x1:xj.all (·.oneCell')=true:=by rw[hq.h];exact G.aZ sj
   have HX:Hid (_=_):=hq.x;have HZ:=hid hq.z;have HO:=hid hq.o;by_cases dZ:j<xs.length
   .obtain⟨v,hv⟩:∃v,vs[j]?=Y v:=⟨_,Î À⟩
    obtain⟨pg,hx⟩:∃x,xs[j]?=Y x:=⟨_,Î dZ⟩;obtain⟨p,π⟩:=pg;obtain⟨t,y,rfl,hwh,hwG,im⟩:=HE.out j v p π hv hx;have hcu:wr.cell? ⟨g,j,M⟩=Y (σ t y):=by rw[hq.k.below.cell (p:=⟨g,j,M⟩) hg];exact Z3.out j _ hv
    have BR:xs.drop j=(p,π)::xs.drop (j+1):=by rw[ë dZ,(Í.1 hx).2]
    have Ga:((j:Nat):Int)<((xs.length:Nat):Int):=À;cases sj with
    |none=>
     have δ:Hid (po xs s=(ej,M)):=by have:=hq.eq;rw[AZ]at this;unfold Hid;rw[this];show(ej++[],M)=(ej,M);rw[List.append_nil]
     have je:Hid (_=_):=ar hq.z (d:=xj) (by rw[fV];rfl);have ia:Hid (Below w.heap.size wr _):=au (b:=w.heap.size+1+1) l2 xj.toList 0 wr _ Å;have d0:xj[0]?=Y (U false):=by rw[hq.h];rfl
     have c0:=cell_of HX.out 0 d0;clear im hwh hwG BR;go_wp2_with (first
      |(refine bR (G:=G) rfl _ rfl rfl HX.out fV ?_)
      |(refine cy (G:=G) rfl _ _ rfl rfl rfl HZ.out rfl fV x1 ?_))
     refine Ç (aU rfl _ _ rfl je.out fV) rfl ?_;rw[δ.out];exact⟨by rw[hq.h],HA.upon hq.a ia.out,aB.upon HA.out hq.k ia.out⟩
    |some e=>
     have qT:=hq.wf e rfl;have W9:=hq.rng;rw[BR]at W9;have abd:dk b (told G b F ej) [.aA p e]:=dk.left (es':=(π e).1++(po (xs.drop (j+1)) (π e).2).1) W9;have aag:dk b (told G b (told G b F ej) [.aA p e]) ((π e).1++(po (xs.drop (j+1)) (π e).2).1):=dk.right (es:=[.aA p e]) W9;have d0:xj[0]?=Y (U true):=by rw[hq.h];rfl
     have c0:=cell_of HX.out 0 d0;have HG:=hid im;have hP:=HPt.out (told G b F ej) wr.drew p e (HA.upon hq.a (Å).drew) qT abd;rw[<-hq.h]at hP;have H1:Hid (wr.drew.heap[w.heap.size]?=Y (L wa (G.ix 171 154))/\wr.drew.heap[w.heap.size+1]?=Y (L xj (G.ix 174 157))/\wr.drew.heap[w.heap.size+1+1]?=Y (L G.zS (G.ix 174 157))):=⟨HO.out,HX.out,HZ.out⟩;have HP:=hid hP;clear im hP;have hwm:∀w,(method 580 t y "Where").run prog w=.ok (45,I O p) w:=hwh;have e17:=G.aG (π e).2;have e1o:=G.aZ (π e).2;go_wp2_with fail;refine wp_region_held_drew (S:=λw':Wd=>w'.heap[w.heap.size]?=Y (L wa (G.ix 171 154))/\w'.heap[w.heap.size+1]?=Y (L xj (G.ix 174 157))/\w'.heap[w.heap.size+1+1]?=Y (L G.zS (G.ix 174 157))) Ã H1.out (λaa=>?_);refine nu 0 rfl (G.se rfl _ rfl _ _ rfl (wa) (λw' h=>aT h.1) fH) aa ?_;refine nu 3 rfl (G.nw rfl _ rfl _ _ rfl (xj) (λw' h=>aT h.2.1) fV) aa ?_;refine tq 1 (σ t y) aa ?_;refine bP 2 λK hK=>?_
     simp only[bG,gd];go_simp;refine(fX p _).mono ?_;rintro r w1⟨rfl,rfl⟩;go_wp2_with fail;refine hK.out _ _ aa (λaa=>?_);clear hK K;refine bP 4 λK hK=>?_
     simp only[bG];go_simp;refine HP.mono ?_;rintro r w1⟨rfl,a1,b1⟩;have sD:=hid a1;have rG:Hid (aB C w w1):=(aB.upon HA.out hq.k (Å).drew).trans b1;have k0:=b1.bf HA.out È aa.1;have k1:=b1.bf HA.out l1 aa.2.1;have k2:=b1.bf HA.out l2 aa.2.2;have K0:=hid k0;have K1:=hid k1;have K2:=hid k2;have hG:=HG.out _ w1 e rG.out sD.out qT aag.left;rw[<-hq.h]at hG;have HGG:=hid hG;have aai:=aag.right (G:=G);have Zb:=hid hq.eq;have HWG:=hid (hwG e qT);clear hG a1 HG HP HX HZ HO aa;go_wp2_with fail;refine hK.out _ _ ⟨k0,k1,k2⟩ (λ_=>?_);clear hK K k0 k1 k2 b1;refine wpAnyH_done Ã ?_ _;go_wp2_with (first
      |(refine cR (G:=G) rfl _ rfl rfl K0.out fH ?_)
      |(refine bR (G:=G) rfl _ rfl rfl K1.out fV ?_))
     refine HGG.mono ?_;unfold jh;generalize hue:G.aQ (π e).2=ue at*;rintro r w2⟨rfl,a2,b2⟩;have y0:=b2.bf HA.out È K0.out;have y1:=b2.bf HA.out l1 K1.out;have y2:=b2.bf HA.out l2 K2.out;have Y1:=hid y1;have zV:Hid (Below w.heap.size w2 _):=au (b:=w.heap.size+1) l1 ue.toList 0 w2 _ Å;have HQ:Hid (Qg C G T F b w xs s wa ue (j+1) (π e).2 (ej++[.aA p e]++(π e).1) (w2.setCells (w.heap.size+1) 0 ue.toList)):=by
      refine⟨?_,?_,aB.upon HA.out (rG.trans b2) zV.out,(al _ _ _ _ À).trans y0,ar y1 (by rw[e17,fV]),(al _ _ _ _ À).trans y2,HWG.out,?_,hue.symm⟩
      .rw[Zb.out,BR]
       simp only[po,Ô,List.cons_append,List.nil_append]
      .rw[aH,aH]
       exact HA.upon a2 zV.out
      .rw[aH,aH]
       exact aai
     clear y0 y1 y2 a2 b2 HGG aai Zb;go_wp2_with (first
      |(refine cy (G:=G) rfl _ _ rfl rfl rfl Y1.out fV e17 e1o ?_))
     exact⟨⟨j+1,(π e).2,_,ue,À,by go_num,HQ⟩,by simp[intOf];omega⟩
   .have δ:Hid (po xs s=(ej,sj)):=by
     have:=hq.eq;rw[ê À]at this;unfold Hid;rw[this];show(ej++[],sj)=(ej,sj);rw[List.append_nil]
    have je:Hid (_=_):=ar hq.z (d:=xj) (by rw[fV];rfl);have ia:Hid (Below w.heap.size wr _):=au (b:=w.heap.size+1+1) l2 xj.toList 0 wr _ Å;go_wp2_with (first
     |(refine bR (G:=G) rfl _ rfl rfl HX.out fV ?_)
     |(refine cy (G:=G) rfl _ _ rfl rfl rfl HZ.out rfl fV x1 ?_))
    refine Ç (aU rfl _ _ rfl je.out fV) rfl ?_;rw[δ.out];exact⟨by rw[hq.h],HA.upon hq.a ia.out,aB.upon HA.out hq.k ia.out⟩
end W
end
section
namespace W
variable {E: Bool}{G: aw E}
theorem Bg(C:Cx)(G:aw E)(T:fS)(F:Fd)(b:Bool)(w:Wd)(s:ST)(h:aP C G T F w) :
  Calls prog (G.ix 47 42) #[J (G.wk C b),Z M 0 0,J (G.aQ s)] w (jh C G T F b w [] s):=by
 cases E
 all_goals
  try dsimp only[aw.ix,aw.kd]at*
  obtain⟨k0,k1,k2,kb⟩:=bQ (w:=w) (o1:=L (G.wk C b) (G.ix 171 154)) (o2:=L (G.aQ s) (G.ix 174 157)) (o3:=L G.zS (G.ix 174 157)) Å;have fV:=G.aG s;have x1o:=G.aZ s;unfold jh;rw[eI];generalize G.wk C b=wa at*;generalize G.aQ s=xa at*;have HX:Hid (_=_):=k1;have HZ:=hid k2;have HB:=hid kb;have HA:=hid h;have je:Hid (_=_):=ar k2 (d:=xa) (by rw[fV];rfl);have ia:Hid (ω w _):=au (b:=w.heap.size+1+1) À xa.toList 0 w _ kb;clear k0 k1 k2 kb h;try dsimp only[aw.ix,aw.kd]
  first|go_enter func47,ntmps47|go_enter func42,ntmps42
  go_wp2_with fail;refine ü 1 ?_;rw[û];go_wp2_with (first
   |(refine bR (G:=G) rfl _ rfl rfl HX.out fV ?_)
   |(refine cy (G:=G) rfl _ _ rfl rfl rfl HZ.out rfl fV x1o ?_))
  refine Ç (aU rfl _ _ rfl je.out fV) rfl ⟨rfl,HA.call ia.out,aB.aF ia.out HA.le⟩
 /- sums -/
theorem xE{v:Value}{x:Sp.Sm}(hx:∀k,x≠.name k)(h1:∃t u,v=σ t u)(h2:∀w,(Instr.typeAssert v 274 272 true).run prog w=.ok (φ #[I O 0,U false]) w):lN v x:=by
 cases x with
 |name k=>exact absurd rfl (hx k)
 |num n=>exact⟨h1,h2⟩
 |neg x=>exact⟨h1,h2⟩
 |bin k x y=>exact⟨h1,h2⟩
theorem Ff(x:Value)(w:Wd):(Instr.typeAssert (σ 180 x) 274 272 true).run prog w=.ok (φ #[I O 0,U false]) w:=Ã
def AB(E:Bool):nZ Sp.Tr where
 S ct v x bj:=(∃t u,v=σ t u)/\oW (⟨[]⟩:aw E) v x ct/\lN v x/\yd x/\Sp.cS x ct=bj
 iface _ _ _ _ h:=h.1
 num ct n hn:=⟨⟨_,_,rfl⟩,Va n ct hn,xE (λk h=>by cases h) ⟨_,_,rfl⟩ (Ff _),λm hm=>by have:=Ö.1 hm;subst this;exact⟨À,À⟩,rfl⟩
 name ct k hk:=⟨⟨_,_,rfl⟩,Rv k hk ct,⟨rfl,hk⟩,(λm hm=>by cases hm),rfl⟩
 neg ct v x bj h:=by obtain⟨⟨t,u,rfl⟩,hs,_,ok,he⟩:=h;exact⟨⟨_,_,rfl⟩,Vx t u x ct ok hs,xE (λk h=>by cases h) ⟨_,_,rfl⟩ (vL _),ok,he⟩
 bin ct k v x ct1 u y ct2 hk h h':=by obtain⟨⟨tl,ul,rfl⟩,hs,_,ok,rfl⟩:=h;obtain⟨⟨tr,ur,rfl⟩,dq,_,WW,rfl⟩:=h';have e:(if 3<=k then Sp.aL (Sp.cS x ct) else Sp.cS x ct)=Sp.cS x ct:=Â À;refine⟨⟨_,_,rfl⟩,Nt k À 0 tl ul tr ur x y ct (λh=>À) ok WW hs (by rw[e];exact dq),xE (λk h=>by cases h) ⟨_,_,rfl⟩ (pW _),bX ok WW,?_⟩;show Sp.cS y (if 3<=k then Sp.aL (Sp.cS x ct) else Sp.cS x ct)=_;rw[e]
 binSite ct k v x ct1 u y ct2 h3 hk h h':=by obtain⟨⟨tl,ul,rfl⟩,hs,_,ok,rfl⟩:=h;obtain⟨⟨tr,ur,rfl⟩,dq,_,WW,rfl⟩:=h';have e:(if 3<=k then Sp.aL (Sp.cS x ct) else Sp.cS x ct)=Sp.aL (Sp.cS x ct):=Á h3;refine⟨⟨_,_,rfl⟩,Nt k hk _ tl ul tr ur x y ct (λ_=>rfl) ok WW hs (by rw[e];exact dq),xE (λk h=>by cases h) ⟨_,_,rfl⟩ (pW _),bX ok WW,?_⟩;show Sp.cS y (if 3<=k then Sp.aL (Sp.cS x ct) else Sp.cS x ct)=_;rw[e];rfl
abbrev GF(E:Bool):=aw E->z7->(Fin 8->Sp.Iv)->List cE×ST
structure ă(E:Bool)(ct:Int×Int)(lo hi:Nat)(w:Wd)(v:Value)(f:Sp.Bl->Sp.Bl)(bj:Int×Int)(π:GF E):Prop where
 cb:∀rest,Sp.cB (f rest) ct=Sp.cB rest bj
 ok:∀rest,vJ rest->vJ (f rest)
 eq:∀(G:aw E) P rest s,Sp.cJ (Dm G) P (f rest) ct s=gJ (Dm G) (QV (Dm G) ct.1 (π G P) s) (Sp.cJ (Dm G) P rest bj)
 wf:∀(G:aw E) P e,(∀k,G.Wv (e k))->Sp.Wf (Kr G) (π G P e).2
 lp:∀(G:aw E) P T rest,cW (Dm G) P T (f rest) ct->cW (Dm G) P T (f .nil) ct/\cW (Dm G) P T rest bj
 calls:∀(C:Cx) (G:aw E) (T:fS) (F:Fd) (b:Bool) (W:Wd) (e:Fin 8->Sp.Iv),eS lo hi w W->hi<=C.base->C.narrow<=1000->C.aj<=1000->cW (Dm G) C.iL T (f .nil) ct->aP C G T F W->(∀k,G.Wv (e k))->dk b F (π G C.iL e).1 ->
  Calls prog (G.ix 81 78) #[J (G.wk C b),v,J (G.aQ (Y e))] W (jh C G T F b W (π G C.iL e).1 (π G C.iL e).2)
def LL(E:Bool)(ct:Int×Int)(lo hi:Nat)(w:Wd)(v:Value)(f:Sp.Bl->Sp.Bl)(bj:Int×Int):Prop:=
 (∃t u,v=σ t u/\J7 t u ct.1)/\∃π,ă E ct lo hi w v f bj π
theorem aB.same{C:Cx}{lo hi:Nat}{w w1 w2:Wd}(h:eS lo hi w w1)(k:aB C w1 w2)(hh:hi<=C.base):eS lo hi w w2:=
 λi h1 h2 hn=>by rw[k.below.block i À];exact h i h1 h2 hn
def mD:List (Sp.Bl->Sp.Bl)->(Nat->Int×Int)->(Nat->(Fin 8->Sp.Iv)->List cE×ST)->List yP
 |[],_,_=>[]
 |_::fs,f,g=>((f 0).1,g 0)::mD fs (λi=>f (i+1)) (λi=>g (i+1))
theorem yp:∀(fs:List (Sp.Bl->Sp.Bl)) (f:Nat->Int×Int) (g:Nat->(Fin 8->Sp.Iv)->List cE×ST),(mD fs f g).length=fs.length
 |[],_,_=>rfl
 |_::fs,f,g=>by show(mD fs _ _).length+1=_;rw[yp fs];rfl
theorem yF:∀(fs:List (Sp.Bl->Sp.Bl)) (f:Nat->Int×Int) (g:Nat->(Fin 8->Sp.Iv)->List cE×ST) (i:Nat) (x:yP),(mD fs f g)[i]?=Y x->x=((f i).1,g i)
 |[],_,_,i,x,h=>by simp[mD]at h
 |_::fs,f,g,0,x,h=>by simpa[mD] using h.symm
 |_::fs,f,g,i+1,x,h=>by
  have h':(mD fs (λi=>f (i+1)) (λi=>g (i+1)))[i]?=Y x:=by simpa[mD] using h
  exact yF fs _ _ i x h'
theorem NI(G:aw E)(p:Int)(g:(Fin 8->Sp.Iv)->List cE×ST)(s:ST)(A:ST->List cE×ST)(xs:List yP)(h:∀s,A s=po xs s):gJ (Dm G) (QV (Dm G) p g s) A=po ((p,g)::xs) s:=by
 cases s with
 |none=>exact(Ë (λr:List cE×ST=>(([]:List cE)++r.1,r.2)) ((h M).trans (AZ xs)))
 |some e=>exact(Ë (λr:List cE×ST=>((fG.aA p e::(g e).1)++r.1,r.2)) (h (g e).2))
theorem By(G:aw E)(P:z7)(T:fS)(lo hi:Nat)(w:Wd):∀(fs:List (Sp.Bl->Sp.Bl)) (vs:Nat->Value) (f:Nat->Int × Int) (Gi:Nat->GF E),(∀i g,fs[i]?=Y g->ă E (f i) lo hi w (vs i) g (f (i+1)) (Gi i)) ->
  Sp.cB (aO fs) (f 0)=f fs.length/\vJ (aO fs)/\(∀s,Sp.cJ (Dm G) P (aO fs) (f 0) s=po (mD fs f (λi=>Gi i G P)) s)/\(cW (Dm G) P T (aO fs) (f 0)->∀i g,fs[i]?=Y g->cW (Dm G) P T (g .nil) (f i))
 |[],vs,f,Gi,_=>⟨rfl,(λn hn=>by cases hn),(λs=>rfl),λ_ i g h=>by simp at h⟩
 |x::fs,vs,f,Gi,h=>by
  have hx:=h 0 x Ä;obtain⟨h1,h2,h3,h4⟩:=By G P T lo hi w fs (λi=>vs (i+1)) (λi=>f (i+1)) (λi=>Gi (i+1)) (λi g hg=>h (i+1) g (by simpa using hg));refine⟨?_,hx.ok _ h2,λs=>?_,λhl i g hg=>?_⟩
  .show Sp.cB (x (aO fs)) (f 0)=_
   rw[hx.cb];exact h1
  .exact(hx.eq G P (aO fs) s).trans (NI G _ _ s _ _ h3)
  .obtain⟨l1,l2⟩:=hx.lp G P T _ hl
   cases i with
   |zero=>
    have:x=g:=by simpa using hg
    subst this;exact l1
   |succ i=>exact h4 l2 i g (by simpa using hg)
structure ą(E:Bool)(ct:Int×Int)(lo hi:Nat)(w:Wd)(v:Value)(t:Sp.Bl)(bj:Int×Int):Prop where
 cb:Sp.cB t ct=bj
 ok:vJ t
 calls:∀(C:Cx) (G:aw E) (T:fS) (b:Bool) (W:Wd),eS lo hi w W->hi<=C.base->C.narrow<=1000->C.aj<=1000->cW (Dm G) C.iL T t ct->IQ C G T b W v (Sp.cJ (Dm G) C.iL t ct)
theorem uK{ct bj:Int×Int}{lo hi:Nat}{w:Wd}{v:Value}{fs:List (Sp.Bl->Sp.Bl)}(h:oq (LL E) ct lo hi w v fs bj):ą E ct lo hi w v (aO fs) bj:=by
 obtain⟨vs,f,ho,hg,he,rfl,rfl⟩:=h;have Yj:vs.length=fs.length:=by have:=ho.1;rw[Nat.mul_one]at this;exact this
 have ZW:∀i g,fs[i]?=Y g->∃u,vs[i]?=Y u/\LL E (f i) lo hi w u g (f (i+1)):=λi g hx=>by
  have hi:i<vs.length:=by rw[Yj];exact(Í.1 hx).1
  exact⟨_,Î hi,he i _ g (Î hi) hx⟩
 have xv:∀i,∃π:GF E,∀g,fs[i]?=Y g->ă E (f i) lo hi w (vs.getD i .nilIface) g (f (i+1)) π:=λi=>by
  cases hf:fs[i]? with
  |none=>exact⟨λ_ _ _=>([],M),λg hg=>by cases hg⟩
  |some g=>
   obtain⟨u,hu,_,π,hG⟩:=ZW i g hf;refine⟨π,λg' rf=>?_⟩;cases rf
   rw[Ă,hu];exact hG
 obtain⟨Gi,hGi⟩:=Classical.axiomOfChoice xv;have ξ:=λG P T=>By G P T lo hi w fs (λi=>vs.getD i .nilIface) f Gi hGi
 refine⟨(ξ ⟨[]⟩ ⟨0,0,0⟩ (λ_ s=>([],s))).1,(ξ ⟨[]⟩ ⟨0,0,0⟩ (λ_ s=>([],s))).2.1,?_⟩;intro C G T b W Gc F1 zI zJ QJ F W' s hk ha hs hr;obtain⟨_,_,j3,j4⟩:=ξ G C.iL T;have aad:=hk.same Gc F1;rw[j3]at hr⊢
 rcases ho.2 with⟨rfl,hz⟩|⟨g,cap,cur,rfl,hlg,hh,hnc,hcm,Yo,QC⟩
 .obtain rfl:fs=[]:=List.eq_nil_of_length_eq_zero hz
  exact Bg C G T F b W' s ha
 .have xQ:=hg g rfl
  have Zu:=yp fs f (λi=>Gi i G C.iL);have:=Fj C G T F b W' g cap (mD fs f (λi=>Gi i G C.iL)) vs (by rw[Zu];exact Yj) À (by rw[Zu];unfold maxLen at hcm;omega) s hs ha hr
   (λi u hu=>by
     have h1:W'.heap[g]?=Y (L cur 233):=by rw[aad g hlg xQ (by rw[hh];exact fK É)];exact hh
     refine cell_of h1 i ?_;have h2:i<vs.length:=(Í.1 hu).1;have h3:cur.toList[i]?=vs[i]?:=by rw[<-QC,List.getElem?_take,Á À]
     rw[<-Ý,h3];exact hu)
   (λi u p π hu hx=>by
     have hp:=yF fs f _ i _ hx;injection hp with tV tY
     have hi:i<fs.length:=by rw[<-Yj];exact(Í.1 hu).1
     obtain⟨u',Dl,⟨t,y,e1,e2⟩,_⟩:=ZW i _ (Î hi);rw[hu]at Dl;cases Dl
     have im:=hGi i _ (Î hi);rw[Ă,hu]at im;refine⟨t,y,e1,by rw[tV];exact e2,λe he=>by rw[tY];exact im.wf G C.iL e he,λF' W2 e kM QA qT pD=>?_⟩;subst tY;exact im.calls C G T F' b W2 e (kM.same aad F1) F1 zI zJ (j4 QJ i _ (Î hi)) QA qT pD)
  rw[Zu]at this;exact this
end W
end
section
namespace W
variable {E: Bool}{G: aw E}
section
variable{C:Cx}
variable{T:fS}
variable{F F0:Fd}
variable{w W W':Wd}
variable{wa ic xa oa:Array Value}
structure ik(C:Cx)(G:aw E)(T:fS)(F:Fd)(w:Wd)(wa ic xa oa:Array Value)(W:Wd):Prop where
 a:aP C G T F W
 k:aB C w W
 o:W.heap[w.heap.size]?=Y (L wa (G.ix 171 154))
 c:W.heap[w.heap.size+1]?=Y (L ic 290)
 s:W.heap[w.heap.size+1+1]?=Y (L xa (G.ix 174 157))
 z:W.heap[w.heap.size+1+1+1]?=Y (L G.zS (G.ix 174 157))
 u:W.heap[w.heap.size+1+1+1+1]?=Y (L oa (G.ix 174 157))
theorem ik.call{G:aw E}(h:ik C G T F w wa ic xa oa W)(k:ω W W'):ik C G T F w wa ic xa oa W':=
 ⟨h.a.call k,h.k.trans (aB.aF k h.a.le),(k.block _ (ah h.o)).trans h.o,(k.block _ (ah h.c)).trans h.c,(k.block _ (ah h.s)).trans h.s,(k.block _ (ah h.z)).trans h.z,(k.block _ (ah h.u)).trans h.u⟩
theorem ik.bH{G:aw E}{F':Fd}(h:ik C G T F w wa ic xa oa W)(h0:aP C G T F0 w)(ha:aP C G T F' W')(k:aB C W W'):ik C G T F' w wa ic xa oa W':=
 ⟨ha,h.k.trans k,k.bf h0 È h.o,k.bf h0 À h.c,k.bf h0 À h.s,k.bf h0 À h.z,k.bf h0 À h.u⟩
theorem ik.YI{G:aw E}(h:ik C G T F w wa ic xa oa W)(h0:aP C G T F0 w)(d:Array Value)(h1:xa.size=17)(h2:d.size=17):ik C G T F w wa ic d oa (W.setCells (w.heap.size+1+1) 0 d.toList):=by have hb:Below w.heap.size W (W.setCells (w.heap.size+1+1) 0 d.toList):=au (b:=w.heap.size+1+1) À d.toList 0 W _ Å;exact⟨h0.upon h.a hb,aB.upon h0 h.k hb,(al _ _ _ _ À).trans h.o,(al _ _ _ _ À).trans h.c,ar h.s (by rw[h1,h2]),(al _ _ _ _ À).trans h.z,(al _ _ _ _ À).trans h.u⟩
theorem ik.aaM{G:aw E}(h:ik C G T F w wa ic xa oa W)(h0:aP C G T F0 w)(d:Array Value)(h1:oa.size=17)(h2:d.size=17):ik C G T F w wa ic xa d (W.setCells (w.heap.size+1+1+1+1) 0 d.toList):=by have hb:Below w.heap.size W (W.setCells (w.heap.size+1+1+1+1) 0 d.toList):=au (b:=w.heap.size+1+1+1+1) À d.toList 0 W _ Å;exact⟨h0.upon h.a hb,aB.upon h0 h.k hb,(al _ _ _ _ À).trans h.o,(al _ _ _ _ À).trans h.c,(al _ _ _ _ À).trans h.s,(al _ _ _ _ À).trans h.z,ar h.u (by rw[h1,h2])⟩
abbrev vT(G:aw E)(p:Int)(s:ST):List cE:=qW (Dm G) p s
theorem VL(o1 o2 o3 o4 o5:Obj) :
  (((((w.alloc o1).alloc o2).alloc o3).alloc o4).alloc o5).heap[w.heap.size]?=Y o1/\(((((w.alloc o1).alloc o2).alloc o3).alloc o4).alloc o5).heap[w.heap.size+1]?=Y o2/\(((((w.alloc o1).alloc o2).alloc o3).alloc o4).alloc o5).heap[w.heap.size+1+1]?=Y o3/\(((((w.alloc o1).alloc o2).alloc o3).alloc o4).alloc o5).heap[w.heap.size+1+1+1]?=Y o4/\(((((w.alloc o1).alloc o2).alloc o3).alloc o4).alloc o5).heap[w.heap.size+1+1+1+1]?=Y o5/\ω w (((((w.alloc o1).alloc o2).alloc o3).alloc o4).alloc o5):=Jq w o1 o2 o3 o4 o5
theorem Ch(p:Int)(k:Nat)(tl:TypeId)(ul:Value)(tr:TypeId)(ur:Value)(av:Option Addr)(nv cv:Nat)(CN:ST->List cE × ST × ST)(body:ST->List cE × ST)(AL:ST->ST)(C:Cx)(G:aw E)(T:fS)(F:Fd)(b:Bool)(w:Wd)(s:ST)(ο:List cE × ST × ST)(h:aP C G T F w)(hs:Sp.Wf (Kr G) s)
  (hU:kG (Dm G) CN body p C.aj M s=ο)
  (Qu:∀F' W s',aP C G T F' W->Sp.Wf (Kr G) s'->dk b F' (CN s').1->Calls prog (G.ix 167 163) #[J (G.wk C b),J #[I O (k:Nat),σ tl ul,σ tr ur],J (G.aQ s')] W (gE C G T F' b W (CN s').1 (CN s').2.1 (CN s').2.2))
  (zM:gB (Kr G) CN) (vm:fJ (Kr G) body) (iD:IQ C G T b w (Z av nv cv) body)
  (xv:∀F' W s',aB C w W->aP C G T F' W->Sp.Wf (Kr G) s'->Calls prog (G.ix 203 197) #[J (G.wk C b),J (Cb p k tl ul tr ur av nv cv),J (G.aQ s')] W λe w'=>e=υ (J (G.aQ (AL s')))/\aP C G T F' w'/\aB C W w')
  (haw:∀s',Sp.Wf (Kr G) s'->Sp.Wf (Kr G) (AL s')) (zJ:C.aj<=1000) (hp:b=true->0<=p/\p.toNat<F.1.length)
  (hr:dk b F (ο.1++vT G p (AL ο.2.2)++(CN (AL ο.2.2)).1++(body (CN (AL ο.2.2)).2.1).1)):
  Calls prog (G.ix 169 165) #[J (G.wk C b),J (Cb p k tl ul tr ur av nv cv),J (G.aQ s)] w (jh C G T F b w (ο.1++vT G p (AL ο.2.2)++(CN (AL ο.2.2)).1++(body (CN (AL ο.2.2)).2.1).1) (Sp.jn (Dm G) ο.2.1 (CN (AL ο.2.2)).2.2)):=by
 cases E
 all_goals
  try dsimp only[aw.ix,aw.kd]at*
  have fH:=G.du C b;have wL:=G.Ed C b;have hw4:(G.wk C b)[4]?=Y (I O (C.aj:Nat)):=rfl;obtain⟨wa,uf⟩:∃wa,wa=G.wk C b:=⟨_,rfl⟩;obtain⟨ic,hic⟩:∃ic,ic=Cb p k tl ul tr ur av nv cv:=⟨_,rfl⟩;have U0:Hid (nk (Kr G) CN body p ο C.aj [] M s):=by rw[<-hU];exact nk.start CN body p C.aj hs
  have UON:Hid (∀(m:Nat) (ej:List cE) (oj sj:ST),nk (Kr G) CN body p ο (m+1) ej oj sj->nk (Kr G) CN body p ο m (ej++vT G p sj++(CN sj).1++(body (CN sj).2.1).1) (Sp.jn (Dm G) oj (CN sj).2.2) (body (CN sj).2.1).2):=λm ej oj sj h=>nk.on zM vm h
  have Ue:Hid (∀(W:Wd) (e':List cE) (sj:ST) xa oa,ik C G T (told G b F e') w wa ic xa oa W->xa=G.aQ sj->Sp.Wf (Kr G) sj->Calls prog (G.ix 49 44) #[J wa,I O p,J xa] W λr w'=>r=υ (φ #[])/\ik C G T (told G b F (e'++vT G p sj)) w wa ic xa oa w'):=λW e' sj xa oa hW e1 hw=>by have:=nX C G T (told G b F e') b W hW.a p sj hw (λhb=>by rw[(jR G b F e').1];exact hp hb);rw[<-e1,<-uf]at this;exact this.mono λr w' q=>⟨q.1,hW.bH h (by rw[aH];exact q.2.1) q.2.2⟩
  have Uy:Hid (∀(W:Wd) (e':List cE) (sj:ST) xa oa q1 q2,ik C G T (told G b F e') w wa ic xa oa W->xa=G.aQ sj->Sp.Wf (Kr G) sj->dk b F (e'++(CN sj).1)->q1=G.aQ (CN sj).2.1->q2=G.aQ (CN sj).2.2->Calls prog (G.ix 167 163) #[J wa,J #[I O (k:Nat),σ tl ul,σ tr ur],J xa] W λr w'=>r=υ (φ #[J q1,J q2])/\ik C G T (told G b F (e'++(CN sj).1)) w wa ic xa oa w'):=λW e' sj xa oa q1 q2 hW e1 hw hr e2 e3=>by have:=Qu (told G b F e') W sj hW.a hw hr.right;unfold gE at this;rw[<-e1,<-e2,<-e3,<-uf]at this;exact this.mono λr w' q=>⟨q.1,hW.bH h (by rw[aH];exact q.2.1) q.2.2⟩
  have Qz:Hid (∀W F' u v ua va ja xa oa,ik C G T F' w wa ic xa oa W->ua=G.aQ u->va=G.aQ v->Sp.Wf (Kr G) u->Sp.Wf (Kr G) v->ja=G.aQ (Sp.jn (Dm G) u v)->Calls prog (G.ix 82 79) #[J wa,J ua,J va] W λr w'=>r=υ (J ja)/\ω W w'):=λW F' u v ua va ja xa oa hW e1 e2 w1 w2 e3=>by have:=qn C.dv C.ch C.ao C.narrow C.aj C.th C.m (if b then Y ⟨C.fb,0,M⟩ else M) u v _ W hW.a.does rfl w1 w2;have h2:Calls prog (G.ix 82 79) #[J (G.wk C b),J (G.aQ u),J (G.aQ v)] W _:=this;rw[<-e1,<-e2,<-e3,<-uf]at h2;exact h2
  have aab:Hid (∀(W:Wd) (e':List cE) (s1:ST) xa oa qa va,ik C G T (told G b F e') w wa ic xa oa W->qa=G.aQ s1->Sp.Wf (Kr G) s1->dk b F (e'++(body s1).1)->va=G.aQ (body s1).2->Calls prog (G.ix 47 42) #[J wa,Z av nv cv,J qa] W λr w'=>r=υ (J va)/\ik C G T (told G b F (e'++(body s1).1)) w wa ic xa oa w'/\aB C W w'):=λW e' s1 xa oa qa va hW e1 hw hr e2=>by have:=iD (told G b F e') W s1 hW.k hW.a hw hr.right;unfold jh at this;rw[<-e1,<-e2,<-uf]at this;exact this.mono λr w' q=>⟨q.1,hW.bH h (by rw[aH];exact q.2.1) q.2.2,q.2.2⟩
  have aa6:Hid (∀(W:Wd) (e':List cE) (sj:ST) xa oa va,ik C G T (told G b F e') w wa ic xa oa W->xa=G.aQ sj->Sp.Wf (Kr G) sj->va=G.aQ (AL sj)->Calls prog (G.ix 203 197) #[J wa,J (Cb p k tl ul tr ur av nv cv),J xa] W λr w'=>r=υ (J va)/\ik C G T (told G b F e') w wa ic xa oa w'):=λW e' sj xa oa va hW e1 hw e2=>by have:=xv (told G b F e') W sj hW.k hW.a hw;rw[<-e1,<-e2,<-uf]at this;exact this.mono λr w' q=>⟨q.1,hW.bH h q.2.1 q.2.2⟩
  obtain⟨xa,oQ⟩:∃xa,xa=G.aQ s:=⟨_,rfl⟩;obtain⟨ES,WM⟩:∃ES,ES=ο.1++vT G p (AL ο.2.2)++(CN (AL ο.2.2)).1++(body (CN (AL ο.2.2)).2.1).1:=⟨_,rfl⟩;obtain⟨RS,Xz⟩:∃RS,RS=Sp.jn (Dm G) ο.2.1 (CN (AL ο.2.2)).2.2:=⟨_,rfl⟩;have HES:=hid WM;have AE:=hid Xz;rw[<-uf,<-oQ,<-WM,<-Xz];rw[<-uf]at fH wL hw4;obtain⟨k0,k1,k2,k3,k4,kb⟩:=VL (w:=w) (L wa (G.ix 171 154)) (L ic 290) (L xa (G.ix 174 157)) (L G.zS (G.ix 174 157)) (L G.zS (G.ix 174 157));rw[hic]at k0 k1 k2 k3 k4 kb;have H0:Hid (ik C G T (told G b F []) w wa ic xa (G.aQ M) (((((w.alloc (L wa (G.ix 171 154))).alloc (L (Cb p k tl ul tr ur av nv cv) 290)).alloc (L xa (G.ix 174 157))).alloc (L G.zS (G.ix 174 157))).alloc (L G.zS (G.ix 174 157)))):=by rw[eI,hic];exact⟨h.call kb,aB.aF kb h.le,k0,k1,k2,k3,k4⟩
  have HA:=hid h;have Q9:=hid oQ;have HR:=hid hr;have HCW:=hid zM;have HBW:=hid vm;have HAW:=hid haw;have UD:=hid hic;have c4:=cell_of H0.o 4 hw4;have Qq:ic[0]?=Y (I O p):=by rw[hic];rfl
  have F8:ic[1]?=Y (I O (k:Nat)):=by rw[hic];rfl
  have px:ic[2]?=Y (σ tl ul):=by rw[hic];rfl
  have zH:ic[3]?=Y (σ tr ur):=by rw[hic];rfl
  have wO:ic[4]?=Y (Z av nv cv):=by rw[hic];rfl
  clear WM Xz h hs Qu zM vm iD xv haw hp hr uf hic oQ k0 k1 k2 k3 k4 kb hU;try dsimp only[aw.ix,aw.kd]
  first|go_enter func169,ntmps169|go_enter func165,ntmps165
  go_wp2_with fail;generalize ((((w.alloc (L wa (G.ix 171 154))).alloc (L (Cb p k tl ul tr ur av nv cv) 290)).alloc (L xa (G.ix 174 157))).alloc (L G.zS (G.ix 174 157))).alloc (L G.zS (G.ix 174 157))=W0 at*;clear c4
  go_loopw [15] (λv15 wr=>∃(j m:Nat) (ej:List cE) (oj sj:ST) (xj ua:Array Value),m+j=C.aj/\v15=I O j/\Hid (ik C G T (told G b F ej) w wa ic xj ua wr)/\Hid (nk (Kr G) CN body p ο m ej oj sj)/\Hid (xj=G.aQ sj)/\Hid (ua=G.aQ oj)) (λv15 _=>C.aj-(intOf v15).toNat)
  case atStart=>exact⟨0,C.aj,[],M,s,xa,G.aQ M,rfl,rfl,H0,U0,Q9,rfl⟩
  case round=>
   obtain⟨j,m,ej,oj,sj,xj,ua,Tv,rfl,hq,Th,hx,hu⟩:=hrel;clear H0 U0 Q9;have fV:xj.size=17:=by rw[hx.out];exact G.aG sj
   have rI:ua.size=17:=by rw[hu.out];exact G.aG oj
   have ws:=Th.ws;have wo:=Th.wo;cases m with
   |zero=>
    obtain rfl:j=C.aj:=À;have hE:=Th.end;obtain⟨va,hva⟩:∃q,q=G.aQ (AL sj):=⟨_,rfl⟩;obtain⟨q1,zU⟩:∃q,q=G.aQ (CN (AL sj)).2.1:=⟨_,rfl⟩;obtain⟨q2,vh⟩:∃q,q=G.aQ (CN (AL sj)).2.2:=⟨_,rfl⟩;obtain⟨ra,hra⟩:∃q,q=G.aQ RS:=⟨_,rfl⟩;obtain⟨ba,hba⟩:∃q,q=G.aQ (body (CN (AL sj)).2.1).2:=⟨_,rfl⟩;have oO:va.size=17:=by rw[hva];exact G.aG _
    have v1o:va.all (·.oneCell')=true:=by rw[hva];exact G.aZ _
    have ug:q1.size=17:=by rw[zU];exact G.aG _
    have MN:q1.all (·.oneCell')=true:=by rw[zU];exact G.aZ _
    have zL:q2.size=17:=by rw[vh];exact G.aG _
    have Nn:q2.all (·.oneCell')=true:=by rw[vh];exact G.aZ _
    have Ki:ra.size=17:=by rw[hra];exact G.aG _
    have ZC:ra.all (·.oneCell')=true:=by rw[hra];exact G.aZ _
    have Tb:=hid hva;have Y5:=hid zU;have XJ:=hid vh;have Kk:=hid hra;have HBA:=hid hba;have wv:=HAW.out sj ws;have wc:=HCW.out (AL sj) wv;have AI:=HR.out;have WM:=HES.out;have Xz:=AE.out;rw[hE]at AI WM Xz;have HRB:=hid AI;have HRC:=hid AI.left;have aaQ:=hid WM;have HRJ:Hid (ra=G.aQ (Sp.jn (Dm G) oj (CN (AL sj)).2.2)):=by rw[hra,Xz];rfl
    have HO:=hid hq.o;have HS:=hid hq.s;have d0:=cell_of hq.c 0 Qq;have d1:=cell_of hq.c 1 F8;have d2:=cell_of hq.c 2 px;have d3:=cell_of hq.c 3 zH;have d4:=cell_of hq.c 4 wO;clear hva zU vh hra hba AI WM Xz hE HR HES AE UON;go_wp2_with (first
     |(refine cR (G:=G) rfl _ rfl rfl (c:=wa) HO.out fH ?_)
     |(refine bR (G:=G) rfl _ rfl rfl (c:=xj) HS.out fV ?_))
    refine(aa6.out wr ej sj xj ua va hq.out hx.out ws Tb.out).mono ?_;rintro r w1⟨rfl,h1⟩;have DJ:=hid h1.s;have Kp:Hid (ik C G T _ w wa ic va ua _):=h1.YI HA.out va fV oO;clear h1 d0 d1 d2 d3 d4 HO HS;go_wp2_with (first
     |(refine cy (G:=G) rfl _ _ rfl rfl (c:=xj) (d:=va) rfl (by exact DJ.out) fV oO v1o ?_))
    generalize w1.setCells (w.heap.size+1+1) 0 va.toList=w2 at*;have H2:Hid (ik C G T (told G b F ej) w wa ic va ua w2.drew):=Kp.call (Å).drew;refine wp_region_held_drew (S:=λw':Wd=>∃e',ik C G T (told G b F e') w wa ic va ua w') Ã ⟨_,H2.out⟩ (λaa=>?_);refine nu 0 rfl (G.se rfl _ rfl _ _ rfl (wa) (λw' h=>(h.elim λ_ h=>aT h.o)) fH) aa ?_;refine nu 4 rfl (G.nw rfl _ rfl _ _ rfl (va) (λw' h=>(h.elim λ_ h=>aT h.s)) oO) aa ?_;refine tq 1 (ρ (Y ⟨w.heap.size+1,0,M⟩)) aa ?_;refine tk 2 (I O p) rfl (λw' h=>by obtain⟨_,h⟩:=h;have d0:=cell_of h.c 0 Qq;go_simp) aa ?_;refine bP 3 λK hK=>?_
    simp only[bG,gd];go_simp;refine(fX p _).mono ?_;rintro r w0⟨rfl,rfl⟩;go_wp2_with fail;refine hK.out _ _ aa (λaa=>?_);clear hK K;refine bP 5 λK hK=>?_
    simp only[bG];go_simp;refine(Ue.out _ ej (AL sj) va ua H2.out Tb.out wv).mono ?_;rintro r w3⟨rfl,h3⟩;go_wp2_with fail;refine hK.out _ _ ⟨_,h3⟩ (λ_=>?_);clear hK K aa;refine wpAnyH_done Ã ?_ _;have Uj:=hid h3;have HO3:=hid h3.o;have Nl:=hid h3.s;have c1:=cell_of h3.c 1 F8;have c2:=cell_of h3.c 2 px;have c3:=cell_of h3.c 3 zH;clear h3 H2 Kp DJ;go_wp2_with (first
     |(refine cR (G:=G) rfl _ rfl rfl (c:=wa) HO3.out fH ?_)
     |(refine bR (G:=G) rfl _ rfl rfl (c:=va) Nl.out oO ?_))
    refine(Uy.out _ _ (AL sj) va ua q1 q2 Uj.out Tb.out wv HRC.out Y5.out XJ.out).mono ?_;rintro r w4⟨rfl,h4⟩;obtain⟨t1,t2,t3,t4,tb⟩:=s9 (G:=G) w4 q1 q2 ug zL;have I4:=hid t1;have DF:=hid t2;have hp8:w.heap.size+1+1+1+1<w4.heap.size:=ah h4.u;have Gj:Hid (ik C G T _ w wa ic va ua _):=h4.call tb;have T3:=hid t3;have T4:=hid t4;have Yl:=hid Gj.o;have HU5:=hid Gj.u;have c4:=cell_of Gj.c 4 wO;have c7:=cell_of Gj.o 7 wL;clear t1 t2 t3 t4 tb h4 c1 c2 c3 HO3 Nl Uj;cases b with
    |true=>
     simp only[if_true]at c7;go_wp2_with (first
      |(refine cy (G:=G) rfl _ _ rfl rfl (c:=G.zS) (d:=q1) rfl (by exact I4.out) rfl ug MN ?_)
      |(refine cy (G:=G) rfl _ _ rfl rfl (c:=G.zS) (d:=q2) rfl (by exact DF.out) rfl zL Nn ?_)
      |(refine cR (G:=G) rfl _ rfl rfl (c:=wa) (by exact Yl.out) fH ?_)
      |(refine bR (G:=G) rfl _ rfl rfl (c:=q1) (by exact T3.out) ug ?_))
     generalize ((((w4.alloc (L G.zS (G.ix 174 157))).alloc (L G.zS (G.ix 174 157))).setCells w4.heap.size 0 q1.toList).setCells (w4.heap.size+1) 0 q2.toList)=w5 at*;refine(aab.out w5 _ (CN (AL sj)).2.1 va ua q1 ba Gj.out Y5.out wc.1 HRB.out HBA.out).mono ?_;rintro r w6⟨rfl,h6,b6⟩;have t6:=b6.bf HA.out À T4.out;have T6:=hid t6;have HI6:=hid h6;have HO6:=hid h6.o;have HU6:=hid h6.u;clear h6 b6 t6 c4 c7 T3 T4 Yl HU5 Gj I4 DF;go_wp2_with (first
      |(refine cR (G:=G) rfl _ rfl rfl (c:=wa) (by exact HO6.out) fH ?_)
      |(refine bR (G:=G) rfl _ rfl rfl (c:=ua) (by exact HU6.out) rI ?_)
      |(refine bR (G:=G) rfl _ rfl rfl (c:=q2) (by exact T6.out) zL ?_))
     refine(Qz.out w6 _ oj (CN (AL sj)).2.2 ua q2 ra va ua HI6.out hu.out XJ.out wo wc.2 HRJ.out).mono ?_;rintro r w7⟨rfl,b7⟩;have h7:=HI6.call b7;have HZ7:=hid h7.z;have HI7:=hid h7;have je:Hid (_=_):=ar h7.z (d:=ra) (by rw[Ki];rfl);have ia:Hid (Below w.heap.size w7 _):=au (b:=w.heap.size+1+1+1) À ra.toList 0 w7 _ Å;clear h7 b7;go_wp2_with (first
      |(refine cy (G:=G) rfl _ _ rfl rfl rfl HZ7.out rfl Ki ZC ?_))
     refine Ç (aU rfl _ _ rfl je.out Ki) rfl ⟨by rw[Kk.out],?_,aB.upon HA.out HI7.k ia.out⟩;rw[aaQ.out];exact HA.upon HI7.a ia.out
    |false=>
     simp only[Bool.false_eq_true,if_false]at c7;go_wp2_with (first
      |(refine cy (G:=G) rfl _ _ rfl rfl (c:=G.zS) (d:=q1) rfl (by exact I4.out) rfl ug MN ?_)
      |(refine cy (G:=G) rfl _ _ rfl rfl (c:=G.zS) (d:=q2) rfl (by exact DF.out) rfl zL Nn ?_)
      |(refine cR (G:=G) rfl _ rfl rfl (c:=wa) (by exact Yl.out) fH ?_)
      |(refine bR (G:=G) rfl _ rfl rfl (c:=ua) (by exact HU5.out) rI ?_)
      |(refine bR (G:=G) rfl _ rfl rfl (c:=q2) (by exact T4.out) zL ?_))
     generalize ((((w4.alloc (L G.zS (G.ix 174 157))).alloc (L G.zS (G.ix 174 157))).setCells w4.heap.size 0 q1.toList).setCells (w4.heap.size+1) 0 q2.toList)=w6 at*;refine(Qz.out w6 _ oj (CN (AL sj)).2.2 ua q2 ra va ua Gj.out hu.out XJ.out wo wc.2 HRJ.out).mono ?_;rintro r w7⟨rfl,b7⟩;have h7:=Gj.call b7;have HZ7:=hid h7.z;have HI7:=hid h7;have je:Hid (_=_):=ar h7.z (d:=ra) (by rw[Ki];rfl);have ia:Hid (Below w.heap.size w7 _):=au (b:=w.heap.size+1+1+1) À ra.toList 0 w7 _ Å;clear h7 b7;go_wp2_with (first
      |(refine cy (G:=G) rfl _ _ rfl rfl rfl HZ7.out rfl Ki ZC ?_))
     refine Ç (aU rfl _ _ rfl je.out Ki) rfl ⟨by rw[Kk.out],?_,aB.upon HA.out HI7.k ia.out⟩;exact HA.upon HI7.a ia.out
   |succ m=>
    have Ga:((j:Nat):Int)<((C.aj:Nat):Int):=À;have wc:=HCW.out sj ws;obtain⟨q1,zU⟩:∃q,q=G.aQ (CN sj).2.1:=⟨_,rfl⟩;obtain⟨q2,vh⟩:∃q,q=G.aQ (CN sj).2.2:=⟨_,rfl⟩;obtain⟨oa,hoa⟩:∃q,q=G.aQ (Sp.jn (Dm G) oj (CN sj).2.2):=⟨_,rfl⟩;obtain⟨sa,Xm⟩:∃q,q=G.aQ (body (CN sj).2.1).2:=⟨_,rfl⟩;have ug:q1.size=17:=by rw[zU];exact G.aG _
    have MN:q1.all (·.oneCell')=true:=by rw[zU];exact G.aZ _
    have zL:q2.size=17:=by rw[vh];exact G.aG _
    have Nn:q2.all (·.oneCell')=true:=by rw[vh];exact G.aZ _
    have o17:oa.size=17:=by rw[hoa];exact G.aG _
    have o1o:oa.all (·.oneCell')=true:=by rw[hoa];exact G.aZ _
    have X1:sa.size=17:=by rw[Xm];exact G.aG _
    have s1o:sa.all (·.oneCell')=true:=by rw[Xm];exact G.aZ _
    have Y5:=hid zU;have XJ:=hid vh;have HOA:=hid hoa;have HSA:=hid Xm;clear zU vh hoa Xm;obtain⟨more,Uq⟩:=Th.parts;have AI:=HR.out;rw[Uq]at AI;have hrb:dk b F (ej++vT G p sj++(CN sj).1++(body (CN sj).2.1).1):=AI.left.left.left.left;have HRC:=hid hrb.left;have HRB:=hid hrb;have I2:=hid (UON.out m ej oj sj Th.out);clear AI hrb Uq;go_wp2_with fail;have HO:=hid hq.o;have H1:Hid (ik C G T (told G b F ej) w wa ic xj ua wr.drew):=hq.call (Å).drew;refine wp_region_held_drew (S:=λw':Wd=>∃e',ik C G T (told G b F e') w wa ic xj ua w') Ã ⟨_,H1.out⟩ (λaa=>?_);refine nu 0 rfl (G.se rfl _ rfl _ _ rfl (wa) (λw' h=>(h.elim λ_ h=>aT h.o)) fH) aa ?_;refine nu 4 rfl (G.nw rfl _ rfl _ _ rfl (xj) (λw' h=>(h.elim λ_ h=>aT h.s)) fV) aa ?_;refine tq 1 (ρ (Y ⟨w.heap.size+1,0,M⟩)) aa ?_;refine tk 2 (I O p) rfl (λw' h=>by obtain⟨_,h⟩:=h;have d0:=cell_of h.c 0 Qq;go_simp) aa ?_;refine bP 3 λK hK=>?_
    simp only[bG,gd];go_simp;refine(fX p _).mono ?_;rintro r w0⟨rfl,rfl⟩;go_wp2_with fail;refine hK.out _ _ aa (λaa=>?_);clear hK K;refine bP 5 λK hK=>?_
    simp only[bG];go_simp;refine(Ue.out _ ej sj xj ua H1.out hx.out ws).mono ?_;rintro r w1⟨rfl,h1⟩;go_wp2_with fail;refine hK.out _ _ ⟨_,h1⟩ (λ_=>?_);clear hK K aa;refine wpAnyH_done Ã ?_ _;have HI1:=hid h1;have Ni:=hid h1.o;have DJ:=hid h1.s;have c1:=cell_of h1.c 1 F8;have c2:=cell_of h1.c 2 px;have c3:=cell_of h1.c 3 zH;clear h1 H1 HO;go_wp2_with (first
     |(refine cR (G:=G) rfl _ rfl rfl Ni.out fH ?_)
     |(refine bR (G:=G) rfl _ rfl rfl DJ.out fV ?_))
    refine(Uy.out _ _ sj xj ua q1 q2 HI1.out hx.out ws HRC.out Y5.out XJ.out).mono ?_;rintro r w2⟨rfl,h2⟩;obtain⟨t1,t2,t3,t4,tb⟩:=s9 (G:=G) w2 q1 q2 ug zL;have I4:=hid t1;have DF:=hid t2;have hp8:w.heap.size+1+1+1+1<w2.heap.size:=ah h2.u;have Uj:Hid (ik C G T _ w wa ic xj ua _):=h2.call tb;have T3:=hid t3;have T4:=hid t4;have HO3:=hid Uj.o;have HU3:=hid Uj.u;clear t1 t2 t3 t4 tb h2 c1 c2 c3 Ni DJ HI1;go_wp2_with (first
     |(refine cy (G:=G) rfl _ _ rfl rfl (c:=G.zS) (d:=q1) rfl (by exact I4.out) rfl ug MN ?_)
     |(refine cy (G:=G) rfl _ _ rfl rfl (c:=G.zS) (d:=q2) rfl (by exact DF.out) rfl zL Nn ?_)
     |(refine cR (G:=G) rfl _ rfl rfl (c:=wa) (by exact HO3.out) fH ?_)
     |(refine bR (G:=G) rfl _ rfl rfl (c:=ua) (by exact HU3.out) rI ?_)
     |(refine bR (G:=G) rfl _ rfl rfl (c:=q2) (by exact T4.out) zL ?_))
    generalize ((((w2.alloc (L G.zS (G.ix 174 157))).alloc (L G.zS (G.ix 174 157))).setCells w2.heap.size 0 q1.toList).setCells (w2.heap.size+1) 0 q2.toList)=w3 at*;refine(Qz.out w3 _ oj (CN sj).2.2 ua q2 oa xj ua Uj.out hu.out XJ.out wo wc.2 HOA.out).mono ?_;rintro r w4⟨rfl,b4⟩;have h4:=Uj.call b4;have HU4:=hid h4.u;have Gj:Hid (ik C G T _ w wa ic xj oa _):=h4.aaM HA.out oa rI o17;have hw3:=ah T3.out;have t5:(w4.setCells (w.heap.size+1+1+1+1) 0 oa.toList).heap[w2.heap.size]?=Y (L q1 (G.ix 174 157)):=(al _ _ _ _ À).trans ((b4.block _ (ah T3.out)).trans T3.out);have T5:=hid t5;have Yl:=hid Gj.o;have c4:=cell_of Gj.c 4 wO;clear b4 h4 t5 HO3 HU3 T3 T4 I4 DF Uj;go_wp2_with (first
     |(refine cy (G:=G) rfl _ _ rfl rfl (c:=ua) (d:=oa) rfl (by exact HU4.out) rI o17 o1o ?_)
     |(refine cR (G:=G) rfl _ rfl rfl (c:=wa) (by exact Yl.out) fH ?_)
     |(refine bR (G:=G) rfl _ rfl rfl (c:=q1) (by exact T5.out) ug ?_))
    generalize w4.setCells (w.heap.size+1+1+1+1) 0 oa.toList=w5 at*;refine(aab.out w5 _ (CN sj).2.1 xj oa q1 sa Gj.out Y5.out wc.1 HRB.out HSA.out).mono ?_;rintro r w6⟨rfl,h6,_⟩;have HS6:=hid h6.s;have HQ:Hid (ik C G T _ w wa ic sa oa _):=h6.YI HA.out sa fV X1;clear h6 c4 T5 Yl Gj HU4;go_wp2_with (first
     |(refine cy (G:=G) rfl _ _ rfl rfl (c:=xj) (d:=sa) rfl (by exact HS6.out) fV X1 s1o ?_))
    exact⟨⟨j+1,m,_,_,_,sa,oa,À,by go_num,HQ,I2,HSA,HOA⟩,by simp[intOf];omega⟩
end
end W
end
end Go.Proofs.YtiopfihjmkfdmabGreatDoor
