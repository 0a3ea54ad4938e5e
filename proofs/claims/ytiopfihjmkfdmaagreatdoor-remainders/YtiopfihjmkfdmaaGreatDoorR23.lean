import Derived.Test.YtiopfihjmkfdmaaGreatDoorR19
namespace Go.Proofs.YtiopfihjmkfdmaaGreatDoor
open Option renaming none→M,some→Y
open Go.Value renaming agg→J,pointer→ρ,int→I,bool→U,iface→σ,tuple→φ,slice→Z
open Go.IntKind renaming i64→O
open Go.Obj renaming cells→L
open Go.Ending renaming returned→υ
open Go.Proofs.Tryz Sp
open Go.RowKit
set_option maxRecDepth 100000
set_option maxHeartbeats 16000000
section
namespace W
variable {δ : Bool}{π : ar δ}
section
variable{b k B:Nat}
variable{c na wa xa:Array Value}
theorem AJ{ops:Array Oper}{rest:List Oper}{op:Oper}{a:Act}{w:Wd}{Q:Exit->Act->Wd->Prop}(qM:op.guard=M)(x y:Operand)(ho:op.op=.store (π.ix 220 203) x y)(hx:a.eval x=ρ (Y ⟨b,0,M⟩))(hy:a.eval y=J π.zS)(qO:na=π.eS)(h:Bk w b c (π.ix 220 203))(hc:c.size=17)
  (k:wpList prog ops Q rest (a.put op.dst undef) (w.setCells b 0 na.toList)):wpList prog ops Q (op :: rest) a w:=by
 subst qO;exact bT qM x y ho hx hy h hc rfl (π.aV M) k
def km(v:Value):Sp.Sm->Prop
 | .name k=>v=σ 275 (I O (k:Nat))/\k<8
 | _=>(∃t u,v=σ t u)/\∀w,(Instr.typeAssert v 277 275 true).run prog w=.ok (φ #[I O 0,U false]) w
theorem Jo{π:ar δ}(e:Fin 8->Sp.Iv)(k:Nat)(v:Sp.Iv):(List.ofFn e).set k v=List.ofFn (show Fin 8->Sp.Iv from hY (Dm π) e k v):=by
 refine List.ext_getElem? fun i=>?_
 rw[List.getElem?_set,List.getElem?_ofFn,List.getElem?_ofFn];by_cases hi:i<8
 ·rw[dif_pos hi,dif_pos hi]
  by_cases hk:k=i
  ·subst hk
   rw[if_pos rfl,if_pos (by simpa using hi)];exact congrArg Y (if_pos rfl).symm
  ·rw[if_neg hk]
   exact congrArg Y (if_neg (fun e=>hk e.symm)).symm
 ·rw[dif_neg hi,dif_neg hi]
  by_cases hk:k=i
  ·rw[if_pos hk,if_neg (by simp;omega)]
  ·rw[if_neg hk]
theorem ar.AG(π:ar δ)(e:Fin 8->Sp.Iv)(k:Nat)(hk:k<8)(v:Sp.Iv):((π.aI (Y e)).setIfInBounds (1+k*2) (I π.kd v.a)).setIfInBounds (1+k*2+1) (I π.kd v.b)=π.aI (show ST from Y (hY (Dm π) e k v)):=by show((π.eo true (List.ofFn e)).setIfInBounds (1+k*2) (I π.kd v.a)).setIfInBounds (1+k*2+1) (I π.kd v.b)=π.eo true (List.ofFn _);rw[π.Ad v (by simpa using hk),Jo]
theorem fU(tv:TypeId)(uv:Value)(r:Nat)(wa:Array Value)(y:Sp.Iv)(s:ST)(w:Wd)(h:s=M∨∀w,(Instr.typeAssert (σ tv uv) 277 275 true).run prog w=.ok (φ #[I O 0,U false]) w)(hn:s=M->(∃k:Nat,tv=275/\uv=I O k)∨∀w,(Instr.typeAssert (σ tv uv) 277 275 true).run prog w=.ok (φ #[I O 0,U false]) w) :
  Calls prog (π.ix 228 220) #[J wa,σ tv uv,I O (r:Nat),J #[I π.kd y.a,I π.kd y.b],J (π.aI s)] w fun e w'=>e=υ (J (π.aI s))/\ω w w':=by
 cases δ
 all_goals
  try dsimp only [ar.ix,ar.kd]at *
  obtain⟨k0,k1,k2,k3,kb⟩:=bB (w:=w) (o1:=L wa (π.ix 217 200)) (o2:=L #[I π.kd y.a,I π.kd y.b] (π.ix 131 126)) (o3:=L (π.aI s) (π.ix 220 203)) (o4:=L π.eS (π.ix 220 203)) (Below.refl _ _);have Q5:=π.aD s;have h1:=π.aV s;have hz:=π.im s;have hr:Hid (_=_):=ao k3 (d:=π.aI s) (by rw[Q5];rfl);have HB:Hid (ω w _):=aq (b:=w.heap.size+1+1+1) (by omega) (π.aI s).toList 0 w _ kb;have K2:=hid k2;have K3:=hid k3;have d0:(π.aI s)[0]?=Y (U s.isSome):=by rw[Array.getElem?_eq_getElem (by omega),hz]
  have c0:=cell_of k2 0 d0;clear k0 k1 k2 k3 kb hz d0;have uF:(∀w,(Instr.typeAssert (σ tv uv) 277 275 true).run prog w=.ok (φ #[I O 0,U false]) w)∨(s=M/\∃k:Nat,tv=275/\uv=I O k):=by
   rcases h with h | h
   ·rcases hn h with hk | hk
    ·exact .inr ⟨h,hk⟩
    ·exact .inl hk
   ·exact .inl h
  clear h hn
  rcases uF with ht | ⟨hs,k,rfl,rfl⟩
  ·generalize π.aI s=xa at *
   generalize s.isSome=rb at *;try dsimp only [ar.ix,ar.kd]
   first | go_enter func228,ntmps228 | go_enter func220,ntmps220
   go_wp2_with (first
    | (refine bu (π:=π) rfl _ rfl rfl K2.out Q5 ?_)
    | (refine bT (π:=π) rfl _ _ rfl rfl rfl K3.out rfl Q5 h1 ?_))
   refine bodyPost_ret (aM rfl _ _ rfl hr.out Q5) rfl ⟨rfl,HB.out⟩
  ·have ht:=nk (I O k)
   have df:s.isSome=false:=by rw[hs];rfl
   have z0:∀h:0<(π.aI s).size,(π.aI s)[0]=U false:=fun h=>by rw[π.im s h,df]
   generalize π.aI s=xa at *;clear hs df c0;try dsimp only [ar.ix,ar.kd]
   first | go_enter func228,ntmps228 | go_enter func220,ntmps220
   go_wp2_with (first
    | (refine bu (π:=π) rfl _ rfl rfl K2.out Q5 ?_)
    | (refine bT (π:=π) rfl _ _ rfl rfl rfl K3.out rfl Q5 h1 ?_))
   refine bodyPost_ret (aM rfl _ _ rfl hr.out Q5) rfl ⟨rfl,HB.out⟩
structure Dn(π:ar δ)(wa xa:Array Value)(y:Sp.Iv)(k:Nat)(W:Wd):Prop where
 o:W.heap[k]?=Y (L wa (π.ix 217 200))
 y:W.heap[k+1]?=Y (L #[I π.kd y.a,I π.kd y.b] (π.ix 131 126))
 x:W.heap[k+1+1]?=Y (L xa (π.ix 220 203))
 z:W.heap[k+1+1+1]?=Y (L π.eS (π.ix 220 203))
theorem Dn.call{y:Sp.Iv}{W W':Wd}(h:Dn π wa xa y k W)(b:ω W W'):Dn π wa xa y k W' :=
 ⟨(b.block _ (ad h.o)).trans h.o,(b.block _ (ad h.y)).trans h.y,(b.block _ (ad h.x)).trans h.x,(b.block _ (ad h.z)).trans h.z⟩
theorem Ff{π:ar δ}(k:Nat)(hk:k<8)(r:Nat)(hr:r<6)(dv:Value)(wa:Array Value)(jR:wa[0]?=Y (σ (π.ix 133 128) dv))(y:Sp.Iv)(hy:π.Wv y)(e:Fin 8->Sp.Iv)(he:∀j,π.Wv (e j))(w:Wd)(hd:fL B π dv w)(u:ST)(hu:qn (Dm π) (.name k) r y (Y e)=u) :
  Calls prog (π.ix 228 220) #[J wa,σ 275 (I O (k:Nat)),I O (r:Nat),J #[I π.kd y.a,I π.kd y.b],J (π.aI (Y e))] w fun e w'=>e=υ (J (π.aI u))/\ω w w':=by
 cases δ
 all_goals
  try dsimp only [ar.ix,ar.kd]at *
  have hg:oE (Dm π) e k=e ⟨k,hk⟩:=dif_pos hk;have Rv:u=match π.gR r (e ⟨k,hk⟩) y with
    | some v=>(show ST from Y (hY (Dm π) e k v))
    | none=>M:=by
   rw[<-hu];have e1:(Dm π).bound r (oE (Dm π) e k) y=π.gR r (e ⟨k,hk⟩) y:=congrArg (fun z=>(Dm π).bound r z y) hg;cases hb:π.gR r (e ⟨k,hk⟩) y with
   | none=>exact xo (Dm π) k r y e (e1.trans hb)
   | some v=>exact rL (Dm π) k r y e v (e1.trans hb)
  obtain⟨k0,k1,k2,k3,kb⟩:=bB (w:=w) (o1:=L wa (π.ix 217 200)) (o2:=L #[I π.kd y.a,I π.kd y.b] (π.ix 131 126)) (o3:=L (π.aI (Y e)) (π.ix 220 203)) (o4:=L π.eS (π.ix 220 203)) (Below.refl _ _);have ht:=nk (I O k);obtain⟨na,qO⟩:∃na,na=π.eS:=⟨_,rfl⟩;have se:na.size=17:=by rw[qO];rfl
  have qS:=hid qO;clear qO;have Q5:=π.aD (Y e);have z0:∀h:0<(π.aI (Y e)).size,(π.aI (Y e))[0]=U true:=fun h=>π.im (Y e) h
  obtain⟨x0,x1⟩:=π.u9 e ⟨k,hk⟩;have uG:(k:Int)<8:=by omega
  have Ek:Hid (∀v:Sp.Iv,_=_):=fun v=>π.AG e k hk v
  have HX:=he ⟨k,hk⟩;have It:Hid (∀v:Sp.Iv,(π.aI (show ST from Y (hY (Dm π) e k v))).size=17/\(π.aI (show ST from Y (hY (Dm π) e k v))).all (·.oneCell')=true):=fun v=>⟨π.aD _,π.aV _⟩
  generalize e ⟨k,hk⟩=x at *;simp only at x0 x1;have HD:Hid (∀W,ω w W->Calls _ _ _ W _):=fun W hW=>SL (hd.below (hW.mono hd.size)) hr HX hy
  generalize nJ:π.aI (Y e)=xa at *;clear hg hu;have H0:Hid (Dn π wa xa y w.heap.size ((((w.alloc (L wa (π.ix 217 200))).alloc (L #[I π.kd y.a,I π.kd y.b] (π.ix 131 126))).alloc (L xa (π.ix 220 203))).alloc (L π.zS (π.ix 220 203))).drew):=⟨k0,k1,k2,k3⟩;have HB:=hid kb;clear k0 k1 k2 k3 kb;try dsimp only [ar.ix,ar.kd]
  first | go_enter func228,ntmps228 | go_enter func220,ntmps220
  have UH:Hid (ω w ((((w.alloc (L wa (π.ix 217 200))).alloc (L #[I π.kd y.a,I π.kd y.b] (π.ix 131 126))).alloc (L xa (π.ix 220 203))).alloc (L π.zS (π.ix 220 203))).drew):=HB.drew;go_wp2_with fail;generalize (((w.alloc (L wa (π.ix 217 200))).alloc (L #[I π.kd y.a,I π.kd y.b] (π.ix 131 126))).alloc (L xa (π.ix 220 203))).alloc (L π.zS (π.ix 220 203))=W at *;refine wp_region_held_drew (S:=fun w':Wd=>Dn π wa xa y w.heap.size w') (by kernel_rfl) H0.out (fun aa=>?_);refine tq 0 (ρ (Y ⟨w.heap.size,0,M⟩)) aa ?_;refine tk 1 (σ (π.ix 133 128) dv) rfl (fun w' h=>by have d:=cell_of h.o 0 jR;go_simp) aa ?_;refine tq 2 (I O (r:Nat)) aa ?_;refine tq 3 (I O (k:Nat)) aa ?_;refine tq 4 (ρ (Y ⟨w.heap.size+1+1,1,M⟩)) aa ?_;refine tq 5 (ρ (Y ⟨w.heap.size+1+1,1+k*2,M⟩)) aa ?_;refine tk 6 (J #[I π.kd x.a,I π.kd x.b]) rfl (fun w' h=>by(have d0:=cell_of h.x _ x0);have d1:=cell_of h.x _ x1;go_simp) aa ?_;refine tk 7 (J #[I π.kd y.a,I π.kd y.b]) rfl (fun w' h=>by(have d0:=cell_of h.y 0 (v:=I π.kd y.a) rfl);have d1:=cell_of h.y 1 (v:=I π.kd y.b) rfl;go_simp) aa ?_;refine tq 8 (σ (π.ix 133 128) dv) aa ?_;refine tq 9 (σ (π.ix 133 128) dv) aa ?_;refine xX 10 14 ?_ ?_
  ·intro K hK
   simp only[bp,fB];go_simp;refine(HD.out _ UH.out).mono ?_;rintro q w1⟨rfl,b1⟩;go_wp2_with fail;have iC:=aa.call b1;have hH1:=iC;have BN:Hid (ω w w1):=UH.trans (b1.mono UH.size);refine hK.out _ _ iC (fun aa=>?_);clear hK K iC b1;cases hq:π.gR r x y with
   | none =>
    simp only[ar.sF];refine tq 11 (φ #[J #[I π.kd 0,I π.kd 0],U false]) aa ?_;refine tq 12 (J #[I π.kd 0,I π.kd 0]) aa ?_;refine tq 13 (U false) aa ?_;refine bD 14 fun K hK=>?_
    simp only[bp];go_simp;refine hK.out _ _ (aa.call (below_alloc1 _ _)) (fun aa=>?_);clear hK K;refine bD 15 fun K hK=>?_
    simp only[bp];go_simp;refine hK.out _ _ (hH1.call (below_alloc1 _ _)) (fun aa=>?_);clear hK K;refine bD 16 fun K hK=>?_
    simp only[bp];go_simp;refine hK.out _ _ aa (fun aa=>?_);clear hK K;refine wpAnyH_done (by kernel_rfl) ?_ _;have fK:=aa;have Eg:=heap_alloc_new w1 (L #[I π.kd 0,I π.kd 0] (π.ix 131 126));have N8:Hid (ω w (w1.alloc (L #[I π.kd 0,I π.kd 0] (π.ix 131 126)))):=BN.alloc BN.size _;have Ti:Hid (u=M):=Rv.trans (by rw[hq];try rfl);clear Rv hq;have HZ:=hid fK.z;have iz:Hid (_=_):=ao fK.z (d:=na) (by rw[se];rfl);have fF:Hid (ω w _):=aq (b:=w.heap.size+1+1+1) (by omega) na.toList 0 w _ N8.out;clear fK aa;generalize (w1.alloc (L #[I π.kd 0,I π.kd 0] (π.ix 131 126)))=w2 at *;go_wp2_with (first
     | (refine AJ (π:=π) rfl _ _ rfl rfl rfl qS.out HZ.out rfl ?_))
    refine bodyPost_ret (aM rfl _ _ rfl iz.out se) rfl ⟨by rw[Ti.out,qS.out];rfl,fF.out⟩
   | some v =>
    simp only[ar.sF];refine tq 11 (φ #[J #[I π.kd v.a,I π.kd v.b],U true]) aa ?_;refine tq 12 (J #[I π.kd v.a,I π.kd v.b]) aa ?_;refine tq 13 (U true) aa ?_;refine bD 14 fun K hK=>?_
    simp only[bp];go_simp;refine hK.out _ _ (aa.call (below_alloc1 _ _)) (fun aa=>?_);clear hK K;refine bD 15 fun K hK=>?_
    simp only[bp];go_simp;refine hK.out _ _ (hH1.call (below_alloc1 _ _)) (fun aa=>?_);clear hK K;refine bD 16 fun K hK=>?_
    simp only[bp];go_simp;refine hK.out _ _ aa (fun aa=>?_);clear hK K;refine wpAnyH_done (by kernel_rfl) ?_ _;have fK:=aa;have Eg:=heap_alloc_new w1 (L #[I π.kd v.a,I π.kd v.b] (π.ix 131 126));have N8:Hid (ω w (w1.alloc (L #[I π.kd v.a,I π.kd v.b] (π.ix 131 126)))):=BN.alloc BN.size _;have Ti:Hid (u=Y (hY (Dm π) e k v)):=Rv.trans (by rw[hq];try rfl);clear Rv hq;obtain⟨n0,n1,_,_,_⟩:=aR Eg;have y0:=cell_of fK.x _ x0;have y1:=cell_of fK.x _ x1;have f0:=aw fK.x (1+k*2);have f1:=aw fK.x (1+k*2+1);have xM:=ah (ah fK.x (1+k*2) (I π.kd v.a)) (1+k*2+1) (I π.kd v.b);rw[Ek.out v]at xM;have D4:w.heap.size+1+1+1≠w.heap.size+1+1:=by omega
    have tz:(((w1.alloc (L #[I π.kd v.a,I π.kd v.b] (π.ix 131 126))).setCell ⟨w.heap.size+1+1,1+k*2,M⟩ (I π.kd v.a)).setCell ⟨w.heap.size+1+1,1+k*2+1,M⟩ (I π.kd v.b)).heap[w.heap.size+1+1+1]?=Y (L π.eS (π.ix 220 203)):=by rw[Below.heap_setCell _ _ _ _ (show w.heap.size+1+1+1≠(⟨w.heap.size+1+1,1+k*2+1,M⟩:Addr).block from D4),Below.heap_setCell _ _ _ _ (show w.heap.size+1+1+1≠(⟨w.heap.size+1+1,1+k*2,M⟩:Addr).block from D4)];exact fK.z
    have Ei:=hid xM;have NO:=hid tz;obtain⟨o1,o2⟩:=It.out v;have iz:Hid (_=_):=ao tz (d:=π.aI (show ST from Y (hY (Dm π) e k v))) (by rw[o1];rfl);have fF:Hid (ω w _):=aq (b:=w.heap.size+1+1+1) (by omega) (π.aI (show ST from Y (hY (Dm π) e k v))).toList 0 w _ ((N8.setCell (p:=⟨w.heap.size+1+1,1+k*2,M⟩) (by show w.heap.size<=w.heap.size+1+1;omega) (I π.kd v.a)).setCell (p:=⟨w.heap.size+1+1,1+k*2+1,M⟩) (by show w.heap.size<=w.heap.size+1+1;omega) (I π.kd v.b));clear fK aa xM tz Eg Ek It;generalize (w1.alloc (L #[I π.kd v.a,I π.kd v.b] (π.ix 131 126)))=w2 at *;generalize Ac:π.aI (show ST from Y (hY (Dm π) e k v))=za at *;have Ta:=hid Ac;clear Ac;go_wp2_with (first
     | (refine bu (π:=π) rfl _ rfl rfl Ei.out o1 ?_)
     | (refine bT (π:=π) rfl _ _ rfl rfl rfl NO.out rfl o1 o2 ?_))
    refine bodyPost_ret (aM rfl _ _ rfl iz.out o1) rfl ⟨by rw[Ti.out];exact congrArg (fun z=>Ending.returned (J z)) Ta.symm,fF.out⟩
  ·intro K hK
   simp only[bp,fB];go_simp;have TN:=aa.call (below_alloc1 _ (L #[I π.kd 0,I π.kd 0] (π.ix 131 126)));have Us:w.heap.size≠W.heap.size:=by have:=ad aa.z;show w.heap.size≠W.drew.heap.size;omega
   have OA:w.heap.size+1≠W.heap.size:=by have:=ad aa.z;show w.heap.size+1≠W.drew.heap.size;omega
   have Qd:w.heap.size+1+1≠W.heap.size:=by have:=ad aa.z;show w.heap.size+1+1≠W.drew.heap.size;omega
   have UF:w.heap.size+1+1+1≠W.heap.size:=by have:=ad aa.z;show w.heap.size+1+1+1≠W.drew.heap.size;omega
   have Tb:w.heap.size<=W.heap.size:=UH.size;have HBa:Hid (ω w (W.drew.alloc (L #[I π.kd 0,I π.kd 0] (π.ix 131 126)))):=UH.alloc UH.size _;have HNa:Hid (_=_):=heap_alloc_new W.drew (L #[I π.kd 0,I π.kd 0] (π.ix 131 126));refine hK.out _ _ TN (fun aa=>?_);clear hK K TN;refine bD 10 fun K hK=>?_
   simp only[bp];go_simp;refine(HD.out _ HBa.out).mono ?_;rintro q w1⟨rfl,b1⟩;go_wp2_with fail;have iC:=aa.call b1;have BN:Hid (ω w w1):=HBa.trans (b1.mono HBa.size);have J1:Hid (w1.heap[W.heap.size]?=Y (L #[I π.kd 0,I π.kd 0] (π.ix 131 126))):=(b1.block _ (ad HNa.out)).trans HNa.out;obtain⟨g0,g1,gf0,gf1,_⟩:=aR J1.out;refine hK.out _ _ iC (fun aa=>?_);clear hK K iC b1;cases hq:π.gR r x y with
   | none =>
    simp only[ar.sF];refine tq 11 (φ #[J #[I π.kd 0,I π.kd 0],U false]) aa ?_;refine tq 12 (J #[I π.kd 0,I π.kd 0]) aa ?_;refine tq 13 (U false) aa ?_;refine bD 15 fun K hK=>?_
    simp only[bp];go_simp;refine hK.out _ _ ⟨bL Us aa.o _ _,bL OA aa.y _ _,bL Qd aa.x _ _,bL UF aa.z _ _⟩ (fun aa=>?_);clear hK K;refine bD 16 fun K hK=>?_
    simp only[bp];go_simp;refine hK.out _ _ aa (fun aa=>?_);clear hK K;refine wpAnyH_done (by kernel_rfl) ?_ _;have fK:=aa;have Eg:=cq J1.out (I π.kd 0) (I π.kd 0);have N8:Hid (ω w _):=Below.two BN.out Tb (I π.kd 0) (I π.kd 0);have Ti:Hid (u=M):=Rv.trans (by rw[hq];try rfl);clear Rv hq;have HZ:=hid fK.z;have iz:Hid (_=_):=ao fK.z (d:=na) (by rw[se];rfl);have fF:Hid (ω w _):=aq (b:=w.heap.size+1+1+1) (by omega) na.toList 0 w _ N8.out;clear fK aa;generalize ((w1.setCell ⟨W.heap.size,0,M⟩ (I π.kd 0)).setCell ⟨W.heap.size,1,M⟩ (I π.kd 0))=w2 at *;go_wp2_with (first
     | (refine AJ (π:=π) rfl _ _ rfl rfl rfl qS.out HZ.out rfl ?_))
    refine bodyPost_ret (aM rfl _ _ rfl iz.out se) rfl ⟨by rw[Ti.out,qS.out];rfl,fF.out⟩
   | some v =>
    simp only[ar.sF];refine tq 11 (φ #[J #[I π.kd v.a,I π.kd v.b],U true]) aa ?_;refine tq 12 (J #[I π.kd v.a,I π.kd v.b]) aa ?_;refine tq 13 (U true) aa ?_;refine bD 15 fun K hK=>?_
    simp only[bp];go_simp;refine hK.out _ _ ⟨bL Us aa.o _ _,bL OA aa.y _ _,bL Qd aa.x _ _,bL UF aa.z _ _⟩ (fun aa=>?_);clear hK K;refine bD 16 fun K hK=>?_
    simp only[bp];go_simp;refine hK.out _ _ aa (fun aa=>?_);clear hK K;refine wpAnyH_done (by kernel_rfl) ?_ _;have fK:=aa;have Eg:=cq J1.out (I π.kd v.a) (I π.kd v.b);have N8:Hid (ω w _):=Below.two BN.out Tb (I π.kd v.a) (I π.kd v.b);have Ti:Hid (u=Y (hY (Dm π) e k v)):=Rv.trans (by rw[hq];try rfl);clear Rv hq;obtain⟨n0,n1,_,_,_⟩:=aR Eg;have y0:=cell_of fK.x _ x0;have y1:=cell_of fK.x _ x1;have f0:=aw fK.x (1+k*2);have f1:=aw fK.x (1+k*2+1);have xM:=ah (ah fK.x (1+k*2) (I π.kd v.a)) (1+k*2+1) (I π.kd v.b);rw[Ek.out v]at xM;have D4:w.heap.size+1+1+1≠w.heap.size+1+1:=by omega
    have tz:((((w1.setCell ⟨W.heap.size,0,M⟩ (I π.kd v.a)).setCell ⟨W.heap.size,1,M⟩ (I π.kd v.b)).setCell ⟨w.heap.size+1+1,1+k*2,M⟩ (I π.kd v.a)).setCell ⟨w.heap.size+1+1,1+k*2+1,M⟩ (I π.kd v.b)).heap[w.heap.size+1+1+1]?=Y (L π.eS (π.ix 220 203)):=by rw[Below.heap_setCell _ _ _ _ (show w.heap.size+1+1+1≠(⟨w.heap.size+1+1,1+k*2+1,M⟩:Addr).block from D4),Below.heap_setCell _ _ _ _ (show w.heap.size+1+1+1≠(⟨w.heap.size+1+1,1+k*2,M⟩:Addr).block from D4)];exact fK.z
    have Ei:=hid xM;have NO:=hid tz;obtain⟨o1,o2⟩:=It.out v;have iz:Hid (_=_):=ao tz (d:=π.aI (show ST from Y (hY (Dm π) e k v))) (by rw[o1];rfl);have fF:Hid (ω w _):=aq (b:=w.heap.size+1+1+1) (by omega) (π.aI (show ST from Y (hY (Dm π) e k v))).toList 0 w _ ((N8.setCell (p:=⟨w.heap.size+1+1,1+k*2,M⟩) (by show w.heap.size<=w.heap.size+1+1;omega) (I π.kd v.a)).setCell (p:=⟨w.heap.size+1+1,1+k*2+1,M⟩) (by show w.heap.size<=w.heap.size+1+1;omega) (I π.kd v.b));clear fK aa xM tz Eg Ek It;generalize ((w1.setCell ⟨W.heap.size,0,M⟩ (I π.kd v.a)).setCell ⟨W.heap.size,1,M⟩ (I π.kd v.b))=w2 at *;generalize Ac:π.aI (show ST from Y (hY (Dm π) e k v))=za at *;have Ta:=hid Ac;clear Ac;go_wp2_with (first
     | (refine bu (π:=π) rfl _ rfl rfl Ei.out o1 ?_)
     | (refine bT (π:=π) rfl _ _ rfl rfl rfl NO.out rfl o1 o2 ?_))
    refine bodyPost_ret (aM rfl _ _ rfl iz.out o1) rfl ⟨by rw[Ti.out];exact congrArg (fun z=>Ending.returned (J z)) Ta.symm,fF.out⟩
theorem tM{π:ar δ}(v:Value)(x:Sp.Sm)(hv:km v x)(r:Nat)(hr:r<6)(dv:Value)(wa:Array Value)(jR:wa[0]?=Y (σ (π.ix 133 128) dv))(y:Sp.Iv)(hy:π.Wv y)(s:ST)(hs:Sp.Wf (Kr π) s)(w:Wd)(hd:fL B π dv w)(u:ST)(hu:qn (Dm π) x r y s=u) :
  Calls prog (π.ix 228 220) #[J wa,v,I O (r:Nat),J #[I π.kd y.a,I π.kd y.b],J (π.aI s)] w fun e w'=>e=υ (J (π.aI u))/\ω w w':=by
 cases s with
 | none =>
  have hu:u=M:=by rw[<-hu];rfl
  subst hu;cases x with
  | name k =>obtain⟨rfl,hk⟩:=hv;exact fU _ _ r wa y M w (.inl rfl) (fun _=>.inl ⟨k,rfl,rfl⟩)
  | num n=>obtain⟨⟨t,u,rfl⟩,h⟩:=hv;exact fU t u r wa y M w (.inr h) (fun _=>.inr h)
  | neg z=>obtain⟨⟨t,u,rfl⟩,h⟩:=hv;exact fU t u r wa y M w (.inr h) (fun _=>.inr h)
  | bin k z q=>obtain⟨⟨t,u,rfl⟩,h⟩:=hv;exact fU t u r wa y M w (.inr h) (fun _=>.inr h)
 | some e =>
  cases x with
  | name k =>obtain⟨rfl,hk⟩:=hv;exact Ff k hk r hr dv wa jR y hy e (hs _ rfl) w hd u hu
  | num n=>obtain⟨⟨t,z,rfl⟩,h⟩:=hv;have hu:u=Y e:=hu.symm;subst hu;exact fU t z r wa y (Y e) w (.inr h) (fun _=>.inr h)
  | neg z=>obtain⟨⟨t,z,rfl⟩,h⟩:=hv;have hu:u=Y e:=hu.symm;subst hu;exact fU t z r wa y (Y e) w (.inr h) (fun _=>.inr h)
  | bin k z q=>obtain⟨⟨t,z,rfl⟩,h⟩:=hv;have hu:u=Y e:=hu.symm;subst hu;exact fU t z r wa y (Y e) w (.inr h) (fun _=>.inr h)
end
end W
end
section
namespace W
variable {δ : Bool}{π : ar δ}
section
variable{B:Nat}
structure iA(π:ar δ)(wa xa:Array Value)(c0 vl vr:Value)(a b:Sp.Iv)(kw kl kr kc ks:Nat)(W:Wd):Prop where
 o:W.heap[kw]?=Y (L wa (π.ix 217 200))
 l:W.heap[kl]?=Y (L #[I π.kd a.a,I π.kd a.b] (π.ix 131 126))
 r:W.heap[kr]?=Y (L #[I π.kd b.a,I π.kd b.b] (π.ix 131 126))
 c:W.heap[kc]?=Y (L #[c0,vl,vr] 285)
 x:W.heap[ks]?=Y (L xa (π.ix 220 203))
theorem iA.call{wa xa:Array Value}{c0 vl vr:Value}{a b:Sp.Iv}{kw kl kr kc ks:Nat}{W W':Wd}(h:iA π wa xa c0 vl vr a b kw kl kr kc ks W)(k:ω W W'):iA π wa xa c0 vl vr a b kw kl kr kc ks W' :=
 ⟨(k.block _ (ad h.o)).trans h.o,(k.block _ (ad h.l)).trans h.l,(k.block _ (ad h.r)).trans h.r,(k.block _ (ad h.c)).trans h.c,(k.block _ (ad h.x)).trans h.x⟩
theorem JQ{π:ar δ}(r:Nat)(hr:r<6)(dv:Value)(wa xa:Array Value)(jR:wa[0]?=Y (σ (π.ix 133 128) dv))(c0 vl vr:Value)(a b:Sp.Iv)(ha:π.Wv a)(hb:π.Wv b)(kw kl kr kc ks:Nat)(w:Wd)(hd:fL B π dv w)(hT:jD w)(hG:11<=w.heap.size)(h:iA π wa xa c0 vl vr a b kw kl kr kc ks w)(hm:π.lZ r a b=false) :
  Calls prog (π.ix 227 219) #[I O (r:Nat),ρ (Y ⟨kw,0,M⟩),ρ (Y ⟨kl,0,M⟩),ρ (Y ⟨kr,0,M⟩),ρ (Y ⟨kc,0,M⟩),ρ (Y ⟨ks,0,M⟩)] w fun e w'=>e=υ (J (π.aI M))/\ω w w':=by
 cases δ
 all_goals
  try dsimp only [ar.ix,ar.kd]at *
  have kb:=below_alloc1 w (L π.zS (π.ix 220 203));have h0:=h.call kb;have HD:=VA (hd.below (kb.mono hd.size)) (hT.below kb hG) (Nat.le_trans hG kb.size) hr ha hb;rw[hm]at HD;have d0:=cell_of h0.o 0 jR;obtain⟨x0,x1,_,_,_⟩:=aR h0.l;obtain⟨y0,y1,_,_,_⟩:=aR h0.r;have HZ:Hid (_=_):=heap_alloc_new w (L π.zS (π.ix 220 203));have HB:=hid kb;obtain⟨na,qO⟩:∃na,na=π.eS:=⟨_,rfl⟩;have se:na.size=17:=by rw[qO];rfl
  have qS:=hid qO;clear qO h0 h hd hT kb;try dsimp only [ar.ix,ar.kd]
  first | go_enter func227,ntmps227 | go_enter func219,ntmps219
  go_wp2_with fail;refine HD.mono ?_;rintro q w1⟨rfl,b1⟩;have jm:=(b1.block _ (ad HZ.out)).trans HZ.out;have ye:=hid jm;have iz:Hid (_=_):=ao jm (d:=na) (by rw[se];rfl);have fF:Hid (ω w _):=aq (b:=w.heap.size) (Nat.le_refl _) na.toList 0 w _ (HB.trans (b1.mono HB.size));clear b1 jm HD d0 x0 x1 y0 y1;go_wp2_with (first
   | (refine AJ (π:=π) rfl _ _ rfl rfl rfl qS.out ye.out rfl ?_))
  refine bodyPost_ret (aM rfl _ _ rfl iz.out se) rfl ⟨by rw[qS.out];rfl,fF.out⟩
theorem EK{π:ar δ}(r:Nat)(hr:r<6)(hm6:dO r<6)(dv:Value)(wa:Array Value)(jR:wa[0]?=Y (σ (π.ix 133 128) dv))(ef:wa.size=8)(c0 vl vr:Value)(tl tr:TypeId)(ul ur:Value)(Wt:vl=σ tl ul)(hvr:vr=σ tr ur)(x y:Sp.Sm)(hl:km vl x)(hy:km vr y)(a b:Sp.Iv)(ha:π.Wv a)(hb:π.Wv b)(e:Fin 8->Sp.Iv)(he:∀k,π.Wv (e k))(kw kl kr kc ks:Nat)(w:Wd)(hd:fL B π dv w)(hT:jD w)(hG:11<=w.heap.size)(h:iA π wa (π.aI (Y e)) c0 vl vr a b kw kl kr kc ks w)(hm:π.lZ r a b=true)(s1 u:ST)(iC:qn (Dm π) x r b (Y e)=s1)(hu:qn (Dm π) y (dO r) a s1=u) :
  Calls prog (π.ix 227 219) #[I O (r:Nat),ρ (Y ⟨kw,0,M⟩),ρ (Y ⟨kl,0,M⟩),ρ (Y ⟨kr,0,M⟩),ρ (Y ⟨kc,0,M⟩),ρ (Y ⟨ks,0,M⟩)] w fun e w'=>e=υ (J (π.aI u))/\ω w w':=by
 cases δ
 all_goals
  try dsimp only [ar.ix,ar.kd]at *
  have kb:=below_alloc1 w (L π.zS (π.ix 220 203));have h0:=h.call kb;have HD:=VA (hd.below (kb.mono hd.size)) (hT.below kb hG) (Nat.le_trans hG kb.size) hr ha hb;rw[hm]at HD;have Yi:Sp.Wf (Kr π) s1:=by rw[<-iC];exact vm (Sp.Wf.some he) hb
  have BN:Hid (∀W,ω w W->Calls _ _ _ W _):=fun W hW=>tM (B:=B) (π:=π) vl x hl r hr dv wa jR b hb (Y e) (Sp.Wf.some he) W (hd.below (hW.mono hd.size)) s1 iC
  have kV:Hid (∀W,ω w W->Calls _ _ _ W _):=fun W hW=>tM (B:=B) (π:=π) vr y hy (dO r) hm6 dv wa jR a ha s1 Yi W (hd.below (hW.mono hd.size)) u hu
  have HM:Hid (∀W,ω w W->Calls _ _ _ W _):=fun W hW=>A7 r hr W (hT.below hW hG)
  have lo:=ad h.o;have ll:=ad h.l;have lr:=ad h.r;have lc:=ad h.c;have lx:=ad h.x;have d0:=cell_of h0.o 0 jR;obtain⟨x0,x1,_,_,_⟩:=aR h0.l;obtain⟨y0,y1,_,_,_⟩:=aR h0.r;subst Wt hvr;have ee:=π.aD (Y e);have TA:=π.aD u;have Ky:=π.aV u;generalize π.aI (Y e)=xa at *;generalize π.aI s1=sa at *;generalize π.aI u=ua at *;have HZ:Hid (_=_):=heap_alloc_new w (L π.zS (π.ix 220 203));have HB:=hid kb;have HC:Hid (iA π wa xa c0 (σ tl ul) (σ tr ur) a b kw kl kr kc ks _):=h0;clear h0 h hd hT kb;try dsimp only [ar.ix,ar.kd]
  first | go_enter func227,ntmps227 | go_enter func219,ntmps219
  go_wp2_with fail;refine HD.mono ?_;rintro q w1⟨rfl,b1⟩;have xK:Hid (ω w w1.drew):=(HB.trans (b1.mono HB.size)).drew;have H0:Hid (iA π wa xa c0 (σ tl ul) (σ tr ur) a b kw kl kr kc ks w1.drew/\w1.drew.heap[w.heap.size]?=Y (L π.zS (π.ix 220 203))/\ω w w1.drew):=⟨HC.call b1.drew,(b1.block _ (ad HZ.out)).trans HZ.out,xK.out⟩;clear b1 HD d0 x0 x1 y0 y1;go_wp2_with fail;refine wp_region_held_drew (S:=fun w':Wd=>iA π wa xa c0 (σ tl ul) (σ tr ur) a b kw kl kr kc ks w'/\(∃c,c.size=17/\w'.heap[w.heap.size]?=Y (L c (π.ix 220 203)))/\ω w w') (by kernel_rfl) ⟨H0.1,⟨_,rfl,H0.2.1⟩,H0.2.2⟩ (fun aa=>?_);refine mB 0 rfl (π.qq rfl _ rfl _ _ rfl (wa) (fun w' h=>aP h.1.o) ef) aa ?_;refine mB 6 rfl (π.qq rfl _ rfl _ _ rfl (wa) (fun w' h=>aP h.1.o) ef) aa ?_;refine mB 11 rfl (π.mv rfl _ rfl _ _ rfl (xa) (fun w' h=>aP h.1.x) ee) aa ?_;refine tq 1 (ρ (Y ⟨kc,2,M⟩)) aa ?_;refine tk 2 (σ tr ur) rfl (fun w' h=>by have d:=cell_of h.1.c 2 (v:=σ tr ur) rfl;go_simp) aa ?_;refine tq 3 (I O (r:Nat)) aa ?_;refine tk 5 (J #[I π.kd a.a,I π.kd a.b]) rfl (fun w' h=>by(have d0:=cell_of h.1.l 0 (v:=I π.kd a.a) rfl);have d1:=cell_of h.1.l 1 (v:=I π.kd a.b) rfl;go_simp) aa ?_;refine tq 7 (ρ (Y ⟨kc,1,M⟩)) aa ?_;refine tk 8 (σ tl ul) rfl (fun w' h=>by have d:=cell_of h.1.c 1 (v:=σ tl ul) rfl;go_simp) aa ?_;refine tq 9 (I O (r:Nat)) aa ?_;refine tk 10 (J #[I π.kd b.a,I π.kd b.b]) rfl (fun w' h=>by(have d0:=cell_of h.1.r 0 (v:=I π.kd b.a) rfl);have d1:=cell_of h.1.r 1 (v:=I π.kd b.b) rfl;go_simp) aa ?_;refine bD 4 fun K hK=>?_
  simp only[bp,fB];go_simp;refine(HM.out _ aa.2.2).mono ?_;rintro q w2⟨rfl,rfl⟩;go_wp2_with fail;refine hK.out _ _ aa (fun aa=>?_);clear hK K;refine bD 12 fun K hK=>?_
  simp only[bp];go_simp;refine(BN.out _ aa.2.2).mono ?_;rintro q w3⟨rfl,b3⟩;go_wp2_with fail;obtain⟨c3,Bz,tz⟩:=aa.2.1;have yQ:iA π wa xa c0 (σ tl ul) (σ tr ur) a b kw kl kr kc ks w3/\(∃c,c.size=17/\w3.heap[w.heap.size]?=Y (L c (π.ix 220 203)))/\ω w w3:=⟨aa.1.call b3,⟨c3,Bz,(b3.block _ (ad tz)).trans tz⟩,aa.2.2.trans (b3.mono aa.2.2.size)⟩;refine hK.out _ _ yQ (fun aa=>?_);clear hK K yQ b3 tz;refine bD 13 fun K hK=>?_
  simp only[bp];go_simp;refine(kV.out _ aa.2.2).mono ?_;rintro q w4⟨rfl,b4⟩;go_wp2_with fail;obtain⟨c4,uH,uR⟩:=aa.2.1;have BR:=(b4.block _ (ad uR)).trans uR;have Ut:iA π wa xa c0 (σ tl ul) (σ tr ur) a b kw kl kr kc ks w4/\(∃c,c.size=17/\w4.heap[w.heap.size]?=Y (L c (π.ix 220 203)))/\ω w w4:=⟨aa.1.call b4,⟨c4,uH,BR⟩,aa.2.2.trans (b4.mono aa.2.2.size)⟩;refine hK.out _ _ Ut (fun aa=>?_);clear hK K Ut b4 uR;have iz:Hid (_=_):=ao BR (d:=ua) (by omega);have fF:Hid (ω w _):=aq (b:=w.heap.size) (Nat.le_refl _) ua.toList 0 w _ aa.2.2;refine bD 14 fun K hK=>?_
  simp only[bp];rw[if_pos (by rfl)];refine lk (π:=π) _ _ rfl rfl rfl (by rw[<-uH];exact bM BR) TA Ky ?_;refine hK.out _ _ ⟨⟨(aj _ _ _ _ (by omega)).trans aa.1.o,(aj _ _ _ _ (by omega)).trans aa.1.l,(aj _ _ _ _ (by omega)).trans aa.1.r,(aj _ _ _ _ (by omega)).trans aa.1.c,(aj _ _ _ _ (by omega)).trans aa.1.x⟩,⟨ua,TA,iz.out⟩,fF.out⟩ (fun _=>?_);clear hK K;refine wpAnyH_done (by kernel_rfl) ?_ _;go_wp2_with fail;refine bodyPost_ret (aM rfl _ _ rfl iz.out TA) rfl ⟨rfl,fF.out⟩
theorem jI{π:ar δ}(r:Nat)(hr:r<6)(dv:Value)(wa:Array Value)(jR:wa[0]?=Y (σ (π.ix 133 128) dv))(ef:wa.size=8)(c0:Value)(tl tr:TypeId)(ul ur:Value)(x y:Sp.Sm)(hl:km (σ tl ul) x)(hy:km (σ tr ur) y)(a b:Sp.Iv)(ha:π.Wv a)(hb:π.Wv b)(e:Fin 8->Sp.Iv)(he:∀k,π.Wv (e k))(kw kl kr kc ks:Nat)(w:Wd)(hd:fL B π dv w)(hT:jD w)(hG:11<=w.heap.size)(h:iA π wa (π.aI (Y e)) c0 (σ tl ul) (σ tr ur) a b kw kl kr kc ks w)(u:ST)(hu:fH (Dm π) r x y a b e=u) :
  Calls prog (π.ix 227 219) #[I O (r:Nat),ρ (Y ⟨kw,0,M⟩),ρ (Y ⟨kl,0,M⟩),ρ (Y ⟨kr,0,M⟩),ρ (Y ⟨kc,0,M⟩),ρ (Y ⟨ks,0,M⟩)] w fun e w'=>e=υ (J (π.aI u))/\ω w w':=by
 have hm6:dO r<6:=by rcases(show r=0∨r=1∨r=2∨r=3∨r=4∨r=5 from by omega) with rfl | rfl | rfl | rfl | rfl | rfl<;>decide
 cases hm:π.lZ r a b with
 | false =>
  have:u=M:=by rw[<-hu];exact uf (Dm π) r x y a b e hm
  subst this;exact JQ r hr dv wa _ jR c0 _ _ a b ha hb kw kl kr kc ks w hd hT hG h hm
 | true =>exact EK r hr hm6 dv wa jR ef c0 _ _ tl tr ul ur rfl rfl x y hl hy a b ha hb e he kw kl kr kc ks w hd hT hG h hm _ u rfl ((DT (Dm π) r x y a b e hm).symm.trans hu)
end
end W
end
theorem C2(k:Nat)(hk:k<5)(w:Wd) :
  Calls prog 240 #[I O k] w fun e w'=>e=υ (U (decide (3<=k)))/\w'=w:=by
 have uG:k=3∨k=4∨(k<3/\¬ ((k:Int)=3)/\¬ ((k:Int)=4)):=by omega
 rcases uG with rfl | rfl | ⟨h2,h0,h1⟩
 ·go_enter func240,ntmps240
  go_wp2_with fail;go_ret;exact⟨rfl,rfl⟩
 ·go_enter func240,ntmps240
  go_wp2_with fail;go_ret;exact⟨rfl,rfl⟩
 ·have hl:Hid (decide (3<=k)=false):=by unfold Hid;simp;omega
  clear h2 hk;go_enter func240,ntmps240;go_wp2_with fail;go_ret;refine⟨eK ?_,rfl⟩;rw[hl.out];simp[h0,h1]
def Hd(t:TypeId)(u:Value)(p:Int):Prop:=∀w,(method 587 t u "Where").run prog w=.ok (72,I O p) w
theorem fA(p:Int)(w:Wd):Calls prog 72 #[I O p] w fun e w'=>e=υ (I O p)/\w'=w:=by go_enter func72,ntmps72;go_wp2_with fail;go_ret;exact⟨rfl,rfl⟩
section
namespace W
variable {δ : Bool}{π : ar δ}
def nA(C:Cx)(π:ar δ)(T:eQ)(F:Fd)(b:Bool)(v:Value)(e:Fin 8->Sp.Iv)(es:List bV)(o:Option Sp.Iv):Prop :=
 ∀W,aK C π T F W->Calls prog (π.ix 197 193) #[J (π.wk C b),v,J (π.aI (Y e))] W (gJ C π T F b W es o)
theorem jW(tv:TypeId)(uv:Value)(C:Cx)(π:ar δ)(T:eQ)(F:Fd)(b:Bool)(w:Wd)(e:Fin 8->Sp.Iv)(es:List bV)(o:Option Sp.Iv)(h:aK C π T F w)
  (hs:nA C π T F b (σ tv uv) e es o) (Uh:∀a,o=Y a->π.Wv a) :
  Calls prog (π.ix 224 216) #[J (π.wk C b),J #[σ tv uv],J (π.aI (Y e))] w (gJ C π T F b w es (o.map π.jd)):=by
 cases δ
 all_goals
  try dsimp only [ar.ix,ar.kd]at *
  obtain⟨k0,k1,k2,k3,kb⟩:=bB (w:=w) (o1:=L (π.wk C b) (π.ix 217 200)) (o2:=L #[σ tv uv] 330) (o3:=L (π.aI (Y e)) (π.ix 220 203)) (o4:=L #[I π.kd 0,I π.kd 0] (π.ix 131 126)) (Below.refl _ _);have HW:=hs _ (h.call kb);have jR:=π.jM C b;have ef:=π.cy C b;have ee:=π.aD (Y e);generalize π.wk C b=wa at *;generalize π.aI (Y e)=xa at *;have K0:=hid k0;have K2:=hid k2;have K3:=hid k3;have c1:=cell_of k1 0 (v:=σ tv uv) rfl;have HB:=hid kb;have HA:=hid h;have hle:w.heap.size<=w.heap.size+1+1+1:=by omega
  clear h k0 k1 k2 k3 kb hs;cases o with
  | none =>
   try dsimp only [ar.ix,ar.kd]
   first | go_enter func224,ntmps224 | go_enter func216,ntmps216
   go_wp2_with (first
    | (refine cj (π:=π) rfl _ rfl rfl K0.out ef ?_)
    | (refine bu (π:=π) rfl _ rfl rfl K2.out ee ?_))
   refine HW.mono ?_;rintro r w1⟨rfl,a1,b1⟩;have jm:=b1.aU HA.out hle K3.out;obtain⟨m0,m1,nL,nK,mq⟩:=aR jm;have h2:=cq jm (I π.kd 0) (I π.kd 0);obtain⟨q0,q1,yJ,yH,_⟩:=aR h2;have H4:Hid (_=_):=cq h2 (I π.kd 0) (I π.kd 0);have Ec:Hid (Below w.heap.size w1 _):=Below.two (Below.two (Below.refl w.heap.size w1) hle (I π.kd 0) (I π.kd 0)) hle (I π.kd 0) (I π.kd 0);have nZ:=hid a1;have mN:Hid (au C w w1):=(au.aB HB.out HA.le).trans b1;clear mq jm a1 b1 HW h2;simp only[ar.sF];go_wp2_with fail;have Q0:=cell_of H4.out 0 (v:=I π.kd 0) rfl;have Q1:=cell_of H4.out 1 (v:=I π.kd 0) rfl;refine bodyPost_ret (v:=φ #[J #[I π.kd 0,I π.kd 0],U false]) (by simp[results,results224,results216,go_sem,Q0,Q1]) rfl ?_;exact⟨rfl,HA.upon nZ.out Ec.out,au.upon HA.out mN.out Ec.out⟩
  | some a =>
   have wa':=Uh a rfl;try dsimp only [ar.ix,ar.kd]
   first | go_enter func224,ntmps224 | go_enter func216,ntmps216
   go_wp2_with (first
    | (refine cj (π:=π) rfl _ rfl rfl K0.out ef ?_)
    | (refine bu (π:=π) rfl _ rfl rfl K2.out ee ?_))
   refine HW.mono ?_;rintro r w1⟨rfl,a1,b1⟩;have jm:=b1.aU HA.out hle K3.out;have Rs:=b1.aU HA.out (Nat.le_refl _) K0.out;obtain⟨m0,m1,nL,nK,mq⟩:=aR jm;have h2:=cq jm (I π.kd a.a) (I π.kd a.b);have kV:Hid (Below w.heap.size w1 _):=Below.two (Below.refl w.heap.size w1) hle (I π.kd a.a) (I π.kd a.b);obtain⟨q0,q1,yJ,yH,_⟩:=aR h2;have dF:w.heap.size≠w.heap.size+1+1+1:=by omega
   have d0:=cell_of (bL dF Rs (I π.kd a.a) (I π.kd a.b)) 0 jR;have nZ:=hid a1;have mN:Hid (au C w w1):=(au.aB HB.out HA.le).trans b1;have H2:Hid (_=_):=h2;have b1s:=b1.below.size;have HD:=OV (HA.upon a1 kV.out).does wa';clear mq jm a1 b1 HW h2 Rs dF;simp only[ar.sF];go_wp2_with fail;refine HD.mono ?_;rintro r w2⟨rfl,b2⟩;have dC:=Nat.le_trans (Nat.le_trans HB.size b1s) kV.size;have h3:=(b2.block _ (ad H2.out)).trans H2.out;obtain⟨p0,p1,Tm,TE,_⟩:=aR h3;have h4:=cq h3 (I π.kd (π.jd a).a) (I π.kd (π.jd a).b);obtain⟨s0,s1,Yl,X0,_⟩:=aR h4;have H5:Hid (_=_):=cq h4 (I π.kd (π.jd a).a) (I π.kd (π.jd a).b);have BM:Hid (Below w.heap.size w1 _):=Below.two (Below.two (kV.trans (b2.mono dC)) hle (I π.kd (π.jd a).a) (I π.kd (π.jd a).b)) hle (I π.kd (π.jd a).a) (I π.kd (π.jd a).b);clear b2 h3 h4 HD q0 q1 yJ yH m0 m1 nL nK d0;go_wp2_with fail;have Q0:=cell_of H5.out 0 (v:=I π.kd (π.jd a).a) rfl;have Q1:=cell_of H5.out 1 (v:=I π.kd (π.jd a).b) rfl;refine bodyPost_ret (v:=φ #[J #[I π.kd (π.jd a).a,I π.kd (π.jd a).b],U true]) (by simp[results,results224,results216,go_sem,Q0,Q1]) rfl ?_;exact⟨rfl,HA.upon nZ.out BM.out,au.upon HA.out mN.out BM.out⟩
end W
end
section
namespace W
variable {δ : Bool}{π : ar δ}
def pz(C:Cx)(π:ar δ)(T:eQ)(F:Fd)(b:Bool)(w:Wd)(es:List bV)(o:Option (Sp.Iv × Sp.Iv))(r:Ending)(w':Wd):Prop :=
 (match o with
   | some (x,y)=>r=υ (φ #[J #[I π.kd x.a,I π.kd x.b],J #[I π.kd y.a,I π.kd y.b],U true])
   | none=>∃i j k l:Int,r=υ (φ #[J #[I π.kd i,I π.kd j],J #[I π.kd k,I π.kd l],U false]))/\aK C π T (told π b F es) w'/\au C w w'
theorem L5(tl:TypeId)(ul:Value)(tr:TypeId)(ur:Value)(C:Cx)(π:ar δ)(T:eQ)(F:Fd)(b:Bool)(w:Wd)(e:Fin 8->Sp.Iv)(es:List bV)(h:aK C π T F w)
  (hs:nA C π T F b (σ tl ul) e es M) :
  Calls prog (π.ix 226 218) #[J (π.wk C b),σ tl ul,σ tr ur,J (π.aI (Y e))] w (pz C π T F b w es M):=by
 cases δ
 all_goals
  try dsimp only [ar.ix,ar.kd]at *
  obtain⟨k0,k1,k2,k3,kb⟩:=bB (w:=w) (o1:=L (π.wk C b) (π.ix 217 200)) (o2:=L (π.aI (Y e)) (π.ix 220 203)) (o3:=L #[I π.kd 0,I π.kd 0] (π.ix 131 126)) (o4:=L #[I π.kd 0,I π.kd 0] (π.ix 131 126)) (Below.refl _ _);have HW:=hs _ (h.call kb);have ef:=π.cy C b;have ee:=π.aD (Y e);generalize π.wk C b=wa at *;generalize π.aI (Y e)=xa at *;have K0:=hid k0;have K1:=hid k1;have K2:=hid k2;have K3:=hid k3;have HB:=hid kb;have HA:=hid h;have lO:w.heap.size<=w.heap.size+1+1:=by omega
  have iT:w.heap.size<=w.heap.size+1+1+1:=by omega
  have Ef:w.heap.size+1+1+1≠w.heap.size+1+1:=by omega
  have Ue:w.heap.size+1+1≠w.heap.size+1+1+1:=by omega
  clear h k0 k1 k2 k3 kb hs;try dsimp only [ar.ix,ar.kd]
  first | go_enter func226,ntmps226 | go_enter func218,ntmps218
  go_wp2_with (first
   | (refine cj (π:=π) rfl _ rfl rfl K0.out ef ?_)
   | (refine bu (π:=π) rfl _ rfl rfl K1.out ee ?_))
  refine HW.mono ?_;rintro r w1⟨rfl,a1,b1⟩;have lE:=b1.aU HA.out lO K2.out;have mM:=b1.aU HA.out iT K3.out;obtain⟨m0,m1,nL,nK,_⟩:=aR lE;have jQ:=cq lE (I π.kd 0) (I π.kd 0);have o6:=bL Ef mM (I π.kd 0) (I π.kd 0);have mN:Hid (au C w w1):=(au.aB HB.out HA.le).trans b1;have kV:Hid (Below w.heap.size w1 _):=Below.two (Below.refl w.heap.size w1) lO (I π.kd 0) (I π.kd 0);obtain⟨q0,q1,yJ,yH,_⟩:=aR jQ;obtain⟨p0,p1,Tm,TE,_⟩:=aR o6;have nZ:=hid a1;have Kf:=hid jQ;have Ol:=hid o6;clear a1 b1 HW lE mM jQ o6;simp only[ar.sF];go_wp2_with fail;generalize (w1.setCell ⟨w.heap.size+1+1,0,M⟩ (I π.kd 0)).setCell ⟨w.heap.size+1+1,1,M⟩ (I π.kd 0)=w2 at *;have Ei:Hid (((((w2.setCell ⟨w.heap.size+1+1,0,M⟩ (I π.kd 0)).setCell ⟨w.heap.size+1+1,1,M⟩ (I π.kd 0)).setCell ⟨w.heap.size+1+1+1,0,M⟩ (I π.kd 0)).setCell ⟨w.heap.size+1+1+1,1,M⟩ (I π.kd 0)).drew.heap[w.heap.size+1+1]?=Y (L #[I π.kd 0,I π.kd 0] (π.ix 131 126))):=bL Ue (cq Kf.out (I π.kd 0) (I π.kd 0)) (I π.kd 0) (I π.kd 0);have Rx:Hid (((((w2.setCell ⟨w.heap.size+1+1,0,M⟩ (I π.kd 0)).setCell ⟨w.heap.size+1+1,1,M⟩ (I π.kd 0)).setCell ⟨w.heap.size+1+1+1,0,M⟩ (I π.kd 0)).setCell ⟨w.heap.size+1+1+1,1,M⟩ (I π.kd 0)).drew.heap[w.heap.size+1+1+1]?=Y (L #[I π.kd 0,I π.kd 0] (π.ix 131 126))):=cq (bL Ef Ol.out (I π.kd 0) (I π.kd 0)) (I π.kd 0) (I π.kd 0);have xK:Hid (Below w.heap.size w1 ((((w2.setCell ⟨w.heap.size+1+1,0,M⟩ (I π.kd 0)).setCell ⟨w.heap.size+1+1,1,M⟩ (I π.kd 0)).setCell ⟨w.heap.size+1+1+1,0,M⟩ (I π.kd 0)).setCell ⟨w.heap.size+1+1+1,1,M⟩ (I π.kd 0)).drew):=(Below.two (Below.two kV.out lO (I π.kd 0) (I π.kd 0)) iT (I π.kd 0) (I π.kd 0)).drew
  go_region_with (fail)
  all_goals
   go_wp2_with fail;have Q0:=cell_of Ei.out 0 (v:=I π.kd 0) rfl;have Q1:=cell_of Ei.out 1 (v:=I π.kd 0) rfl;have Q2:=cell_of Rx.out 0 (v:=I π.kd 0) rfl;have Q3:=cell_of Rx.out 1 (v:=I π.kd 0) rfl;simp only[World.cell?_drew]at Q0 Q1 Q2 Q3;refine bodyPost_ret (v:=φ #[J #[I π.kd 0,I π.kd 0],J #[I π.kd 0,I π.kd 0],U false]) (by simp[results,results226,results218,go_sem,Q0,Q1,Q2,Q3]) rfl ?_;exact⟨⟨_,_,_,_,rfl⟩,HA.upon nZ.out xK.out,au.upon HA.out mN.out xK.out⟩
theorem Fm(tl:TypeId)(ul:Value)(tr:TypeId)(ur:Value)(C:Cx)(π:ar δ)(T:eQ)(F:Fd)(b:Bool)(w:Wd)(e:Fin 8->Sp.Iv)(es:List bV)(dp:List bV)(a:Sp.Iv)(h:aK C π T F w)
  (hs:nA C π T F b (σ tl ul) e es (Y a))
  (fK:nA C π T (told π b F es) b (σ tr ur) e dp M) :
  Calls prog (π.ix 226 218) #[J (π.wk C b),σ tl ul,σ tr ur,J (π.aI (Y e))] w (pz C π T F b w (es ++ dp) M):=by
 cases δ
 all_goals
  try dsimp only [ar.ix,ar.kd]at *
  obtain⟨k0,k1,k2,k3,kb⟩:=bB (w:=w) (o1:=L (π.wk C b) (π.ix 217 200)) (o2:=L (π.aI (Y e)) (π.ix 220 203)) (o3:=L #[I π.kd 0,I π.kd 0] (π.ix 131 126)) (o4:=L #[I π.kd 0,I π.kd 0] (π.ix 131 126)) (Below.refl _ _);have HW:=hs _ (h.call kb);have ef:=π.cy C b;have ee:=π.aD (Y e);have J4:=hid fK;unfold nA at J4;clear fK;generalize π.wk C b=wa at *;generalize π.aI (Y e)=xa at *;have K0:=hid k0;have K1:=hid k1;have K2:=hid k2;have K3:=hid k3;have HB:=hid kb;have HA:=hid h;have lO:w.heap.size<=w.heap.size+1+1:=by omega
  have iT:w.heap.size<=w.heap.size+1+1+1:=by omega
  have Ef:w.heap.size+1+1+1≠w.heap.size+1+1:=by omega
  have Ue:w.heap.size+1+1≠w.heap.size+1+1+1:=by omega
  clear h k0 k1 k2 k3 kb hs;try dsimp only [ar.ix,ar.kd]
  first | go_enter func226,ntmps226 | go_enter func218,ntmps218
  go_wp2_with (first
   | (refine cj (π:=π) rfl _ rfl rfl K0.out ef ?_)
   | (refine bu (π:=π) rfl _ rfl rfl K1.out ee ?_))
  refine HW.mono ?_;rintro r w1⟨rfl,a1,b1⟩;have lE:=b1.aU HA.out lO K2.out;have mM:=b1.aU HA.out iT K3.out;obtain⟨m0,m1,nL,nK,_⟩:=aR lE;have jQ:=cq lE (I π.kd a.a) (I π.kd a.b);have o6:=bL Ef mM (I π.kd a.a) (I π.kd a.b);have mN:Hid (au C w w1):=(au.aB HB.out HA.le).trans b1;have kV:Hid (Below w.heap.size w1 _):=Below.two (Below.refl w.heap.size w1) lO (I π.kd a.a) (I π.kd a.b);obtain⟨q0,q1,yJ,yH,_⟩:=aR jQ;have nZ:=hid a1;have Rs:=bL (show w.heap.size≠w.heap.size+1+1 by omega) (b1.aU HA.out (Nat.le_refl _) K0.out) (I π.kd a.a) (I π.kd a.b);have iC:=bL (show w.heap.size+1≠w.heap.size+1+1 by omega) (b1.aU HA.out (Nat.le_succ _) K1.out) (I π.kd a.a) (I π.kd a.b);have It:=hid Rs;have Ks:=hid iC;have Kf:=hid jQ;have Ol:=hid o6;have KG:=J4.out _ (HA.upon a1 kV.out);clear a1 b1 HW lE mM jQ o6 Rs iC J4;simp only[ar.sF];go_wp2_with (first
   | (refine cj (π:=π) rfl _ rfl rfl It.out ef ?_)
   | (refine bu (π:=π) rfl _ rfl rfl Ks.out ee ?_))
  refine KG.mono ?_;rintro r w3⟨rfl,a3,b3⟩;have xM:=b3.aU HA.out lO Kf.out;have Tn:=b3.aU HA.out iT Ol.out;obtain⟨n0,n1,nf0,nf1,_⟩:=aR Tn;have NF:=bL Ue xM (I π.kd 0) (I π.kd 0);have TB:=cq Tn (I π.kd 0) (I π.kd 0);obtain⟨r0,r1,rf0,rf1,_⟩:=aR NF;obtain⟨p0,p1,Tm,TE,_⟩:=aR TB;have HA3:=hid a3;have WS:Hid (au C w w3):=(au.upon HA.out mN.out kV.out).trans b3;have Ec:Hid (Below w.heap.size w3 _):=Below.two (Below.refl w.heap.size w3) iT (I π.kd 0) (I π.kd 0);clear Kf Ol;have Kf:=hid NF;have Ol:=hid TB;clear a3 b3 KG xM Tn NF TB q0 q1 yJ yH m0 m1 nL nK;try simp only[ar.sF]
  go_wp2_with fail;generalize (w3.setCell ⟨w.heap.size+1+1+1,0,M⟩ (I π.kd 0)).setCell ⟨w.heap.size+1+1+1,1,M⟩ (I π.kd 0)=w4 at *;have Ei:Hid (((((w4.setCell ⟨w.heap.size+1+1,0,M⟩ (I π.kd a.a)).setCell ⟨w.heap.size+1+1,1,M⟩ (I π.kd a.b)).setCell ⟨w.heap.size+1+1+1,0,M⟩ (I π.kd 0)).setCell ⟨w.heap.size+1+1+1,1,M⟩ (I π.kd 0)).drew.heap[w.heap.size+1+1]?=Y (L #[I π.kd a.a,I π.kd a.b] (π.ix 131 126))):=bL Ue (cq Kf.out (I π.kd a.a) (I π.kd a.b)) (I π.kd 0) (I π.kd 0);have Rx:Hid (((((w4.setCell ⟨w.heap.size+1+1,0,M⟩ (I π.kd a.a)).setCell ⟨w.heap.size+1+1,1,M⟩ (I π.kd a.b)).setCell ⟨w.heap.size+1+1+1,0,M⟩ (I π.kd 0)).setCell ⟨w.heap.size+1+1+1,1,M⟩ (I π.kd 0)).drew.heap[w.heap.size+1+1+1]?=Y (L #[I π.kd 0,I π.kd 0] (π.ix 131 126))):=cq (bL Ef Ol.out (I π.kd a.a) (I π.kd a.b)) (I π.kd 0) (I π.kd 0);have xK:Hid (Below w.heap.size w3 ((((w4.setCell ⟨w.heap.size+1+1,0,M⟩ (I π.kd a.a)).setCell ⟨w.heap.size+1+1,1,M⟩ (I π.kd a.b)).setCell ⟨w.heap.size+1+1+1,0,M⟩ (I π.kd 0)).setCell ⟨w.heap.size+1+1+1,1,M⟩ (I π.kd 0)).drew):=(Below.two (Below.two Ec.out lO (I π.kd a.a) (I π.kd a.b)) iT (I π.kd 0) (I π.kd 0)).drew
  go_region_with (fail)
  all_goals
   go_wp2_with fail;have Q0:=cell_of Ei.out 0 (v:=I π.kd a.a) rfl;have Q1:=cell_of Ei.out 1 (v:=I π.kd a.b) rfl;have Q2:=cell_of Rx.out 0 (v:=I π.kd 0) rfl;have Q3:=cell_of Rx.out 1 (v:=I π.kd 0) rfl;simp only[World.cell?_drew]at Q0 Q1 Q2 Q3;refine bodyPost_ret (v:=φ #[J #[I π.kd a.a,I π.kd a.b],J #[I π.kd 0,I π.kd 0],U false]) (by simp[results,results226,results218,go_sem,Q0,Q1,Q2,Q3]) rfl ?_;exact⟨⟨_,_,_,_,rfl⟩,by rw[aF];exact HA.upon HA3.out xK.out,au.upon HA.out WS.out xK.out⟩
theorem E6(tl:TypeId)(ul:Value)(tr:TypeId)(ur:Value)(C:Cx)(π:ar δ)(T:eQ)(F:Fd)(b:Bool)(w:Wd)(e:Fin 8->Sp.Iv)(es:List bV)(dp:List bV)(a c:Sp.Iv)(h:aK C π T F w)
  (hs:nA C π T F b (σ tl ul) e es (Y a))
  (fK:nA C π T (told π b F es) b (σ tr ur) e dp (Y c)) :
  Calls prog (π.ix 226 218) #[J (π.wk C b),σ tl ul,σ tr ur,J (π.aI (Y e))] w (pz C π T F b w (es ++ dp) (Y (a,c))):=by
 cases δ
 all_goals
  try dsimp only [ar.ix,ar.kd]at *
  obtain⟨k0,k1,k2,k3,kb⟩:=bB (w:=w) (o1:=L (π.wk C b) (π.ix 217 200)) (o2:=L (π.aI (Y e)) (π.ix 220 203)) (o3:=L #[I π.kd 0,I π.kd 0] (π.ix 131 126)) (o4:=L #[I π.kd 0,I π.kd 0] (π.ix 131 126)) (Below.refl _ _);have HW:=hs _ (h.call kb);have ef:=π.cy C b;have ee:=π.aD (Y e);have J4:=hid fK;unfold nA at J4;clear fK;generalize π.wk C b=wa at *;generalize π.aI (Y e)=xa at *;have K0:=hid k0;have K1:=hid k1;have K2:=hid k2;have K3:=hid k3;have HB:=hid kb;have HA:=hid h;have lO:w.heap.size<=w.heap.size+1+1:=by omega
  have iT:w.heap.size<=w.heap.size+1+1+1:=by omega
  have Ef:w.heap.size+1+1+1≠w.heap.size+1+1:=by omega
  have Ue:w.heap.size+1+1≠w.heap.size+1+1+1:=by omega
  clear h k0 k1 k2 k3 kb hs;try dsimp only [ar.ix,ar.kd]
  first | go_enter func226,ntmps226 | go_enter func218,ntmps218
  go_wp2_with (first
   | (refine cj (π:=π) rfl _ rfl rfl K0.out ef ?_)
   | (refine bu (π:=π) rfl _ rfl rfl K1.out ee ?_))
  refine HW.mono ?_;rintro r w1⟨rfl,a1,b1⟩;have lE:=b1.aU HA.out lO K2.out;have mM:=b1.aU HA.out iT K3.out;obtain⟨m0,m1,nL,nK,_⟩:=aR lE;have jQ:=cq lE (I π.kd a.a) (I π.kd a.b);have o6:=bL Ef mM (I π.kd a.a) (I π.kd a.b);have mN:Hid (au C w w1):=(au.aB HB.out HA.le).trans b1;have kV:Hid (Below w.heap.size w1 _):=Below.two (Below.refl w.heap.size w1) lO (I π.kd a.a) (I π.kd a.b);obtain⟨q0,q1,yJ,yH,_⟩:=aR jQ;have nZ:=hid a1;have Rs:=bL (show w.heap.size≠w.heap.size+1+1 by omega) (b1.aU HA.out (Nat.le_refl _) K0.out) (I π.kd a.a) (I π.kd a.b);have iC:=bL (show w.heap.size+1≠w.heap.size+1+1 by omega) (b1.aU HA.out (Nat.le_succ _) K1.out) (I π.kd a.a) (I π.kd a.b);have It:=hid Rs;have Ks:=hid iC;have Kf:=hid jQ;have Ol:=hid o6;have KG:=J4.out _ (HA.upon a1 kV.out);clear a1 b1 HW lE mM jQ o6 Rs iC J4;simp only[ar.sF];go_wp2_with (first
   | (refine cj (π:=π) rfl _ rfl rfl It.out ef ?_)
   | (refine bu (π:=π) rfl _ rfl rfl Ks.out ee ?_))
  refine KG.mono ?_;rintro r w3⟨rfl,a3,b3⟩;have xM:=b3.aU HA.out lO Kf.out;have Tn:=b3.aU HA.out iT Ol.out;obtain⟨n0,n1,nf0,nf1,_⟩:=aR Tn;have NF:=bL Ue xM (I π.kd c.a) (I π.kd c.b);have TB:=cq Tn (I π.kd c.a) (I π.kd c.b);obtain⟨r0,r1,rf0,rf1,_⟩:=aR NF;obtain⟨p0,p1,Tm,TE,_⟩:=aR TB;have HA3:=hid a3;have WS:Hid (au C w w3):=(au.upon HA.out mN.out kV.out).trans b3;have Ec:Hid (Below w.heap.size w3 _):=Below.two (Below.refl w.heap.size w3) iT (I π.kd c.a) (I π.kd c.b);clear Kf Ol;have Kf:=hid NF;have Ol:=hid TB;clear a3 b3 KG xM Tn NF TB q0 q1 yJ yH m0 m1 nL nK;try simp only[ar.sF]
  go_wp2_with fail;generalize (w3.setCell ⟨w.heap.size+1+1+1,0,M⟩ (I π.kd c.a)).setCell ⟨w.heap.size+1+1+1,1,M⟩ (I π.kd c.b)=w4 at *;have Ei:Hid (((((w4.setCell ⟨w.heap.size+1+1,0,M⟩ (I π.kd a.a)).setCell ⟨w.heap.size+1+1,1,M⟩ (I π.kd a.b)).setCell ⟨w.heap.size+1+1+1,0,M⟩ (I π.kd c.a)).setCell ⟨w.heap.size+1+1+1,1,M⟩ (I π.kd c.b)).drew.heap[w.heap.size+1+1]?=Y (L #[I π.kd a.a,I π.kd a.b] (π.ix 131 126))):=bL Ue (cq Kf.out (I π.kd a.a) (I π.kd a.b)) (I π.kd c.a) (I π.kd c.b);have Rx:Hid (((((w4.setCell ⟨w.heap.size+1+1,0,M⟩ (I π.kd a.a)).setCell ⟨w.heap.size+1+1,1,M⟩ (I π.kd a.b)).setCell ⟨w.heap.size+1+1+1,0,M⟩ (I π.kd c.a)).setCell ⟨w.heap.size+1+1+1,1,M⟩ (I π.kd c.b)).drew.heap[w.heap.size+1+1+1]?=Y (L #[I π.kd c.a,I π.kd c.b] (π.ix 131 126))):=cq (bL Ef Ol.out (I π.kd a.a) (I π.kd a.b)) (I π.kd c.a) (I π.kd c.b);have xK:Hid (Below w.heap.size w3 ((((w4.setCell ⟨w.heap.size+1+1,0,M⟩ (I π.kd a.a)).setCell ⟨w.heap.size+1+1,1,M⟩ (I π.kd a.b)).setCell ⟨w.heap.size+1+1+1,0,M⟩ (I π.kd c.a)).setCell ⟨w.heap.size+1+1+1,1,M⟩ (I π.kd c.b)).drew):=(Below.two (Below.two Ec.out lO (I π.kd a.a) (I π.kd a.b)) iT (I π.kd c.a) (I π.kd c.b)).drew
  go_region_with (fail)
  all_goals
   go_wp2_with fail;have Q0:=cell_of Ei.out 0 (v:=I π.kd a.a) rfl;have Q1:=cell_of Ei.out 1 (v:=I π.kd a.b) rfl;have Q2:=cell_of Rx.out 0 (v:=I π.kd c.a) rfl;have Q3:=cell_of Rx.out 1 (v:=I π.kd c.b) rfl;simp only[World.cell?_drew]at Q0 Q1 Q2 Q3;refine bodyPost_ret (v:=φ #[J #[I π.kd a.a,I π.kd a.b],J #[I π.kd c.a,I π.kd c.b],U true]) (by simp[results,results226,results218,go_sem,Q0,Q1,Q2,Q3]) rfl ?_;exact⟨rfl,by rw[aF];exact HA.upon HA3.out xK.out,au.upon HA.out WS.out xK.out⟩
end W
end
section
namespace W
variable {δ : Bool}{π : ar δ}
structure Ex(π:ar δ)(C:Cx)(F:Fd)(wa:Array Value)(k:Nat)(W:Wd):Prop where
 o:W.heap[k]?=Y (L wa (π.ix 217 200))
 f:W.heap[C.fb]?=Y (L #[Z (Y ⟨C.gf,0,M⟩) F.1.length C.cf,Z (Y ⟨C.gs,0,M⟩) F.2.length C.cs] (π.ix 215 198))
theorem Jd(C:Cx)(π:ar δ)(T:eQ)(F:Fd)(w:Wd)(h:aK C π T F w)(q n:Nat)(hq:F.2[q]?=Y n)(bad:Bool) :
  Calls prog (π.ix 199 195) #[J (π.wk C true),I O (q:Nat),U bad] w fun e w'=>e=υ (φ #[])/\aK C π T (cP (Dm π) F (.site (q:Int) bad)) w'/\au C w w':=by
 cases δ
 all_goals
  dsimp only [ar.ix,ar.kd]at *
  have hql:q<F.2.length:=(List.getElem?_eq_some_iff.1 hq).1;have aaK:((q:Nat):Int)<((F.2.length:Nat):Int):=by omega
  have uB:(π.wk C true)[7]?=Y (ρ (Y ⟨C.fb,0,M⟩)):=rfl;generalize π.wk C true=wa at *;have b0:ω w (w.alloc (L wa (π.ix 217 200))).drew:=(below_alloc1 w _).drew;have HA:Hid (aK C π T F (w.alloc (L wa (π.ix 217 200))).drew):=h.call b0;have HK:Hid (au C w (w.alloc (L wa (π.ix 217 200))).drew):=au.aB b0 h.le;have ho:(w.alloc (L wa (π.ix 217 200))).drew.heap[w.heap.size]?=Y (L wa (π.ix 217 200)):=heap_alloc_new w _;have H0:Hid (Ex π C F wa w.heap.size (w.alloc (L wa (π.ix 217 200))).drew):=⟨ho,HA.BX⟩;have HC:Hid (_=_):=pY hq;have HQ:=hid hq;have d7:=cell_of (heap_alloc_new w (L wa (π.ix 217 200))) 7 uB;have c1:(w.alloc (L wa (π.ix 217 200))).cell? ⟨C.gs,q,M⟩=Y (I O (n:Nat)):=cell_of HA.vo q HC.out;have f1:(w.alloc (L wa (π.ix 217 200))).frozen? ⟨C.gs,q,M⟩=false:=aw HA.vo q;have dF:w.heap.size≠C.gs:=by have:=h.lt.2.2.1;omega
  have XG:C.fb≠C.gs:=h.ne.2.1;have hle:((n:Nat):Int)=(n:Int):=rfl;clear h hq b0 ho hle;cases bad with
  | true =>
   first | go_enter func199,ntmps199 | go_enter func195,ntmps195
   go_wp2_with fail;generalize w.alloc (L wa (π.ix 217 200))=W at *;refine wp_region_held_drew (S:=fun w':Wd=>Ex π C F wa w.heap.size w') (by kernel_rfl) H0.out (fun aa=>?_);refine tq 0 (ρ (Y ⟨w.heap.size,7,M⟩)) aa ?_;refine tk 1 (ρ (Y ⟨C.fb,0,M⟩)) rfl (fun w' h=>by have d:=cell_of h.o 7 uB;go_simp) aa ?_;refine tq 2 (ρ (Y ⟨C.fb,0,M⟩)) aa ?_;refine tq 3 (ρ (Y ⟨C.fb,1,M⟩)) aa ?_;refine tk 4 (Z (Y ⟨C.gs,0,M⟩) F.2.length C.cs) rfl (fun w' h=>by have d:=cell_of h.f 1 rfl;go_simp) aa ?_;refine tq 5 (I O (q:Nat)) aa ?_;refine tq 6 (ρ (Y ⟨w.heap.size,7,M⟩)) aa ?_;refine tk 7 (ρ (Y ⟨C.fb,0,M⟩)) rfl (fun w' h=>by have d:=cell_of h.o 7 uB;go_simp) aa ?_;refine tq 8 (ρ (Y ⟨C.fb,0,M⟩)) aa ?_;refine tq 9 (ρ (Y ⟨C.fb,1,M⟩)) aa ?_;refine tk 10 (Z (Y ⟨C.gs,0,M⟩) F.2.length C.cs) rfl (fun w' h=>by have d:=cell_of h.f 1 rfl;go_simp) aa ?_;refine tq 11 (I O (q:Nat)) aa ?_;refine tq 12 (ρ (Y ⟨C.gs,q,M⟩)) aa ?_;refine tq 14 (I O 2) aa ?_;refine bD 13 fun K hK=>?_
   simp only[bp,fB];go_simp;refine hK.out _ _ aa (fun aa=>?_);clear hK K;refine tk 15 (I O (max ((n:Nat):Int) 2)) rfl (fun w' h=>by go_simp<;>split<;>omega) aa ?_;refine tq 16 (ρ (Y ⟨C.gs,q,M⟩)) aa ?_;refine bD 17 fun K hK=>?_
   simp only[bp,fB];go_simp;refine hK.out _ _ ⟨(Below.heap_setCell _ _ _ _ dF).trans aa.o,(Below.heap_setCell _ _ _ _ XG).trans aa.f⟩ (fun _=>?_);clear hK K;refine wpAnyH_done (by kernel_rfl) ?_ _;go_wp2_with fail;have R:=hid (HA.site HQ.out true);rw[show((max n (if true=true then 2 else 1):Nat):Int)=max ((n:Nat):Int) 2 by simp;omega]at R;go_returns;exact⟨rfl,R.1,HK.trans R.2⟩
  | false =>
   first | go_enter func199,ntmps199 | go_enter func195,ntmps195
   go_wp2_with fail;generalize w.alloc (L wa (π.ix 217 200))=W at *;refine wp_region_held_drew (S:=fun w':Wd=>Ex π C F wa w.heap.size w') (by kernel_rfl) H0.out (fun aa=>?_);refine tq 0 (ρ (Y ⟨w.heap.size,7,M⟩)) aa ?_;refine tk 1 (ρ (Y ⟨C.fb,0,M⟩)) rfl (fun w' h=>by have d:=cell_of h.o 7 uB;go_simp) aa ?_;refine tq 2 (ρ (Y ⟨C.fb,0,M⟩)) aa ?_;refine tq 3 (ρ (Y ⟨C.fb,1,M⟩)) aa ?_;refine tk 4 (Z (Y ⟨C.gs,0,M⟩) F.2.length C.cs) rfl (fun w' h=>by have d:=cell_of h.f 1 rfl;go_simp) aa ?_;refine tq 5 (I O (q:Nat)) aa ?_;refine tq 6 (ρ (Y ⟨w.heap.size,7,M⟩)) aa ?_;refine tk 7 (ρ (Y ⟨C.fb,0,M⟩)) rfl (fun w' h=>by have d:=cell_of h.o 7 uB;go_simp) aa ?_;refine tq 8 (ρ (Y ⟨C.fb,0,M⟩)) aa ?_;refine tq 9 (ρ (Y ⟨C.fb,1,M⟩)) aa ?_;refine tk 10 (Z (Y ⟨C.gs,0,M⟩) F.2.length C.cs) rfl (fun w' h=>by have d:=cell_of h.f 1 rfl;go_simp) aa ?_;refine tq 11 (I O (q:Nat)) aa ?_;refine tq 12 (ρ (Y ⟨C.gs,q,M⟩)) aa ?_;refine tq 14 (I O 1) aa ?_;refine bD 13 fun K hK=>?_
   simp only[bp,fB];go_simp;refine hK.out _ _ aa (fun aa=>?_);clear hK K;refine tk 15 (I O (max ((n:Nat):Int) 1)) rfl (fun w' h=>by go_simp<;>split<;>omega) aa ?_;refine tq 16 (ρ (Y ⟨C.gs,q,M⟩)) aa ?_;refine bD 17 fun K hK=>?_
   simp only[bp,fB];go_simp;refine hK.out _ _ ⟨(Below.heap_setCell _ _ _ _ dF).trans aa.o,(Below.heap_setCell _ _ _ _ XG).trans aa.f⟩ (fun _=>?_);clear hK K;refine wpAnyH_done (by kernel_rfl) ?_ _;go_wp2_with fail;have R:=hid (HA.site HQ.out false);rw[show((max n (if false=true then 2 else 1):Nat):Int)=max ((n:Nat):Int) 1 by simp;omega]at R;go_returns;exact⟨rfl,R.1,HK.trans R.2⟩
theorem F7(C:Cx)(q:Int)(bad:Bool)(w:Wd) :
  Calls prog (π.ix 199 195) #[J (π.wk C false),I O q,U bad] w fun e w'=>e=υ (φ #[])/\ω w w':=by
 cases δ
 all_goals
  dsimp only [ar.ix,ar.kd]at *
  have uB:(π.wk C false)[7]?=Y (ρ M):=rfl;generalize π.wk C false=wa at *;have d7:=cell_of (heap_alloc_new w (L wa (π.ix 217 200))) 7 uB
  first | go_enter func199,ntmps199 | go_enter func195,ntmps195
  go_wp2_with fail;go_returns;exact⟨rfl,by go_grown⟩
theorem fR(C:Cx)(π:ar δ)(T:eQ)(F:Fd)(b:Bool)(w:Wd)(h:aK C π T F w)(q:Int)(bad:Bool)(hr:cV b F [.site q bad]) :
  Calls prog (π.ix 199 195) #[J (π.wk C b),I O q,U bad] w fun e w'=>e=υ (φ #[])/\aK C π T (told π b F [.site q bad]) w'/\au C w w':=by
 cases b with
 | false =>refine(F7 C q bad w).mono ?_;rintro e w'⟨rfl,k⟩;exact⟨rfl,h.call k,au.aB k h.le⟩
 | true =>obtain⟨h1,h2⟩:=hr rfl _ (List.mem_singleton.2 rfl);obtain⟨n,rfl⟩:∃n:Nat,q=(n:Int):=⟨q.toNat,by omega⟩;exact Jd C π T F w h n _ (List.getElem?_eq_getElem (by simpa using h2)) bad
end W
end
end Go.Proofs.YtiopfihjmkfdmaaGreatDoor
