import Derived.Test.YtiopfihjmkfdmaaGreatDoorR24
namespace Go.Proofs.YtiopfihjmkfdmaaGreatDoor
open Go.Value renaming int→I,agg→J,bool→U,iface→σ,tuple→φ,slice→Z
open Option renaming some→Y,none→M
open Go.Obj renaming cells→L
open Go.IntKind renaming i64→O
open Go.Ending renaming returned→υ
open Go.Proofs.Tryz Sp
open Go.RowKit
set_option maxRecDepth 100000
set_option maxHeartbeats 16000000
section
namespace W
variable {δ : Bool}{π : ar δ}
theorem EH(tv:TypeId)(uv:Value)(C:Cx)(π:ar δ)(T:eQ)(F:Fd)(b:Bool)(w:Wd)(e:Fin 8->Sp.Iv)(es:List bV)(o:Option Sp.Iv)(h:aK C π T F w)
  (hs:∀W,aK C π T F W->Calls prog (π.ix 224 216) #[J (π.wk C b),J #[σ tv uv],J (π.aI (Y e))] W (gJ C π T F b W es o)) :
  Calls prog (π.ix 197 193) #[J (π.wk C b),σ 330 (J #[σ tv uv]),J (π.aI (Y e))] w (gJ C π T F b w es o):=by
 cases δ
 all_goals
  try dsimp only [ar.ix,ar.kd]at *
  have h1:=FU (J #[σ tv uv]);have h2:=tQ (J #[σ tv uv]);have h3:=Ep (J #[σ tv uv]);obtain⟨k0,k1,k2,k3,kb⟩:=bB (w:=w) (o1:=L (π.wk C b) (π.ix 217 200)) (o2:=L (π.aI (Y e)) (π.ix 220 203)) (o3:=L #[I π.kd 0,I π.kd 0] (π.ix 131 126)) (o4:=L #[σ tv uv] 330) (Below.refl _ _);have HW:=hs _ (h.call kb);have ef:=π.cy C b;have ee:=π.aD (Y e);generalize π.wk C b=wa at *;generalize π.aI (Y e)=xa at *;have K0:=hid k0;have K1:=hid k1;have K2:=hid k2;have HB:=hid kb;have HA:=hid h;have lO:w.heap.size<=w.heap.size+1+1:=by omega
  clear h k0 k1 k2 k3 kb hs;try dsimp only [ar.ix,ar.kd]
  first | go_enter func197,ntmps197 | go_enter func193,ntmps193
  go_wp2_with (first
   | (refine cj (π:=π) rfl _ rfl rfl K0.out ef ?_)
   | (refine bu (π:=π) rfl _ rfl rfl K1.out ee ?_))
  refine HW.mono ?_;rintro r w1⟨rfl,a1,b1⟩;have jm:=b1.aU HA.out lO K2.out;obtain⟨m0,m1,nL,nK,_⟩:=aR jm;have ye:=hid jm;have nZ:=hid a1;have mN:Hid (au C w w1):=(au.aB HB.out HA.le).trans b1;clear a1 b1 HW jm;cases o with
  | none =>have H2:Hid (_=_):=cq ye.out (I π.kd 0) (I π.kd 0);have kV:Hid (Below w.heap.size w1 _):=Below.two (Below.refl w.heap.size w1) lO (I π.kd 0) (I π.kd 0);simp only[ar.sF];go_wp2_with fail;have Q0:=cell_of H2.out 0 (v:=I π.kd 0) rfl;have Q1:=cell_of H2.out 1 (v:=I π.kd 0) rfl;refine bodyPost_ret (v:=φ #[J #[I π.kd 0,I π.kd 0],U false]) (by simp[results,results197,results193,go_sem,Q0,Q1]) rfl ?_;exact⟨rfl,HA.upon nZ.out kV.out,au.upon HA.out mN.out kV.out⟩
  | some z =>have H2:Hid (_=_):=cq ye.out (I π.kd z.a) (I π.kd z.b);have kV:Hid (Below w.heap.size w1 _):=Below.two (Below.refl w.heap.size w1) lO (I π.kd z.a) (I π.kd z.b);simp only[ar.sF];go_wp2_with fail;have Q0:=cell_of H2.out 0 (v:=I π.kd z.a) rfl;have Q1:=cell_of H2.out 1 (v:=I π.kd z.b) rfl;refine bodyPost_ret (v:=φ #[J #[I π.kd z.a,I π.kd z.b],U true]) (by simp[results,results197,results193,go_sem,Q0,Q1]) rfl ?_;exact⟨rfl,HA.upon nZ.out kV.out,au.upon HA.out mN.out kV.out⟩
theorem mT(k:Nat)(q:Int)(tl:TypeId)(ul:Value)(tr:TypeId)(ur:Value)(C:Cx)(π:ar δ)(T:eQ)(F:Fd)(b:Bool)(w:Wd)(e:Fin 8->Sp.Iv)(es:List bV)(o:Option Sp.Iv)(h:aK C π T F w)
  (hs:∀W,aK C π T F W->Calls prog (π.ix 225 217) #[J (π.wk C b),J #[I O (k:Nat),I O q,σ tl ul,σ tr ur],J (π.aI (Y e))] W (gJ C π T F b W es o)) :
  Calls prog (π.ix 197 193) #[J (π.wk C b),σ 334 (J #[I O (k:Nat),I O q,σ tl ul,σ tr ur]),J (π.aI (Y e))] w (gJ C π T F b w es o):=by
 cases δ
 all_goals
  try dsimp only [ar.ix,ar.kd]at *
  have h1:=F8 (J #[I O (k:Nat),I O q,σ tl ul,σ tr ur]);have h2:=oY (J #[I O (k:Nat),I O q,σ tl ul,σ tr ur]);have h3:=FF (J #[I O (k:Nat),I O q,σ tl ul,σ tr ur]);have h4:=Fu (J #[I O (k:Nat),I O q,σ tl ul,σ tr ur]);obtain⟨k0,k1,k2,k3,kb⟩:=bB (w:=w) (o1:=L (π.wk C b) (π.ix 217 200)) (o2:=L (π.aI (Y e)) (π.ix 220 203)) (o3:=L #[I π.kd 0,I π.kd 0] (π.ix 131 126)) (o4:=L #[I O (k:Nat),I O q,σ tl ul,σ tr ur] 334) (Below.refl _ _);have HW:=hs _ (h.call kb);have ef:=π.cy C b;have ee:=π.aD (Y e);generalize π.wk C b=wa at *;generalize π.aI (Y e)=xa at *;have K0:=hid k0;have K1:=hid k1;have K2:=hid k2;have HB:=hid kb;have HA:=hid h;have lO:w.heap.size<=w.heap.size+1+1:=by omega
  clear h k0 k1 k2 k3 kb hs;try dsimp only [ar.ix,ar.kd]
  first | go_enter func197,ntmps197 | go_enter func193,ntmps193
  go_wp2_with (first
   | (refine cj (π:=π) rfl _ rfl rfl K0.out ef ?_)
   | (refine bu (π:=π) rfl _ rfl rfl K1.out ee ?_))
  refine HW.mono ?_;rintro r w1⟨rfl,a1,b1⟩;have jm:=b1.aU HA.out lO K2.out;obtain⟨m0,m1,nL,nK,_⟩:=aR jm;have ye:=hid jm;have nZ:=hid a1;have mN:Hid (au C w w1):=(au.aB HB.out HA.le).trans b1;clear a1 b1 HW jm;cases o with
  | none =>have H2:Hid (_=_):=cq ye.out (I π.kd 0) (I π.kd 0);have kV:Hid (Below w.heap.size w1 _):=Below.two (Below.refl w.heap.size w1) lO (I π.kd 0) (I π.kd 0);simp only[ar.sF];go_wp2_with fail;have Q0:=cell_of H2.out 0 (v:=I π.kd 0) rfl;have Q1:=cell_of H2.out 1 (v:=I π.kd 0) rfl;refine bodyPost_ret (v:=φ #[J #[I π.kd 0,I π.kd 0],U false]) (by simp[results,results197,results193,go_sem,Q0,Q1]) rfl ?_;exact⟨rfl,HA.upon nZ.out kV.out,au.upon HA.out mN.out kV.out⟩
  | some z =>have H2:Hid (_=_):=cq ye.out (I π.kd z.a) (I π.kd z.b);have kV:Hid (Below w.heap.size w1 _):=Below.two (Below.refl w.heap.size w1) lO (I π.kd z.a) (I π.kd z.b);simp only[ar.sF];go_wp2_with fail;have Q0:=cell_of H2.out 0 (v:=I π.kd z.a) rfl;have Q1:=cell_of H2.out 1 (v:=I π.kd z.b) rfl;refine bodyPost_ret (v:=φ #[J #[I π.kd z.a,I π.kd z.b],U true]) (by simp[results,results197,results193,go_sem,Q0,Q1]) rfl ?_;exact⟨rfl,HA.upon nZ.out kV.out,au.upon HA.out mN.out kV.out⟩
theorem SV(tv:TypeId)(uv:Value)(x:Sp.Sm)(ct:Sp.Ct)(hx:wK x)(hs:nQ π (σ tv uv) x ct):nQ π (σ 330 (J #[σ tv uv])) (.neg x) ct:=by intro C π T F b w e h he hr;exact EH tv uv C π T F b w e _ _ h fun W hW=>jW tv uv C π T F b W e _ _ hW (fun W2 Ok=>hs C π T F b W2 e Ok he hr) (fun a ha=>jz (K:=Kr π) x hx ct e he a ha)
theorem CE(tl:TypeId)(ul:Value)(tr:TypeId)(ur:Value)(x y:Sp.Sm)(ct aX:Sp.Ct)(hs:nQ π (σ tl ul) x ct)(df:nQ π (σ tr ur) y aX)
  (C:Cx) (π:ar δ) (T:eQ) (F:Fd) (b:Bool) (e:Fin 8->Sp.Iv) (he:∀k,π.Wv (e k)) :
  (∀es,Sp.dt (Dm π) x ct e=(es,M)->cV b F es->lj C π T F b (σ tl ul) (σ tr ur) e es M) /\
  (∀es a dp,Sp.dt (Dm π) x ct e=(es,Y a)->Sp.dt (Dm π) y aX e=(dp,M)->cV b F (es ++ dp)->lj C π T F b (σ tl ul) (σ tr ur) e (es ++ dp) M) /\
  (∀es a dp c,Sp.dt (Dm π) x ct e=(es,Y a)->Sp.dt (Dm π) y aX e=(dp,Y c)->cV b F (es ++ dp)->lj C π T F b (σ tl ul) (σ tr ur) e (es ++ dp) (Y (a,c))):=by
 refine⟨fun es h1 hr W hW=>?_,fun es a dp h1 h2 hr W hW=>?_,fun es a dp c h1 h2 hr W hW=>?_⟩
 ·refine L5 tl ul tr ur C π T F b W e es hW (fun W2 Ok=>?_)
  have:=hs C π T F b W2 e Ok he (by rw[h1];exact hr);rw[h1]at this;exact this
 ·refine Fm tl ul tr ur C π T F b W e es dp a hW (fun W2 Ok=>?_) (fun W2 Ok=>?_)
  ·have:=hs C π T F b W2 e Ok he (by rw[h1];exact hr.left)
   rw[h1]at this;exact this
  ·have:=df C π T (told π b F es) b W2 e Ok he (by rw[h2];exact hr.right)
   rw[h2]at this;exact this
 ·refine E6 tl ul tr ur C π T F b W e es dp a c hW (fun W2 Ok=>?_) (fun W2 Ok=>?_)
  ·have:=hs C π T F b W2 e Ok he (by rw[h1];exact hr.left)
   rw[h1]at this;exact this
  ·have:=df C π T (told π b F es) b W2 e Ok he (by rw[h2];exact hr.right)
   rw[h2]at this;exact this
theorem LL(k:Nat)(hk:k<5)(q:Int)(tl:TypeId)(ul:Value)(tr:TypeId)(ur:Value)(x y:Sp.Sm)(ct:Sp.Ct)(hq:3<=k->q=(Sp.cS x ct).2)(hx:wK x)(hy:wK y)
  (hs:nQ π (σ tl ul) x ct) (df:nQ π (σ tr ur) y (if 3<=k then Sp.aJ (Sp.cS x ct) else Sp.cS x ct)) :
  nQ π (σ 334 (J #[I O (k:Nat),I O q,σ tl ul,σ tr ur])) (.bin k x y) ct:=by
 intro C π T F b w e h he hr;obtain⟨s1,s2,s3⟩:=CE tl ul tr ur x y ct _ hs df C π T F b e he;have wx:=jz (K:=Kr π) x hx ct e he;have wy:=jz (K:=Kr π) y hy (if 3<=k then Sp.aJ (Sp.cS x ct) else Sp.cS x ct) e he;cases ex:Sp.dt (Dm π) x ct e with
 | mk es o =>
  rw[ex]at wx;cases o with
  | none =>have E:=Sp.vz (Dm π) k x y ct e es ex;rw[E]at hr ⊢;exact mT k q tl ul tr ur C π T F b w e _ _ h fun W hW=>y7 k q tl ul tr ur C π T F b W e es hW (s1 es ex hr)
  | some a =>
   cases ey:Sp.dt (Dm π) y (if 3<=k then Sp.aJ (Sp.cS x ct) else Sp.cS x ct) e with
   | mk dp o2 =>
    rw[ey]at wy;cases o2 with
    | none =>have E:=Sp.sR (Dm π) k x y ct e es a dp ex ey;rw[E]at hr ⊢;exact mT k q tl ul tr ur C π T F b w e _ _ h fun W hW=>y7 k q tl ul tr ur C π T F b W e (es ++ dp) hW (s2 es a dp ex ey hr)
    | some c =>
     by_cases h3:3<=k
     ·have E:=LV (Dm π) k x y ct e es a dp c ex ey h3
      rw[<-hq h3]at E;rw[E]at hr ⊢;exact mT k q tl ul tr ur C π T F b w e _ _ h fun W hW=>Cq k hk h3 q tl ul tr ur C π T F b W e (es ++ dp) a c (wx a rfl) (wy c rfl) hW (s3 es a dp c ex ey hr.left) hr.right
     ·have E:=MJ (Dm π) k x y ct e es a dp c ex ey h3
      rw[E]at hr ⊢;exact mT k q tl ul tr ur C π T F b w e _ _ h fun W hW=>A5 k hk h3 q tl ul tr ur C π T F b W e (es ++ dp) a c (wx a rfl) (wy c rfl) hW (s3 es a dp c ex ey hr)
end W
end
section
namespace W
variable {δ : Bool}{π : ar δ}
def EU(_:ar δ)(vl vr:Value)(k:Nat)(x y:Sp.Sm)(ct:Sp.Ct):Prop :=
 ∀(C:Cx) (π:ar δ) (T:eQ) (F:Fd) (b:Bool) (w:Wd) (s:ST),aK C π T F w->Sp.Wf (Kr π) s->cV b F (Sp.dq (Dm π) k x y ct s).1 ->
  Calls prog (π.ix 198 194) #[J (π.wk C b),J #[I O (k:Nat),vl,vr],J (π.aI s)] w (fZ C π T F b w (Sp.dq (Dm π) k x y ct s).1 (Sp.dq (Dm π) k x y ct s).2.1 (Sp.dq (Dm π) k x y ct s).2.2)
theorem u7(k:Nat)(hk:k<6)(tl:TypeId)(ul:Value)(tr:TypeId)(ur:Value)(x y:Sp.Sm)(ct:Sp.Ct)(hx:wK x)(hy:wK y)(sx:km (σ tl ul) x)(sy:km (σ tr ur) y)
  (hs:nQ π (σ tl ul) x ct) (df:nQ π (σ tr ur) y (Sp.cS x ct)):EU π (σ tl ul) (σ tr ur) k x y ct:=by
 intro C π T F b w s h hw hr;cases s with
 | none=>exact I3 k _ _ C π T F b w h
 | some e =>
  have he:=hw e rfl
  suffices H:∀A:List bV × ST × ST,Sp.dq (Dm π) k x y ct (Y e)=A->cV b F A.1->Calls prog (π.ix 198 194) #[J (π.wk C b),J #[I O (k:Nat),σ tl ul,σ tr ur],J (π.aI (Y e))] w (fZ C π T F b w A.1 A.2.1 A.2.2) from H _ rfl hr
  intro A hA hr;obtain⟨s1,s2,s3⟩:=CE tl ul tr ur x y ct _ hs df C π T F b e he;have wx:=jz (K:=Kr π) x hx ct e he;have wy:=jz (K:=Kr π) y hy (Sp.cS x ct) e he;cases ex:Sp.dt (Dm π) x ct e with
  | mk es o =>
   rw[ex]at wx;cases o with
   | none =>have E:=Sw (Dm π) k x y ct e es ex;obtain rfl:=hA.symm.trans E;exact GD k tl ul tr ur C π T F b w e es h (s1 es ex hr)
   | some a =>
    cases ey:Sp.dt (Dm π) y (Sp.cS x ct) e with
    | mk dp o2 =>
     rw[ey]at wy;cases o2 with
     | none =>have E:=Si (Dm π) k x y ct e es a dp ex ey;obtain rfl:=hA.symm.trans E;exact GD k tl ul tr ur C π T F b w e (es ++ dp) h (s2 es a dp ex ey hr)
     | some c =>have E:=SE (Dm π) k x y ct e es a dp c ex ey;obtain rfl:=hA.symm.trans E;exact Mz (π:=π) k hk tl ul tr ur x y sx sy a c (wx a rfl) (wy c rfl) C π T F b w e he (es ++ dp) h (s3 es a dp c ex ey hr) _ _ rfl rfl
end W
end
section
namespace W
variable {δ : Bool}{π : ar δ}
theorem B9(C:Cx)(b:Bool)(w:Wd) :
  Calls prog (π.ix 244 241) #[J (π.wk C b)] w fun e w'=>e=υ (J (π.wk C false))/\ω w w':=by
 cases δ
 all_goals
  try dsimp only [ar.ix,ar.kd]at *
  unfold ar.wk ar.yi;simp only[Bool.false_eq_true,if_false];generalize (if b=true then Y (⟨C.fb,0,M⟩:Addr) else M)=f;try dsimp only [ar.ix,ar.kd]
  first | go_enter func244,ntmps244 | go_enter func241,ntmps241
  go_wp2_with fail;go_returns;exact⟨rfl,by go_grown⟩
theorem CM(p:Int)(k:Nat)(tv:TypeId)(uv:Value)(C:Cx)(π:ar δ)(T:eQ)(F:Fd)(b:Bool)(w:Wd)(e:Fin 8->Sp.Iv)(es:List bV)(u:ST)(h:aK C π T F w)
  (hs:∀W,au C w W->aK C π T F W->Calls prog (π.ix 158 153) #[J (π.wk C b),J #[I O p,I O (k:Nat),σ tv uv],J (π.aI (Y e))] W (fE C π T F b W es u)) :
  Calls prog (π.ix 115 112) #[J (π.wk C b),σ 279 (J #[I O p,I O (k:Nat),σ tv uv]),J (π.aI (Y e))] w (fE C π T F b w es u):=by
 cases δ
 all_goals
  try dsimp only [ar.ix,ar.kd]at *
  have h1:=R7 (J #[I O p,I O (k:Nat),σ tv uv]);obtain⟨k0,k1,k2,k3,kb⟩:=bB (w:=w) (o1:=L (π.wk C b) (π.ix 217 200)) (o2:=L (π.aI (Y e)) (π.ix 220 203)) (o3:=L π.zS (π.ix 220 203)) (o4:=L #[I O p,I O (k:Nat),σ tv uv] 279) (Below.refl _ _);have HW:=hs _ (au.aB kb h.le) (h.call kb);have ef:=π.cy C b;have ee:=π.aD (Y e);have lD:=π.aD u;have BY:=π.aV u;unfold fE at HW;generalize π.wk C b=wa at *;generalize π.aI (Y e)=xa at *;generalize Ic:π.aI u=uu at *;have Kn:=hid Ic;have K0:=hid k0;have K1:=hid k1;have K2:=hid k2;have HB:=hid kb;have HA:=hid h;have l2:w.heap.size<=w.heap.size+1+1:=by omega
  clear h hs k0 k1 k2 k3 kb Ic;try dsimp only [ar.ix,ar.kd]
  first | go_enter func115,ntmps115 | go_enter func112,ntmps112
  go_wp2_with (first
   | (refine cj (π:=π) rfl _ rfl rfl (c:=wa) (by exact K0.out) ef ?_)
   | (refine bu (π:=π) rfl _ rfl rfl (c:=xa) (by exact K1.out) ee ?_))
  refine HW.mono ?_;rintro r w1⟨rfl,a1,b1⟩;have jm:=b1.aU HA.out l2 K2.out;have ye:=hid jm;have iz:Hid (_=_):=ao jm (d:=uu) (by rw[lD];rfl);have fF:Hid (Below w.heap.size w1 _):=aq (b:=w.heap.size+1+1) l2 uu.toList 0 w1 _ (Below.refl _ _);have nZ:=hid a1;have mN:Hid (au C w w1):=(au.aB HB.out HA.le).trans b1;clear a1 b1 HW jm;go_wp2_with (first
   | (refine bT (π:=π) rfl _ _ rfl rfl rfl ye.out rfl lD BY ?_))
  refine bodyPost_ret (aM rfl _ _ rfl iz.out lD) rfl ⟨by rw[Kn.out],HA.upon nZ.out fF.out,au.upon HA.out mN.out fF.out⟩
theorem DE(p q:Int)(k:Nat)(tl:TypeId)(ul:Value)(tr:TypeId)(ur:Value)(C:Cx)(π:ar δ)(T:eQ)(F:Fd)(b:Bool)(w:Wd)(e:Fin 8->Sp.Iv)(es:List bV)(u:ST)(h:aK C π T F w)
  (hs:∀W,au C w W->aK C π T F W->Calls prog (π.ix 159 154) #[J (π.wk C b),J #[I O p,I O q,I O (k:Nat),σ tl ul,σ tr ur],J (π.aI (Y e))] W (fE C π T F b W es u)) :
  Calls prog (π.ix 115 112) #[J (π.wk C b),σ 287 (J #[I O p,I O q,I O (k:Nat),σ tl ul,σ tr ur]),J (π.aI (Y e))] w (fE C π T F b w es u):=by
 cases δ
 all_goals
  try dsimp only [ar.ix,ar.kd]at *
  have h1:=S7 (J #[I O p,I O q,I O (k:Nat),σ tl ul,σ tr ur]);have h2:=RI (J #[I O p,I O q,I O (k:Nat),σ tl ul,σ tr ur]);have h3:=SG (J #[I O p,I O q,I O (k:Nat),σ tl ul,σ tr ur]);obtain⟨k0,k1,k2,k3,kb⟩:=bB (w:=w) (o1:=L (π.wk C b) (π.ix 217 200)) (o2:=L (π.aI (Y e)) (π.ix 220 203)) (o3:=L π.zS (π.ix 220 203)) (o4:=L #[I O p,I O q,I O (k:Nat),σ tl ul,σ tr ur] 287) (Below.refl _ _);have HW:=hs _ (au.aB kb h.le) (h.call kb);have ef:=π.cy C b;have ee:=π.aD (Y e);have lD:=π.aD u;have BY:=π.aV u;unfold fE at HW;generalize π.wk C b=wa at *;generalize π.aI (Y e)=xa at *;generalize Ic:π.aI u=uu at *;have Kn:=hid Ic;have K0:=hid k0;have K1:=hid k1;have K2:=hid k2;have HB:=hid kb;have HA:=hid h;have l2:w.heap.size<=w.heap.size+1+1:=by omega
  clear h hs k0 k1 k2 k3 kb Ic;try dsimp only [ar.ix,ar.kd]
  first | go_enter func115,ntmps115 | go_enter func112,ntmps112
  go_wp2_with (first
   | (refine cj (π:=π) rfl _ rfl rfl (c:=wa) (by exact K0.out) ef ?_)
   | (refine bu (π:=π) rfl _ rfl rfl (c:=xa) (by exact K1.out) ee ?_))
  refine HW.mono ?_;rintro r w1⟨rfl,a1,b1⟩;have jm:=b1.aU HA.out l2 K2.out;have ye:=hid jm;have iz:Hid (_=_):=ao jm (d:=uu) (by rw[lD];rfl);have fF:Hid (Below w.heap.size w1 _):=aq (b:=w.heap.size+1+1) l2 uu.toList 0 w1 _ (Below.refl _ _);have nZ:=hid a1;have mN:Hid (au C w w1):=(au.aB HB.out HA.le).trans b1;clear a1 b1 HW jm;go_wp2_with (first
   | (refine bT (π:=π) rfl _ _ rfl rfl rfl ye.out rfl lD BY ?_))
  refine bodyPost_ret (aM rfl _ _ rfl iz.out lD) rfl ⟨by rw[Kn.out],HA.upon nZ.out fF.out,au.upon HA.out mN.out fF.out⟩
theorem Ht(p:Int)(k:Nat)(tl:TypeId)(ul:Value)(tr:TypeId)(ur:Value)(av:Option Addr)(nv cv:Nat)(ae:Option Addr)(ne ce:Nat)(hb:Bool)(C:Cx)(π:ar δ)(T:eQ)(F:Fd)(b:Bool)(w:Wd)(e:Fin 8->Sp.Iv)(es:List bV)(u:ST)(h:aK C π T F w)
  (hs:∀W,au C w W->aK C π T F W->Calls prog (π.ix 160 155) #[J (π.wk C b),J #[I O p,I O (k:Nat),σ tl ul,σ tr ur,Z av nv cv,Z ae ne ce,U hb],J (π.aI (Y e))] W (fE C π T F b W es u)) :
  Calls prog (π.ix 115 112) #[J (π.wk C b),σ 290 (J #[I O p,I O (k:Nat),σ tl ul,σ tr ur,Z av nv cv,Z ae ne ce,U hb]),J (π.aI (Y e))] w (fE C π T F b w es u):=by
 cases δ
 all_goals
  try dsimp only [ar.ix,ar.kd]at *
  have h1:=SK (J #[I O p,I O (k:Nat),σ tl ul,σ tr ur,Z av nv cv,Z ae ne ce,U hb]);have h2:=RJ (J #[I O p,I O (k:Nat),σ tl ul,σ tr ur,Z av nv cv,Z ae ne ce,U hb]);have h3:=S2 (J #[I O p,I O (k:Nat),σ tl ul,σ tr ur,Z av nv cv,Z ae ne ce,U hb]);have h4:=SZ (J #[I O p,I O (k:Nat),σ tl ul,σ tr ur,Z av nv cv,Z ae ne ce,U hb]);obtain⟨k0,k1,k2,k3,kb⟩:=bB (w:=w) (o1:=L (π.wk C b) (π.ix 217 200)) (o2:=L (π.aI (Y e)) (π.ix 220 203)) (o3:=L π.zS (π.ix 220 203)) (o4:=L #[I O p,I O (k:Nat),σ tl ul,σ tr ur,Z av nv cv,Z ae ne ce,U hb] 290) (Below.refl _ _);have HW:=hs _ (au.aB kb h.le) (h.call kb);have ef:=π.cy C b;have ee:=π.aD (Y e);have lD:=π.aD u;have BY:=π.aV u;unfold fE at HW;generalize π.wk C b=wa at *;generalize π.aI (Y e)=xa at *;generalize Ic:π.aI u=uu at *;have Kn:=hid Ic;have K0:=hid k0;have K1:=hid k1;have K2:=hid k2;have HB:=hid kb;have HA:=hid h;have l2:w.heap.size<=w.heap.size+1+1:=by omega
  clear h hs k0 k1 k2 k3 kb Ic;try dsimp only [ar.ix,ar.kd]
  first | go_enter func115,ntmps115 | go_enter func112,ntmps112
  go_wp2_with (first
   | (refine cj (π:=π) rfl _ rfl rfl (c:=wa) (by exact K0.out) ef ?_)
   | (refine bu (π:=π) rfl _ rfl rfl (c:=xa) (by exact K1.out) ee ?_))
  refine HW.mono ?_;rintro r w1⟨rfl,a1,b1⟩;have jm:=b1.aU HA.out l2 K2.out;have ye:=hid jm;have iz:Hid (_=_):=ao jm (d:=uu) (by rw[lD];rfl);have fF:Hid (Below w.heap.size w1 _):=aq (b:=w.heap.size+1+1) l2 uu.toList 0 w1 _ (Below.refl _ _);have nZ:=hid a1;have mN:Hid (au C w w1):=(au.aB HB.out HA.le).trans b1;clear a1 b1 HW jm;go_wp2_with (first
   | (refine bT (π:=π) rfl _ _ rfl rfl rfl ye.out rfl lD BY ?_))
  refine bodyPost_ret (aM rfl _ _ rfl iz.out lD) rfl ⟨by rw[Kn.out],HA.upon nZ.out fF.out,au.upon HA.out mN.out fF.out⟩
theorem EJ(p:Int)(k:Nat)(tl:TypeId)(ul:Value)(tr:TypeId)(ur:Value)(av:Option Addr)(nv cv:Nat)(C:Cx)(π:ar δ)(T:eQ)(F:Fd)(b:Bool)(w:Wd)(e:Fin 8->Sp.Iv)(es:List bV)(u:ST)(h:aK C π T F w)
  (hs:∀W,au C w W->aK C π T F W->Calls prog (π.ix 161 156) #[J (π.wk C b),J #[I O p,I O (k:Nat),σ tl ul,σ tr ur,Z av nv cv],J (π.aI (Y e))] W (fE C π T F b W es u)) :
  Calls prog (π.ix 115 112) #[J (π.wk C b),σ 293 (J #[I O p,I O (k:Nat),σ tl ul,σ tr ur,Z av nv cv]),J (π.aI (Y e))] w (fE C π T F b w es u):=by
 cases δ
 all_goals
  try dsimp only [ar.ix,ar.kd]at *
  have h1:=SR (J #[I O p,I O (k:Nat),σ tl ul,σ tr ur,Z av nv cv]);have h2:=R4 (J #[I O p,I O (k:Nat),σ tl ul,σ tr ur,Z av nv cv]);have h3:=RP (J #[I O p,I O (k:Nat),σ tl ul,σ tr ur,Z av nv cv]);have h4:=SN (J #[I O p,I O (k:Nat),σ tl ul,σ tr ur,Z av nv cv]);have h5:=SU (J #[I O p,I O (k:Nat),σ tl ul,σ tr ur,Z av nv cv]);obtain⟨k0,k1,k2,k3,kb⟩:=bB (w:=w) (o1:=L (π.wk C b) (π.ix 217 200)) (o2:=L (π.aI (Y e)) (π.ix 220 203)) (o3:=L π.zS (π.ix 220 203)) (o4:=L #[I O p,I O (k:Nat),σ tl ul,σ tr ur,Z av nv cv] 293) (Below.refl _ _);have HW:=hs _ (au.aB kb h.le) (h.call kb);have ef:=π.cy C b;have ee:=π.aD (Y e);have lD:=π.aD u;have BY:=π.aV u;unfold fE at HW;generalize π.wk C b=wa at *;generalize π.aI (Y e)=xa at *;generalize Ic:π.aI u=uu at *;have Kn:=hid Ic;have K0:=hid k0;have K1:=hid k1;have K2:=hid k2;have HB:=hid kb;have HA:=hid h;have l2:w.heap.size<=w.heap.size+1+1:=by omega
  clear h hs k0 k1 k2 k3 kb Ic;try dsimp only [ar.ix,ar.kd]
  first | go_enter func115,ntmps115 | go_enter func112,ntmps112
  go_wp2_with (first
   | (refine cj (π:=π) rfl _ rfl rfl (c:=wa) (by exact K0.out) ef ?_)
   | (refine bu (π:=π) rfl _ rfl rfl (c:=xa) (by exact K1.out) ee ?_))
  refine HW.mono ?_;rintro r w1⟨rfl,a1,b1⟩;have jm:=b1.aU HA.out l2 K2.out;have ye:=hid jm;have iz:Hid (_=_):=ao jm (d:=uu) (by rw[lD];rfl);have fF:Hid (Below w.heap.size w1 _):=aq (b:=w.heap.size+1+1) l2 uu.toList 0 w1 _ (Below.refl _ _);have nZ:=hid a1;have mN:Hid (au C w w1):=(au.aB HB.out HA.le).trans b1;clear a1 b1 HW jm;go_wp2_with (first
   | (refine bT (π:=π) rfl _ _ rfl rfl rfl ye.out rfl lD BY ?_))
  refine bodyPost_ret (aM rfl _ _ rfl iz.out lD) rfl ⟨by rw[Kn.out],HA.upon nZ.out fF.out,au.upon HA.out mN.out fF.out⟩
end W
end
section
namespace W
variable {δ : Bool}{π : ar δ}
theorem FD(uD:Value)(g:Sp.Iv->Sp.Iv->Sp.Iv)(xs ys:List Sp.Iv)(w:Wd)(hx:xs.length=8)(hy:ys.length=8)(Ud:∀x∈xs,π.Wv x)(TM:∀y∈ys,π.Wv y)
  (xL:∀W x y,ω w W->π.Wv x->π.Wv y->Calls prog (π.ix 327 304) #[uD,J #[I π.kd x.a,I π.kd x.b],J #[I π.kd y.a,I π.kd y.b]] W fun e w'=>e=υ (J #[I π.kd (g x y).a,I π.kd (g x y).b])/\ω W w') :
  Calls prog (π.ix 162 157) #[J (π.eo true xs),J (π.eo true ys),.func (Fn.method "Widen") #[σ (π.ix 133 128) uD] #[]] w fun e w'=>e=υ (J (π.eo true (List.zipWith g xs ys)))/\ω w w':=by
 cases δ
 all_goals
  dsimp only [ar.ix,ar.kd]at *
  have HP:=hid xL;have zx:=π.ij true xs;have zy:=π.ij true ys;have H0:Hid (dN π w xs ys (((w.alloc (L (π.eo true xs) (π.ix 220 203))).alloc (L (π.eo true ys) (π.ix 220 203))).alloc (L π.zS (π.ix 220 203)))):=by obtain⟨k0,k1,k2,kb⟩:=cH (w:=w) (o1:=L (π.eo true xs) (π.ix 220 203)) (o2:=L (π.eo true ys) (π.ix 220 203)) (o3:=L π.eS (π.ix 220 203)) (Below.refl _ _);exact⟨k0,k1,k2,kb⟩
  have sx:(π.eo true xs).size=17:=π.dK hx;have sy:(π.eo true ys).size=17:=π.dK hy;clear xL
  first | go_enter func162,ntmps162 | go_enter func157,ntmps157
  go_wp2_with fail
  go_loopw [17] (fun jC wr=>∃j:Nat,j<=8/\jC=I O j/\Hid (dN π w (gP g xs ys j) ys wr)) (fun jC _=>8 - (intOf jC).toNat)
  case atStart=>exact⟨0,Nat.zero_le _,rfl,H0.out⟩
  case round =>
   obtain⟨j,hj,rfl,hq⟩:=hrel;clear H0 zx zy sx sy;by_cases gu:j<8
   ·obtain⟨x,hxj⟩:∃x,xs[j]?=Y x:=⟨_,List.getElem?_eq_getElem (by omega)⟩
    obtain⟨y,hyj⟩:∃y,ys[j]?=Y y:=⟨_,List.getElem?_eq_getElem (by omega)⟩;have WX:Hid (π.Wv x):=Ud x (List.mem_of_getElem? hxj);have WY:Hid (π.Wv y):=TM y (List.mem_of_getElem? hyj);have Qr:(gP g xs ys j)[j]?=Y x:=by exact AO hx hy gu hxj
    have hml:(gP g xs ys j).length=8:=by unfold gP;simp;omega
    have QV:Hid ((gP g xs ys j).set j (g x y)=gP g xs ys (j+1)):=xD hx hy gu hxj hyj;obtain⟨x0,x1⟩:=π.iu (r:=true) Qr;obtain⟨y0,y1⟩:=π.iu (r:=true) hyj;have cx0:=cell_of hq.x _ x0;have cx1:=cell_of hq.x _ x1;have cy0:=cell_of hq.y _ y0;have cy1:=cell_of hq.y _ y1;have yf:(j:Int)<8:=by omega
    clear x0 x1 y0 y1;go_wp2_with fail
    go_region_with ((first | go_at_call 327 | go_at_call 304);go_must (refine(HP.out _ x y hq.b.drew WX.out WY.out).mono ?_);rintro e w1 ⟨rfl,b1⟩;have A1:Hid (dN π w (gP g xs ys j) ys w1):=hq.call (W':=w1) ⟨b1.os,b1.tape,b1.output,b1.size,b1.block⟩;obtain⟨d0,d1,d2,d3⟩:=A1.cells Qr)
    all_goals
     have A2:Hid (dN π w (gP g xs ys (j+1)) ys ((w1.setCell ⟨w.heap.size,1+j*2,M⟩ (I π.kd (g x y).a)).setCell ⟨w.heap.size,1+j*2+1,M⟩ (I π.kd (g x y).b))):=by unfold Hid;rw[<-QV.out];exact A1.set (by omega) (g x y)
     clear b1;go_wp2_with fail;exact⟨⟨j+1,by omega,by go_num,A2⟩,by simp[intOf];omega⟩
   ·obtain rfl:j=8:=by omega
    have A:Hid (dN π w (List.zipWith g xs ys) ys wr):=by unfold Hid;rw[<-xd hx hy];exact hq.out
    have sz:(π.eo true (List.zipWith g xs ys)).size=17:=π.dK (by simp;omega);have hr:Hid (_=_):=ao A.z (d:=π.eo true (List.zipWith g xs ys)) (by rw[sz];rfl);have HB:Hid (ω w _):=aq (b:=w.heap.size+1+1) (by omega) (π.eo true (List.zipWith g xs ys)).toList 0 w _ A.b;clear hq hj gu;go_wp2_with (first
     | (refine bu (π:=π) rfl _ rfl rfl A.x sz ?_)
     | (refine bT (π:=π) rfl _ _ rfl rfl rfl A.z rfl sz (π.lh _ _) ?_))
    refine bodyPost_ret (aM rfl _ _ rfl hr.out sz) rfl ⟨rfl,HB.out⟩
theorem Dg(uD:Value)(g:Sp.Iv->Sp.Iv->Sp.Iv)(xs ys:List Sp.Iv)(w:Wd)(hx:xs.length=8)(hy:ys.length=8)(Ud:∀x∈xs,π.Wv x)(TM:∀y∈ys,π.Wv y)
  (xL:∀W x y,ω w W->π.Wv x->π.Wv y->Calls prog (π.ix 322 299) #[uD,J #[I π.kd x.a,I π.kd x.b],J #[I π.kd y.a,I π.kd y.b]] W fun e w'=>e=υ (J #[I π.kd (g x y).a,I π.kd (g x y).b])/\ω W w') :
  Calls prog (π.ix 162 157) #[J (π.eo true xs),J (π.eo true ys),.func (Fn.method "Narrow") #[σ (π.ix 133 128) uD] #[]] w fun e w'=>e=υ (J (π.eo true (List.zipWith g xs ys)))/\ω w w':=by
 cases δ
 all_goals
  dsimp only [ar.ix,ar.kd]at *
  have HP:=hid xL;have zx:=π.ij true xs;have zy:=π.ij true ys;have H0:Hid (dN π w xs ys (((w.alloc (L (π.eo true xs) (π.ix 220 203))).alloc (L (π.eo true ys) (π.ix 220 203))).alloc (L π.zS (π.ix 220 203)))):=by obtain⟨k0,k1,k2,kb⟩:=cH (w:=w) (o1:=L (π.eo true xs) (π.ix 220 203)) (o2:=L (π.eo true ys) (π.ix 220 203)) (o3:=L π.eS (π.ix 220 203)) (Below.refl _ _);exact⟨k0,k1,k2,kb⟩
  have sx:(π.eo true xs).size=17:=π.dK hx;have sy:(π.eo true ys).size=17:=π.dK hy;clear xL
  first | go_enter func162,ntmps162 | go_enter func157,ntmps157
  go_wp2_with fail
  go_loopw [17] (fun jC wr=>∃j:Nat,j<=8/\jC=I O j/\Hid (dN π w (gP g xs ys j) ys wr)) (fun jC _=>8 - (intOf jC).toNat)
  case atStart=>exact⟨0,Nat.zero_le _,rfl,H0.out⟩
  case round =>
   obtain⟨j,hj,rfl,hq⟩:=hrel;clear H0 zx zy sx sy;by_cases gu:j<8
   ·obtain⟨x,hxj⟩:∃x,xs[j]?=Y x:=⟨_,List.getElem?_eq_getElem (by omega)⟩
    obtain⟨y,hyj⟩:∃y,ys[j]?=Y y:=⟨_,List.getElem?_eq_getElem (by omega)⟩;have WX:Hid (π.Wv x):=Ud x (List.mem_of_getElem? hxj);have WY:Hid (π.Wv y):=TM y (List.mem_of_getElem? hyj);have Qr:(gP g xs ys j)[j]?=Y x:=by exact AO hx hy gu hxj
    have hml:(gP g xs ys j).length=8:=by unfold gP;simp;omega
    have QV:Hid ((gP g xs ys j).set j (g x y)=gP g xs ys (j+1)):=xD hx hy gu hxj hyj;obtain⟨x0,x1⟩:=π.iu (r:=true) Qr;obtain⟨y0,y1⟩:=π.iu (r:=true) hyj;have cx0:=cell_of hq.x _ x0;have cx1:=cell_of hq.x _ x1;have cy0:=cell_of hq.y _ y0;have cy1:=cell_of hq.y _ y1;have yf:(j:Int)<8:=by omega
    clear x0 x1 y0 y1;go_wp2_with fail
    go_region_with ((first | go_at_call 322 | go_at_call 299);go_must (refine(HP.out _ x y hq.b.drew WX.out WY.out).mono ?_);rintro e w1 ⟨rfl,b1⟩;have A1:Hid (dN π w (gP g xs ys j) ys w1):=hq.call (W':=w1) ⟨b1.os,b1.tape,b1.output,b1.size,b1.block⟩;obtain⟨d0,d1,d2,d3⟩:=A1.cells Qr)
    all_goals
     have A2:Hid (dN π w (gP g xs ys (j+1)) ys ((w1.setCell ⟨w.heap.size,1+j*2,M⟩ (I π.kd (g x y).a)).setCell ⟨w.heap.size,1+j*2+1,M⟩ (I π.kd (g x y).b))):=by unfold Hid;rw[<-QV.out];exact A1.set (by omega) (g x y)
     clear b1;go_wp2_with fail;exact⟨⟨j+1,by omega,by go_num,A2⟩,by simp[intOf];omega⟩
   ·obtain rfl:j=8:=by omega
    have A:Hid (dN π w (List.zipWith g xs ys) ys wr):=by unfold Hid;rw[<-xd hx hy];exact hq.out
    have sz:(π.eo true (List.zipWith g xs ys)).size=17:=π.dK (by simp;omega);have hr:Hid (_=_):=ao A.z (d:=π.eo true (List.zipWith g xs ys)) (by rw[sz];rfl);have HB:Hid (ω w _):=aq (b:=w.heap.size+1+1) (by omega) (π.eo true (List.zipWith g xs ys)).toList 0 w _ A.b;clear hq hj gu;go_wp2_with (first
     | (refine bu (π:=π) rfl _ rfl rfl A.x sz ?_)
     | (refine bT (π:=π) rfl _ _ rfl rfl rfl A.z rfl sz (π.lh _ _) ?_))
    refine bodyPost_ret (aM rfl _ _ rfl hr.out sz) rfl ⟨rfl,HB.out⟩
end W
end
section
namespace W
variable {δ : Bool}{π : ar δ}
theorem JY(f:Value)(x y:Array Value)(w:Wd)(h0:x[0]?=Y (U false)) :
  Calls prog (π.ix 162 157) #[J x,J y,f] w fun e w'=>e=υ (J (π.aI M))/\ω w w':=by
 cases δ
 all_goals
  dsimp only [ar.ix,ar.kd]at *
  obtain⟨k0,k1,k2,kb⟩:=cH (w:=w) (o1:=L x (π.ix 220 203)) (o2:=L y (π.ix 220 203)) (o3:=L π.zS (π.ix 220 203)) (Below.refl _ _);have c0:=cell_of k0 0 h0;have HZ:=hid k2;have fF:=hid kb;clear k0 k1 k2 kb
  first | go_enter func162,ntmps162 | go_enter func157,ntmps157
  go_wp2_with fail;refine bodyPost_ret (aM rfl _ _ rfl HZ.out rfl) rfl ⟨rfl,fF.out⟩
theorem CA{B:Nat}{π:ar δ}(dv:Value)(e e':Fin 8->Sp.Iv)(w:Wd)(hd:fL B π dv w)(he:∀k,π.Wv (e k))(x9:∀k,π.Wv (e' k)) :
  Calls prog (π.ix 162 157) #[J (π.aI (Y e)),J (π.aI (Y e')),.func (Fn.method "Widen") #[σ (π.ix 133 128) dv] #[]] w fun r w'=>r=υ (J (π.aI (nT (Dm π) (Dm π).widen (Y e) (Y e'))))/\ω w w':=by
 have h:=FD dv (π.fT) (List.ofFn e) (List.ofFn e') w (by simp) (by simp) (fun x hx=>by obtain⟨k,rfl⟩:=List.mem_ofFn.1 hx;exact he k) (fun x hx=>by obtain⟨k,rfl⟩:=List.mem_ofFn.1 hx;exact x9 k)
  (fun W x y k wx wy=>RY (hd.below (k.mono hd.size)) wx wy)
 rw[wL]at h;exact h
theorem Bm{B:Nat}{π:ar δ}(dv:Value)(e e':Fin 8->Sp.Iv)(w:Wd)(hd:fL B π dv w)(he:∀k,π.Wv (e k))(x9:∀k,π.Wv (e' k)) :
  Calls prog (π.ix 162 157) #[J (π.aI (Y e)),J (π.aI (Y e')),.func (Fn.method "Narrow") #[σ (π.ix 133 128) dv] #[]] w fun r w'=>r=υ (J (π.aI (nT (Dm π) (Dm π).narrow (Y e) (Y e'))))/\ω w w':=by
 have h:=Dg dv π.ik (List.ofFn e) (List.ofFn e') w (by simp) (by simp) (fun x hx=>by obtain⟨k,rfl⟩:=List.mem_ofFn.1 hx;exact he k) (fun x hx=>by obtain⟨k,rfl⟩:=List.mem_ofFn.1 hx;exact x9 k)
  (fun W x y k wx wy=>O6 (hd.below (k.mono hd.size)) wx wy)
 rw[wL]at h;exact h
end W
end
section
namespace W
variable {δ : Bool}{π : ar δ}
abbrev vA(x:Sp.Iv):Int:=x.a
abbrev vB(x:Sp.Iv):Int:=x.b
theorem ux{x y:Sp.Iv}(h:vA x=vA y)(k:vB x=vB y):x=y:=qI h k
def xq(π:ar δ)(x:Sp.Iv):Prop:=(Lit.int π.kd (vA x)).wf=true/\(Lit.int π.kd (vB x)).wf=true
theorem Sl{x:Sp.Iv}(h:π.Wv x):xq π x:=by
 cases δ
 ·obtain⟨h0,h⟩:=h
  have e1:IntKind.i64.min=-9223372036854775808:=rfl;have e2:IntKind.i64.max=9223372036854775807:=rfl;have hm:(lN x).m=x.a.toNat:=rfl;have hr:(lN x).r=x.b:=rfl;have q:x.a<=65536/\-65536<=x.b/\x.b<=65536:=by
   rcases h with⟨h1,h2⟩ | ⟨h1,h2,h3,h4⟩
   ·have:=h2.1;have:=h2.2;omega
   ·omega
  refine⟨?_,?_⟩<;>(simp only[Lit.wf,vA,vB,e1,e2,Bool.and_eq_true,decide_eq_true_eq];omega)
 ·obtain⟨h1,h2,h3⟩:=h
  have e1:IntKind.i16.min=-32768:=rfl;have e2:IntKind.i16.max=32767:=rfl;refine⟨?_,?_⟩<;>(simp only[Lit.wf,vA,vB,e1,e2,Bool.and_eq_true,decide_eq_true_eq];omega)
theorem KW:xq π ⟨0,0⟩:=by cases δ<;>exact⟨by rfl,by rfl⟩
end W
end
end Go.Proofs.YtiopfihjmkfdmaaGreatDoor
