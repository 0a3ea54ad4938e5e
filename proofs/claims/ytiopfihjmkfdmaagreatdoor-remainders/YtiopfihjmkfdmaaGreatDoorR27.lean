import Derived.Test.YtiopfihjmkfdmaaGreatDoorR22
import Derived.Test.YtiopfihjmkfdmaaGreatDoorR26
namespace Go.Proofs.YtiopfihjmkfdmaaGreatDoor
open Option renaming none→M,some→Y
open Go.Obj renaming cells→L
open Go.Value renaming slice→Z,bool→U,int→I,agg→J,pointer→ρ,tuple→φ,string→χ
open Go.IntKind renaming i64→O
open Go.Ending renaming returned→υ
open Go.Proofs.Tryz Sp
set_option maxRecDepth 100000
set_option maxHeartbeats 16000000
section
namespace RG
open Go.RowKit W
variable {δ : Bool}
section
variable{te es:iJ}
variable{s' yes no s s0:dw}
variable{c1 c2 c3 Ko:Ct}
variable{ns:List aH}
variable{lo rel k hi n j r g cap k8 k6:Nat}
variable{x y:Sm}
variable{t xs t0 rest:Bl}
def cD(π:ar δ)(C:Rc δ)(t:Bl)(ct:Ct)(s:dw):iJ × dw:=Sp.cD (Dm π) (ib C) t ct s
theorem E5(π:ar δ)(C:Rc δ)(t:Bl)(ct:Ct):cD π C t ct M=([],M):=ig (D:=Dm π) (ib C) t ct
theorem GJ(π:ar δ)(C:Rc δ)(ct:Ct)(s:dw):cD π C .nil ct s=([],s):=rfl
theorem F9(π:ar δ)(C:Rc δ)(v:Nat)(x:Sm)(rest:Bl)(ct:Ct)(e:dS){u:Option T}(h:dt π x (Sp.aA ct) e=(te,u))(hs:u.map (fun z=>sf e v z)=s'):cD π C (.assign v x rest) ct (Y e)=(([.ay ct.1 e] ++ te) ++ (cD π C rest (Sp.cS x (Sp.aA ct)) s').1,(cD π C rest (Sp.cS x (Sp.aA ct)) s').2):=by subst hs;have q:cD π C (.assign v x rest) ct (Y e)=(([.ay ct.1 e] ++ (dt π x (Sp.aA ct) e).1) ++ (cD π C rest (Sp.cS x (Sp.aA ct)) ((dt π x (Sp.aA ct) e).2.map (fun z=>sf e v z))).1,(cD π C rest (Sp.cS x (Sp.aA ct)) ((dt π x (Sp.aA ct) e).2.map (fun z=>sf e v z))).2):=rfl;rw[q,h]
theorem Mh(π:ar δ)(C:Rc δ)(v:Nat)(rest:Bl)(ct:Ct)(e:dS):cD π C (.read v rest) ct (Y e)=([.ay ct.1 e] ++ (cD π C rest (Sp.aA ct) (Y (sf e v (dc δ)))).1,(cD π C rest (Sp.aA ct) (Y (sf e v (dc δ)))).2):=rfl
theorem F5(π:ar δ)(C:Rc δ)(r:Nat)(x y:Sm)(rest:Bl)(ct:Ct)(e:dS)(h:dq π r x y (Sp.aJ (Sp.aA ct)) (Y e)=(te,yes,no)):cD π C (.assert r x y rest) ct (Y e)=(([.ay ct.1 e] ++ te ++ [.site ct.2 no.isSome]) ++ (cD π C rest (Sp.cS y (Sp.cS x (Sp.aJ (Sp.aA ct)))) yes).1,(cD π C rest (Sp.cS y (Sp.cS x (Sp.aJ (Sp.aA ct)))) yes).2):=by have q:cD π C (.assert r x y rest) ct (Y e)=(([.ay ct.1 e] ++ (dq π r x y (Sp.aJ (Sp.aA ct)) (Y e)).1 ++ [.site ct.2 (dq π r x y (Sp.aJ (Sp.aA ct)) (Y e)).2.2.isSome]) ++ (cD π C rest (Sp.cS y (Sp.cS x (Sp.aJ (Sp.aA ct)))) (dq π r x y (Sp.aJ (Sp.aA ct)) (Y e)).2.1).1,(cD π C rest (Sp.cS y (Sp.cS x (Sp.aJ (Sp.aA ct)))) (dq π r x y (Sp.aJ (Sp.aA ct)) (Y e)).2.1).2):=rfl;rw[q,h]
theorem P4(π:ar δ)(C:Rc δ)(r:Nat)(x y:Sm)(xs:Bl)(els:Bool)(ys rest:Bl)(ct:Ct)(e:dS)(hy:els=false->ys=.nil){t1 t2:iJ}{u v:dw}(h1:c1=Sp.cS y (Sp.cS x (Sp.aA ct)))(h2:c2=Sp.cB xs c1)(h3:c3=Sp.cB ys c2)(h:dq π r x y (Sp.aA ct) (Y e)=(te,yes,no))(hu:cD π C xs c1 yes=(t1,u))(hv:cD π C ys c2 no=(t2,v))(hs:uY δ u v=s') :
  cD π C (.ite r x y xs els ys rest) ct (Y e)=(([.ay ct.1 e] ++ (te ++ t1 ++ t2)) ++ (cD π C rest c3 s').1,(cD π C rest c3 s').2):=by
 subst h1 h2 h3;have hc:Sp.dq (Dm π) r x y (Sp.aA ct) (Y e)=(te,yes,no):=h;have DW:Sp.cD (Dm π) (ib C) xs (Sp.cS y (Sp.cS x (Sp.aA ct))) yes=(t1,u):=hu;have NJ:Sp.cD (Dm π) (ib C) ys (Sp.cB xs (Sp.cS y (Sp.cS x (Sp.aA ct)))) no=(t2,v):=hv;have df:Sp.jn (Dm π) u v=s':=(mY π u v).symm.trans hs;cases els with
 | true =>have q:cD π C (.ite r x y xs true ys rest) ct (Y e)=fV (Dm π) (.ay ct.1 e :: (wu (Dm π) (Sp.dq (Dm π) r x y (Sp.aA ct)) (Sp.cD (Dm π) (ib C) xs (Sp.cS y (Sp.cS x (Sp.aA ct)))) (Sp.cD (Dm π) (ib C) ys (Sp.cB xs (Sp.cS y (Sp.cS x (Sp.aA ct))))) e).1,(wu (Dm π) (Sp.dq (Dm π) r x y (Sp.aA ct)) (Sp.cD (Dm π) (ib C) xs (Sp.cS y (Sp.cS x (Sp.aA ct)))) (Sp.cD (Dm π) (ib C) ys (Sp.cB xs (Sp.cS y (Sp.cS x (Sp.aA ct))))) e).2) (Sp.cD (Dm π) (ib C) rest (Sp.cB ys (Sp.cB xs (Sp.cS y (Sp.cS x (Sp.aA ct)))))):=rfl;rw[q];unfold wu;simp only[hc,DW,NJ,df];rfl
 | false =>
  obtain rfl:=hy rfl;have hv2:(([]:iJ),no)=(t2,v):=hv;injection hv2 with e1 e2
  subst e1 e2;have q:cD π C (.ite r x y xs false .nil rest) ct (Y e)=fV (Dm π) (.ay ct.1 e :: (wu (Dm π) (Sp.dq (Dm π) r x y (Sp.aA ct)) (Sp.cD (Dm π) (ib C) xs (Sp.cS y (Sp.cS x (Sp.aA ct)))) (fun s=>([],s)) e).1,(wu (Dm π) (Sp.dq (Dm π) r x y (Sp.aA ct)) (Sp.cD (Dm π) (ib C) xs (Sp.cS y (Sp.cS x (Sp.aA ct)))) (fun s=>([],s)) e).2) (Sp.cD (Dm π) (ib C) rest (Sp.cB xs (Sp.cS y (Sp.cS x (Sp.aA ct))))):=rfl;rw[q];unfold wu;simp only[hc,DW,df];rfl
theorem KM(π:ar δ)(C:Rc δ)(r:Nat)(x y:Sm)(xs rest:Bl)(ct:Ct)(e:dS)(h1:c1=Sp.cS y (Sp.cS x (Sp.aA ct)))(h2:c2=Sp.cB xs c1)(h:rS π C (dq π r x y (Sp.aA ct)) (cD π C xs c1) ct.1 (Y e)=(te,s')) :
  cD π C (.loop r x y xs rest) ct (Y e)=((.ay ct.1 e :: te) ++ (cD π C rest c2 s').1,(cD π C rest c2 s').2):=by
 subst h1 h2;have q:cD π C (.loop r x y xs rest) ct (Y e)=((.ay ct.1 e :: (rS π C (dq π r x y (Sp.aA ct)) (cD π C xs (Sp.cS y (Sp.cS x (Sp.aA ct)))) ct.1 (Y e)).1) ++ (cD π C rest (Sp.cB xs (Sp.cS y (Sp.cS x (Sp.aA ct)))) (rS π C (dq π r x y (Sp.aA ct)) (cD π C xs (Sp.cS y (Sp.cS x (Sp.aA ct)))) ct.1 (Y e)).2).1,(cD π C rest (Sp.cB xs (Sp.cS y (Sp.cS x (Sp.aA ct)))) (rS π C (dq π r x y (Sp.aA ct)) (cD π C xs (Sp.cS y (Sp.cS x (Sp.aA ct)))) ct.1 (Y e)).2).2):=rfl;rw[q,h]
theorem yG.cS{ct aX:Ct}(h:yG ns lo rel x y k ct aX):aX=Sp.cS y (Sp.cS x ct):=by obtain⟨_,_,_,c1,_,_,_,_,_,_,_,h1,h2⟩:=h;rw[pZ.cS h2,pZ.cS h1]
theorem jw.cB:∀{t:Bl} {k:Int} {ct aX:Ct},jw ns lo hi t k ct aX->aX=Sp.cB t ct
 | .nil,_,_,_,h=>h.2
 | .assign v x rest,_,_,_,⟨_,_,_,_,_,_,_,_,_,_,_,_,_,_,hx,hr⟩=>by rw[jw.cB hr,pZ.cS hx];rfl
 | .read v rest,_,_,_,⟨_,_,_,_,_,_,_,_,_,_,hr⟩=>by rw[jw.cB hr];rfl
 | .assert r x y rest,_,_,_,⟨_,_,_,_,_,_,_,_,_,_,_,_,_,hx,hr⟩=>by rw[jw.cB hr,yG.cS hx];rfl
 | .ite r x y xs els ys rest,_,_,_,⟨_,_,_,_,_,_,_,_,_,_,_,_,_,_,_,hx,h1,h2,hy,hr⟩=>by
  rw[jw.cB hr,jw.cB h2,jw.cB h1,yG.cS hx];cases els with
  | true=>rfl
  | false=>obtain rfl:=hy rfl;rfl
 | .loop r x y xs rest,_,_,_,⟨_,_,_,_,_,_,_,_,_,_,_,_,_,hx,h1,hr⟩=>by rw[jw.cB hr,jw.cB h1,yG.cS hx];rfl
def uP:Bl->Nat
 | .nil=>0
 | .assign _ _ r=>uP r+1
 | .read _ r=>uP r+1
 | .assert _ _ _ r=>uP r+1
 | .ite _ _ _ xs _ ys r=>uP xs+uP ys+uP r+1
 | .loop _ _ _ xs r=>uP xs+uP r+1
def lY:Bl->Nat
 | .nil=>0
 | .assign _ _ r=>lY r+1
 | .read _ r=>lY r+1
 | .assert _ _ _ r=>lY r+1
 | .ite _ _ _ _ _ _ r=>lY r+1
 | .loop _ _ _ _ r=>lY r+1
def chain(ns:List aH):Nat->Int->Nat
 | 0,_=>0
 | n+1,k=>if k<0 then 0 else match ns[k.toNat]? with
  | none=>0
  | some d=>chain ns n d.next+1
theorem kh{j:Nat}{d:aH}(h:ns[j]?=Y d):chain ns (n+1) (j:Int)=chain ns n d.next+1:=by rw[chain.eq_2,if_neg (by omega),Int.toNat_natCast,h]
theorem zm:∀{k:Int} {ct aX:Ct} (n:Nat),jw ns lo hi t k ct aX->lY t<=n->chain ns n k=lY t:=by
 induction t with
 | nil =>intro k ct aX n h hl;rw[h.1];cases n<;>rfl
 | assign v x rest ih =>
  intro k ct aX n h hl;obtain⟨_,_,_,_,rfl,_,_,hd,_,_,_,_,_,_,_,hr⟩:=h;cases n with
  | zero=>exact absurd hl (Nat.not_succ_le_zero _)
  | succ n=>rw[kh hd,ih n hr (Nat.le_of_succ_le_succ hl)];rfl
 | read v rest ih =>
  intro k ct aX n h hl;obtain⟨_,_,rfl,_,_,hd,_,_,_,_,hr⟩:=h;cases n with
  | zero=>exact absurd hl (Nat.not_succ_le_zero _)
  | succ n=>rw[kh hd,ih n hr (Nat.le_of_succ_le_succ hl)];rfl
 | assert r x y rest ih =>
  intro k ct aX n h hl;obtain⟨_,_,_,_,rfl,_,_,hd,_,_,_,_,_,_,hr⟩:=h;cases n with
  | zero=>exact absurd hl (Nat.not_succ_le_zero _)
  | succ n=>rw[kh hd,ih n hr (Nat.le_of_succ_le_succ hl)];rfl
 | ite r x y xs els ys rest _ _ ih =>
  intro k ct aX n h hl;obtain⟨_,_,_,_,_,_,rfl,_,_,hd,_,_,_,_,_,_,_,_,_,hr⟩:=h;cases n with
  | zero=>exact absurd hl (Nat.not_succ_le_zero _)
  | succ n=>rw[kh hd,ih n hr (Nat.le_of_succ_le_succ hl)];rfl
 | loop r x y xs rest _ ih =>
  intro k ct aX n h hl;obtain⟨_,_,_,_,_,rfl,_,_,hd,_,_,_,_,_,_,hr⟩:=h;cases n with
  | zero=>exact absurd hl (Nat.not_succ_le_zero _)
  | succ n=>rw[kh hd,ih n hr (Nat.le_of_succ_le_succ hl)];rfl
theorem rgs(π:ar δ)(C:Rc δ)(hx:wK x)(hy:wK y)(hb:tG xs)(ct c1:Ct):Jg π (dq π r x y ct) (cD π C xs c1) :=
 ⟨fun _ hs=>lF (K:=Kr π) hx hy hs,fun s hs=>fX (K:=Kr π) (ib C) xs hb c1 s hs,rfl,E5 π C xs c1⟩
theorem Gc(π:ar δ)(C:Rc δ)(h:tG t)(ct:Ct)(hs:ew δ s):ew δ (cD π C t ct s).2:=fX (K:=Kr π) (ib C) t h ct s hs
theorem Lf(π:ar δ)(hx:wK x)(hy:wK y)(ct:Ct)(hs:ew δ s):ew δ (dq π r x y ct s).2.1/\ew δ (dq π r x y ct s).2.2:=lF (K:=Kr π) hx hy hs
def Sj(C:Rc δ)(π:ar δ)(g cap:Nat)(ns:List aH)(l:List Int)(lo hi:Nat)(t0:Bl)(Ko:Ct)(s0:dw)(F:jr)(rec:Bool)(w:Wd)(k8 k6:Nat)(kk:Int)(W:Wd):Prop :=
 ∃t c1 c2 es s,jw ns lo hi t kk c1 c2/\tG t/\lY t<=lY t0/\uP t<=uP t0/\cD π C t0 Ko s0=(es ++ (cD π C t c1 s).1,(cD π C t c1 s).2)/\bn C g cap ns l w k8 [] (told π rec F es) [(k6,s)] W
theorem pr{C:Rc δ}{π:ar δ}{l:List Int}{F:jr}{rec:Bool}{w:Wd}{kk next:Int}{W:Wd}
  (h1:jw ns lo hi t kk c1 c2) (h2:jw ns lo hi rest next c3 c2) (ok:tG rest) (hl:lY t<=lY t0) (hs:uP t<=uP t0) (BF:lY rest+1=lY t) (fK:uP rest<=uP t) (he:cD π C t0 Ko s0=(es ++ (cD π C t c1 s).1,(cD π C t c1 s).2)) (hn:cD π C t c1 s=(te ++ (cD π C rest c3 s').1,(cD π C rest c3 s').2)) (hL:bn C g cap ns l w k8 [] (told π rec (told π rec F es) te) [(k6,s')] W) :
  Sj C π g cap ns l lo hi t0 Ko s0 F rec w k8 k6 next W/\chain ns (lY t0) next<chain ns (lY t0) kk:=by
 refine⟨⟨rest,c3,c2,es ++ te,s',h2,ok,by omega,by omega,?_,?_⟩,?_⟩
 ·rw[he,hn]
  simp
 ·rw[aF];exact hL
 ·rw[zm (lY t0) h1 hl,zm (lY t0) h2 (by omega)]
  omega
theorem wY{π:ar δ}{C:Rc δ}{rec:Bool}{F:jr}(hr:cV rec F (cD π C t0 Ko s0).1)(he:cD π C t0 Ko s0=(es ++ (cD π C t c1 s).1,(cD π C t c1 s).2))(hn:cD π C t c1 s=(te ++ (cD π C rest c3 s').1,(cD π C rest c3 s').2)):cV rec (told π rec F es) te:=by rw[he,hn]at hr;exact cV.left (cV.right hr)
end
section
variable {C : Rc δ}{π : ar δ}{g cap : Nat}{ns : List aH}{l : List Int}{w : Wd}{k8 : Nat}{o : List (Nat × Obj)}{F : jr}{m : List (Nat × dw)}{W : Wd}
section
variable{k ge v:Nat}
theorem bn.RZ(h:bn C g cap ns l w k8 o F m W)(k:Nat)(e:dS)(hx:(k,Y e)∈m):∃ge,W.cell? ⟨k,0,M⟩=Y (U false)/\W.cell? ⟨k,1,M⟩=Y (Z (Y ⟨ge,0,M⟩) 8 8)/\W.frozen? ⟨k,0,M⟩=false/\W.frozen? ⟨k,1,M⟩=false/\W.heap[ge]?=Y (L (ia e) 191)/\∀k,Wv δ (e k):=by
 obtain⟨a,n,c,s0,s1,f0,f1,⟨ge,q1,q2⟩,ws⟩:=h.box k (Y e) hx;injection q1 with q1
 have q3:=congrArg Array.toList q1;simp at q3;obtain⟨rfl,rfl,rfl⟩:=q3;exact⟨ge,s0,s1,f0,f1,q2,ws e rfl⟩
theorem MC{x:Sm}{ct:Ct}(hW:jv C π g cap ns x k ct)(G:Gd C g)(h:bn C g cap ns l w k8 o F m W){e:dS}(hg:Bk W ge (ia e) 191)(he:∀k,Wv δ (e k)){te:iJ}{u:Option T}(hu:dt π x ct e=(te,u)){rec:Bool}(hr:cV rec F te) :
  Calls prog 105 #[ρ (Y ⟨C.b,0,M⟩),I O (k:Nat),J #[U false,Z (Y ⟨ge,0,M⟩) 8 8],U rec] W fun r w'=>∃a b ok,r=υ (φ #[J #[I O a,I O b],U ok])/\bn C g cap ns l w k8 o (told π rec F te) m w'/\w'.heap[ge]?=Y (L (ia e) 191)/\PA δ a b ok u:=by
 have q:=hW F e ge rec W h.ra h.look he hg (by rw[hu];exact hr);rw[hu]at q;refine q.mono ?_;rintro r w'⟨a,b,ok,rfl,h1,h2,h3⟩;obtain⟨n1,n2⟩:=h.ra.apart hg;exact⟨a,b,ok,rfl,h.step G h1 h2,(h2.others ge (ad hg) n1 n2).trans hg,h3⟩
theorem GH(G:Gd C g)(h:bn C g cap ns l w k8 o F m W){e:dS}(hg:Bk W ge (ia e) 191)(hv:v<8)(z:T){u:dw}(hu:u=Y (sf e v z)) :
  Calls prog 106 #[J #[U false,Z (Y ⟨ge,0,M⟩) 8 8],I O (v:Nat),J #[I O (pA z),I O (pB z)]] W fun r w'=>∃a1 n1 c1,r=υ (J #[U u.isNone,Z a1 n1 c1])/\bn C g cap ns l w k8 o F m w'/\dM w' (J #[U u.isNone,Z a1 n1 c1]) u:=by
 refine(vw ge e v hv z W hg).mono ?_;rintro r w'⟨v,rfl,h1,h2⟩;rw[<-hu]at h1;obtain⟨a1,n1,c1,rfl⟩:=h1.form;exact⟨a1,n1,c1,rfl,h.call G h2,h1⟩
theorem Ld(π:ar δ)(G:Gd C g)(h:bn C g cap ns l w k8 o F m W)(q:Int)(bad:Bool){rec:Bool}(hr:cV rec F [.site q bad]) :
  Calls prog 109 #[ρ (Y ⟨C.b,0,M⟩),I O q,U bad,U rec] W fun r w'=>r=υ (φ #[])/\bn C g cap ns l w k8 o (told π rec F [.site q bad]) m w' :=
 (yW π 3 q bad rec h.ra hr).mono fun _ _ ⟨h1,h2,h3⟩=>⟨h1,h.step G h2 h3⟩
theorem bn.VD(G:Gd C g)(h:bn C g cap ns l w k8 o F m W)(a b:Value):bn C g cap ns l w k8 ((W.heap.size,L #[a,b] 191) :: o) F m (W.alloc (L #[a,b] 191)) :=
 h.Vv G _ (fun c e=>by injection e with _ e;exact absurd e (by decide))
theorem bn.Zf(G:Gd C g)(h:bn C g cap ns l w k8 o F m W)(d:aH):bn C g cap ns l w k8 ((W.heap.size,L (nX d) 176) :: o) F m (W.alloc (L (nX d) 176)) :=
 h.Vv G _ (fun c e=>by injection e with _ e;exact absurd e (by decide))
end
end
end RG
end
section
namespace RG
open Go.RowKit W
variable {δ : Bool}
section
variable{w1 W W' w:Wd}
variable{n m i B lo hi base pb:Nat}
theorem eh:(prog.info? 121).map (fun i=>(i.zero,i.size))=Y (Y (J #[U false,Z M 0 0]),2)/\((prog.info? 121).map (fun i=>decide (i.bytes<=1000)))=Y true:=by constructor<;>kernel_rfl
theorem P5(n:Nat)(hn:n<=1000000):∃c:Array Value,c.size=n*2/\∀w,(Instr.makeSlice 114 (I O (n:Nat)) (I O (n:Nat))).run prog w=.ok (Z (Y ⟨w.heap.size,0,M⟩) n n) (w.alloc (L c 121)):=by
 obtain⟨i,hi,hz⟩:=Option.map_eq_some_iff.1 eh.1;have h3:=eh.2;rw[hi]at h3;simp only[Option.map_some,Option.some.injEq,decide_eq_true_eq]at h3;simp only[Prod.mk.injEq]at hz;obtain⟨h1,h2⟩:=hz;have hb:(i.bytes:Int)*(n:Int)<=281474976710656:=by
  have h4:i.bytes*n<=1000*1000000:=Nat.mul_le_mul h3 hn;have h5:((i.bytes*n:Nat):Int)<=1000000000:=by omega
  rw[Int.natCast_mul]at h5;omega
 have hm:=nu (f:=fun _:Nat=>[Value.bool false,Z M 0 0]) (k:=2) (n:=n) (a:=0) (z:=#[U false,Z M 0 0]) rfl (fun _=>rfl) (by omega);refine⟨madeCells #[U false,Z M 0 0] (n*2),?_,fun w=>?_⟩
 ·rw[hm,List.size_toArray,fw (k:=2) (fun _=>rfl),List.length_replicate]
 ·have:=run_make (P:=prog) w 114 121 i _ underlying114 hi h1 O O n n (by omega) (Int.le_refl _) hb (by omega)
  rw[this,h2];simp only[Int.toNat_natCast];rfl
theorem Lh(pb:Nat)(d al narrow ai:Int)(th:Bool)(a:Option Addr)(n:Nat)(c:Option Addr)(m:Nat)(w:Wd):(Instr.build 186 #[(0,ρ (Y ⟨pb,0,M⟩)),(1,J #[I O d,I O al,I O narrow,I O ai,U th]),(3,Z a n n),(4,Z c m m)]).run prog w=.ok (J #[ρ (Y ⟨pb,0,M⟩),I O d,I O al,I O narrow,I O ai,U th,Z M 0 0,Z a n n,Z c m m]) w:=by kernel_rfl
structure iO(w1:Wd)(C:Rc δ)(n m i:Nat)(W:Wd):Prop where
 Eh:ω w1 W
 aT:W.heap[C.b]?=Y (L (raC C n m) 186)
 gf:∃c,W.heap[C.gf]?=Y (L c 121)/\c.size=n*2/\∀p,p<i->c[p*2]?=Y (U true)/\c[p*2+1]?=Y (Z M 0 0)
 gs:W.heap[C.gs]?=Y (L (cF (List.replicate m 0)).toArray 3)
 bs:C.base=w1.heap.size
 lb:w1.heap.size<=C.b
 lf:w1.heap.size<=C.gf
 ls:w1.heap.size<=C.gs
theorem iO.call{C:Rc δ}(h:iO w1 C n m i W)(k:ω W W'):iO w1 C n m i W':=by obtain⟨c,c1,c2,c3⟩:=h.gf;exact⟨h.Eh.trans (k.mono h.Eh.size),(k.block _ (ad h.aT)).trans h.aT,⟨c,(k.block _ (ad c1)).trans c1,c2,c3⟩,(k.block _ (ad h.gs)).trans h.gs,h.bs,h.lb,h.lf,h.ls⟩
theorem iO.ne{C:Rc δ}(h:iO w1 C n m i W):C.b≠C.gf/\C.b≠C.gs/\C.gf≠C.gs:=by
 obtain⟨c,c1,_,_⟩:=h.gf;have h0:=h.aT;have h2:=h.gs;refine⟨fun e=>?_,fun e=>?_,fun e=>?_⟩
 ·rw[e,c1]at h0;injection h0 with h0;injection h0 with _ q;exact absurd q (by decide)
 ·rw[e,h2]at h0;injection h0 with h0;injection h0 with _ q;exact absurd q (by decide)
 ·rw[e,h2]at c1;injection c1 with c1;injection c1 with _ q;exact absurd q (by decide)
theorem iO.pt{C:Rc δ}(h:iO w1 C n m i W)(hi:i<n):iO w1 C n m (i+1) ((W.setCell ⟨C.gf,i*2,M⟩ (U true)).setCell ⟨C.gf,i*2+1,M⟩ (Z M 0 0)):=by
 obtain⟨n1,n2,n3⟩:=h.ne;obtain⟨c,c1,c2,c3⟩:=h.gf;have nY:∀j,j≠C.gf->((W.setCell ⟨C.gf,i*2,M⟩ (U true)).setCell ⟨C.gf,i*2+1,M⟩ (Z M 0 0)).heap[j]?=W.heap[j]?:=fun j hj=>by rw[Below.heap_setCell _ _ _ _ hj,Below.heap_setCell _ _ _ _ hj]
 refine⟨(h.Eh.setCell (p:=⟨C.gf,i*2,M⟩) h.lf _).setCell (p:=⟨C.gf,i*2+1,M⟩) h.lf _,(nY _ n1).trans h.aT,⟨_,ah (ah c1 _ _) _ _,by simp[c2],fun p hp=>?_⟩,(nY _ n3.symm).trans h.gs,h.bs,h.lb,h.lf,h.ls⟩;by_cases e:p=i
 ·subst e
  exact⟨by rw[Array.getElem?_setIfInBounds,if_neg (by omega),Array.getElem?_setIfInBounds_self,if_pos (by omega)],by rw[Array.getElem?_setIfInBounds_self,if_pos (by rw[Array.size_setIfInBounds];omega)]⟩
 ·obtain⟨e1,e2⟩:=c3 p (by omega)
  exact⟨by rw[Array.getElem?_setIfInBounds,if_neg (by omega),Array.getElem?_setIfInBounds,if_neg (by omega)];exact e1,by rw[Array.getElem?_setIfInBounds,if_neg (by omega),Array.getElem?_setIfInBounds,if_neg (by omega)];exact e2⟩
theorem iO.steps{C:Rc δ}(h:iO w1 C n m i W)(sv:Value):iO w1 ({ C with sv:=sv }:Rc δ) n m i (W.setCell ⟨C.b,6,M⟩ sv):=by
 obtain⟨n1,n2,n3⟩:=h.ne;obtain⟨c,c1,c2,c3⟩:=h.gf;have nY:∀j,j≠C.b->(W.setCell ⟨C.b,6,M⟩ sv).heap[j]?=W.heap[j]?:=fun j hj=>Below.heap_setCell _ _ _ _ hj
 exact⟨h.Eh.setCell (p:=⟨C.b,6,M⟩) h.lb _,by rw[ah h.aT 6 sv];rfl,⟨c,(nY _ n1.symm).trans c1,c2,c3⟩,(nY _ n2.symm).trans h.gs,h.bs,h.lb,h.lf,h.ls⟩
theorem iO.grown{C:Rc δ}(h:iO w1 C n m i W)(hB:w1.heap.size<=B)(k:Below B W W')(hb:C.b<B)(hf:C.gf<B)(hs:C.gs<B):iO w1 C n m i W':=by obtain⟨c,c1,c2,c3⟩:=h.gf;exact⟨h.Eh.trans (k.mono hB),(k.block _ hb).trans h.aT,⟨c,(k.block _ hf).trans c1,c2,c3⟩,(k.block _ hs).trans h.gs,h.bs,h.lb,h.lf,h.ls⟩
theorem iO.ra{C:Rc δ}(h:iO w1 C n m n W)(hd:RD δ)(hn:n<=1000)(hm:m<=1000):bK C (List.replicate n M,List.replicate m 0) W:=by
 obtain⟨c,c1,c2,c3⟩:=h.gf;have hb:=h.bs;refine⟨by simp only[List.length_replicate];exact h.aT,⟨c,c1,by simpa using c2⟩,⟨_,h.gs,by simp[cF]⟩,fun p s hp=>?_,fun q k hk=>?_,by rw[hb];exact h.lb,by rw[hb];exact h.lf,by rw[hb];exact h.ls,by simpa using⟨hn,hm⟩,hd⟩
 ·simp only[List.getElem?_replicate]at hp
  split at hp
  ·rename_i cR
   cases hp
   obtain⟨e1,e2⟩:=c3 p cR;exact⟨_,_,cell_of c1 _ e1,cell_of c1 _ e2,rfl,fun _ q=>by cases q⟩
  ·cases hp
 ·simp only[List.getElem?_replicate]at hk
  split at hk
  ·rename_i cR
   cases hk
   exact⟨cell_of h.gs _ (by simp[cF,cR]),by omega⟩
  ·cases hk
theorem gF:∀x:Sm,fm x=sh x
 | .num _=>rfl
 | .name _=>rfl
 | .neg x=>gF x
 | .bin _ x y=>by unfold fm sh;rw[gF x,gF y]
theorem fO:∀t:Bl,cW t=iy t
 | .nil=>rfl
 | .assign _ x r=>by unfold cW iy;rw[gF,fO r]
 | .read _ r=>by unfold cW iy;rw[fO r]
 | .assert _ x y r=>by unfold cW iy;rw[gF,gF,fO r]
 | .ite _ x y xs _ ys r=>by unfold cW iy;rw[gF,gF,fO xs,fO ys,fO r]
 | .loop _ x y xs r=>by unfold cW iy;rw[gF,gF,fO xs,fO r]
def u6(qs:List Int):List Int:=qs.flatMap fun n=>[n,-n]
theorem Pm(qs:List Int):(u6 qs).length=qs.length*2:=by unfold u6;rw[fw (k:=2) (fun _=>rfl)]
theorem MB(qs:List Int)(i:Nat)(q:Int)(h:qs[i]?=Y q):u6 (qs.take (i+1))=u6 (qs.take i) ++ [q,-q]:=by unfold u6;rw[List.take_add_one,h,List.flatMap_append];rfl
theorem Sk{ns:List aH}(h:ns.length=0):∀{t:Bl} {k:Int} {ct aX:Ct},jw ns lo hi t k ct aX->t=.nil:=by
 have e:=List.eq_nil_of_length_eq_zero h;subst e;intro t k ct aX hb;cases t with
 | nil=>rfl
 | assign v x r=>obtain⟨_,_,_,_,_,_,_,hd,_⟩:=hb;simp at hd
 | read v r=>obtain⟨_,_,_,_,_,hd,_⟩:=hb;simp at hd
 | assert r x y z=>obtain⟨_,_,_,_,_,_,_,hd,_⟩:=hb;simp at hd
 | ite r x y xs e ys z=>obtain⟨_,_,_,_,_,_,_,_,_,hd,_⟩:=hb;simp at hd
 | loop r x y xs z=>obtain⟨_,_,_,_,_,_,_,_,hd,_⟩:=hb;simp at hd
theorem zL.az{t:Bl}(h:zL base pb t w)(hs:Sp.Small (0,0) (Sp.pB t) (Sp.qB t)):∃(ns:List aH) (first:Int) (qa:Option Addr) (qc:Nat) (nv:Value) (ct:Ct),w.heap[pb]?=Y (L #[nv,I O first,I O ((Sp.pB t+1:Nat):Int),I O ((Sp.qB t:Nat):Int),Z qa (cW t).length qc] 105)/\jw ns 0 ns.length t first (0,0) ct/\((∃g cap,db pb g cap ns w/\g<w.heap.size)∨t=.nil)/\(cW t).length<=2000/\(cW t).length<=qc/\qc<=maxLen/\∀(i:Nat) (n:Int),(cW t)[i]?=Y n->∃g,qa=Y ⟨g,0,M⟩/\g<w.heap.size/\w.cell? ⟨g,i,M⟩=Y (I O n):=by
 obtain⟨p,first,ct,hb,hn,hq,h1,h2,qW,UA,h64,Qp⟩:=h;have ec:=jw.cB qW;rw[fY t (0,0) hs]at ec;have e1:p.ct.1=((Sp.pB t+1:Nat):Int):=by rw[UA,ec];obtain⟨_,_,q1,_⟩:=hs;show RowKit.wrap64 (0+(Sp.pB t:Int)+1)=_;unfold RowKit.wrap64;simp only at q1;omega
 have e2:p.ct.2=((Sp.qB t:Nat):Int):=by rw[UA,ec];show 0+(Sp.qB t:Int)=_;omega
 unfold cM at hb;rw[e1,e2]at hb;rw[<-Qp];have hqv:∃qa qc,p.qv=Z qa p.qs.length qc/\p.qs.length<=qc/\qc<=maxLen/\∀(i:Nat) (n:Int),p.qs[i]?=Y n->∃g,qa=Y ⟨g,0,M⟩/\g<w.heap.size/\w.cell? ⟨g,i,M⟩=Y (I O n):=by
  rcases hq.2 with⟨a1,a2⟩ | ⟨g,cap,cur,a1,a2,a3,a4,a5,a6,a7⟩
  ·exact⟨M,0,by rw[a1,a2],by omega,by unfold maxLen;omega,fun i n hi=>by rw[List.eq_nil_of_length_eq_zero a2]at hi;simp at hi⟩
  ·refine⟨Y ⟨g,0,M⟩,cap,a1,a4,a5,fun i n hi=>⟨g,rfl,ad a3,?_⟩⟩
   rw[a1]at hq;exact(ni hq (by rw[List.getElem?_map,hi];rfl)).1
 obtain⟨qa,qc,a1,a2,a3,a4⟩:=hqv;rw[a1]at hb;refine⟨p.ns,first,qa,qc,p.nv,ct,hb,qW,?_,h2,a2,a3,a4⟩
 rcases hn.2 with⟨_,h0⟩ | ⟨g,cap,cur,hv,hg,hh,h3,h4,h5,h6⟩
 ·exact .inr (Sk h0 qW)
 ·refine .inl ⟨g,cap,⟨by rw[<-hv];exact cell_of hb 0 rfl,fun j d c u hd hc hu=>?_,ad hb,ad hh,h3,h4,h1⟩,ad hh⟩
  rw[hv]at hn;exact(ni hn (by rw[Nat.mul_comm j 10,iL _ _ _ hc,hd];exact hu)).1
theorem Ns(b:Nat)(n:Bool)(va:Option Addr)(vn vc:Nat)(rec:Bool)(w:Wd):Calls prog 76 #[ρ (Y ⟨b,0,M⟩),I O (-1),J #[U n,Z va vn vc],U rec] w fun r w'=>r=υ (J #[U n,Z va vn vc])/\ω w w':=by
 go_enter func76,ntmps76;go_wp2_with fail;obtain⟨a1,a2,kb⟩:=fh (w:=w) (o1:=L #[U n,Z va vn vc] 121) (o2:=L #[U false,Z M 0 0] 121) (Below.refl _ _);obtain⟨k6,e6⟩:∃k,k=w.heap.size:=⟨_,rfl⟩;obtain⟨k8,e8⟩:∃k,k=w.heap.size+1:=⟨_,rfl⟩;rw[<-e8,<-e6];rw[<-e6]at a1;rw[<-e8]at a2;have hk:w.heap.size<=k8:=by omega
 clear e8 e6;generalize (w.alloc (L #[U n,Z va vn vc] 121)).alloc (L #[U false,Z M 0 0] 121)=W at *
 go_loopw [1] (fun v1 wr=>v1=I O (-1)/\wr=W) (fun _ _=>0)
 case atStart=>exact⟨rfl,rfl⟩
 case round =>
  obtain⟨rfl,rfl⟩:=hrel;obtain⟨q0,q1,_⟩:=aR a1;obtain⟨z0,z1,yV,yO,mq⟩:=aR a2;have MQ:=hid (mq (U n) (Z va vn vc));have HB:Hid (ω w _):=(kb.setCell (p:=⟨k8,0,M⟩) hk (U n)).setCell (p:=⟨k8,1,M⟩) hk (Z va vn vc);clear mq a1 a2 kb;go_wp2_with fail;exact bodyPost_ret (v:=J #[U n,Z va vn vc]) (by simp[results,results76,go_sem,MQ.1,MQ.2]) rfl ⟨rfl,HB.out⟩
end
end RG
end
section
namespace RG
open Go.RowKit W
variable {δ : Bool}
section
variable{r n g cap lo rel k:Nat}
theorem Zg(h:r<6):xE r<6:=by rcases(show r=0∨r=1∨r=2∨r=3∨r=4∨r=5 from by omega) with rfl | rfl | rfl | rfl | rfl | rfl<;>simp[xE]
theorem CX(π:ar δ){hm:n<8}{ct:Ct}{e:dS}{es:List (eU T)}{a:T}(h:dt π (.name n) ct e=(es,Y a)):e ⟨n,hm⟩=a:=by
 have q:(([]:List (eU T)),Y (oE (Dm π) e n))=(es,Y a):=h;have q2:oE (Dm π) e n=e ⟨n,hm⟩:=dif_pos hm;rw[<-q2];injection q with _ q
 injection q
theorem sI(π:ar δ){C:Rc δ}{ns:List aH}{x y:Sm}{ct aX:Ct}(G:Gd C g)(h:yG ns lo rel x y k ct aX):Zc C π g cap ns rel x y k ct:=by
 intro F s sv rec w hR hL hw hS hr;cases s with
 | none =>obtain rfl:sv=_:=hS;exact Lw π G k F rec w hR hL
 | some e =>
 obtain⟨ge,rfl,mL⟩:=hS;have he:=hw e rfl;obtain⟨d,i,j,ct1,hd,ha,hb,hs,hrel,_,_,fx,fy⟩:=h;have e1:=pZ.cS fx;subst e1;obtain⟨es,vx,ex⟩:∃(es:List (eU T)) (vx:Option T),dt π x ct e=(es,vx):=⟨_,_,rfl⟩;obtain⟨dp,vy,ey⟩:∃(dp:List (eU T)) (vy:Option T),dt π y (Sp.cS x ct) e=(dp,vy):=⟨_,_,rfl⟩;have HR:Hid (cV rec F es/\∀x0,vx=Y x0->cV rec (told π rec F es) dp):=by
  cases vx with
  | none =>rw[QI π rel x y ct e ex]at hr;exact⟨hr,fun _ q=>by cases q⟩
  | some x0 =>
   cases vy with
   | none=>rw[QS π rel x y ct e ex ey]at hr;exact⟨cV.left hr,fun _ _=>cV.right hr⟩
   | some y0=>rw[QN π rel x y ct e ex ey]at hr;exact⟨cV.left hr,fun _ _=>cV.right hr⟩
 have EX:=hid ex;have EY:=hid ey;have Xv:Hid (jv C π g cap ns x i ct):=gV π G fx;have Xb:Hid (jv C π g cap ns y j (Sp.cS x ct)):=gV π G fy;have HE:=hid he;have HG:=hid G;have HD:Hid (ns[k]?=Y d/\d.a=(i:Int)/\d.b=(j:Int)/\d.sign=aL rel/\rel<6):=⟨hd,ha,hb,hs,hrel⟩;have WE:Hid (pZ ns lo x i ct (Sp.cS x ct)/\pZ ns lo y j (Sp.cS x ct) aX):=⟨fx,fy⟩;have HW:=Dv (U false) (Z (Y ⟨ge,0,M⟩) 8 8) (ns:=ns) G hR hL;obtain⟨W,hW⟩:∃W,((w.alloc (L #[U false,Z (Y ⟨ge,0,M⟩) 8 8] 121)).alloc (L #[U false,Z M 0 0] 121)).alloc (L #[U false,Z M 0 0] 121)=W:=⟨_,rfl⟩;rw[hW]at HW;have H:=hid HW;have hgW:W.heap[ge]?=Y (L (ia e) 191):=by obtain⟨n1,n2⟩:=hR.apart mL;exact(HW.bF.others ge (ad mL) n1 n2).trans mL
 have J5:=hid hgW;clear hR hL HW mL hgW ha hb hs hrel hd fx fy ex ey he hw hr G;go_enter func108,ntmps108;go_upto_region 1 with fail;try rw[hW]
 obtain⟨k6,e6⟩:∃k,k=w.heap.size:=⟨_,rfl⟩;obtain⟨k8,e8⟩:∃k,k=w.heap.size+1:=⟨_,rfl⟩;obtain⟨k9,e9⟩:∃k,k=w.heap.size+1+1:=⟨_,rfl⟩;rw[<-e9,<-e8,<-e6];rw[<-e9,<-e8,<-e6]at H;clear hW e6 e8 e9;have b0:=cell_of H.box 0 (v:=U false) rfl;have b1:=cell_of H.box 1 (v:=Z (Y ⟨ge,0,M⟩) 8 8) rfl;have m0:=cell_of H.ra.aT 0 (v:=ρ (Y ⟨C.pb,0,M⟩)) rfl;have c0:=H.look.slice;obtain⟨cR,r0,r1,r2,r3,r4,r5,r6,r7,r8,r9⟩:=H.look.facts HD.1;have h1:=H.look.ow;have h2:=H.look.hmax;have h3:=H.look.hn;go_upto_region 4 with fail;have hX:=H.call HG.out (below_alloc1 W (L (nX d) 176))
 have hn:=heap_alloc_new W (L (nX d) 176);have YC:=((below_alloc1 W (L (nX d) 176)).block _ (ad J5.out)).trans J5.out;have lkn:w.heap.size<=W.heap.size:=H.bF.below.size;unfold nX at hX hn YC;clear m0 c0 r0 r1 r2 r3 r4 r5 r6 r7 r8 r9 h1 h2 h3 cR H J5 b0 b1;generalize W.alloc (L #[I O d.kind,I O d.a,I O d.b,I O d.c,I O d.n,I O d.next,χ ⟨d.sign.toArray⟩,I O d.site,I O d.ay,U d.els] 176)=X at *;generalize W.heap.size=kn at *;have HC:=Xv.out F e ge rec X hX.ra hX.look HE.out YC (by rw[EX.out];exact HR.1);rw[EX.out]at HC;have Ej:=hid HC;have n1:=cell_of hn 1 (v:=I O (i:Int)) (by rw[<-HD.2.1];rfl);have b0:=cell_of hX.box 0 (v:=U false) rfl;have b1:=cell_of hX.box 1 (v:=Z (Y ⟨ge,0,M⟩) 8 8) rfl;have H:=hid (And.intro hX (And.intro hn YC));have HLN:=hid lkn;clear HC hX hn YC lkn;go_wp2_with fail;refine Ej.mono ?_;rintro r w2⟨xa,xb,ok,rfl,VY,k2,o2⟩;have h2:=H.1.step HG.out VY k2;have Eg:=H.1.aU k2 HLN.out H.2.1;have yK:w2.heap[ge]?=Y (L (ia e) 191):=by obtain⟨n1,n2⟩:=H.1.ra.apart H.2.2;exact(k2.others ge (ad H.2.2) n1 n2).trans H.2.2
 have bw:=below_alloc1 w2 (L #[I O xa,I O xb] 191);have h3:=h2.call HG.out bw;have hv:=heap_alloc_new w2 (L #[I O xa,I O xb] 191);have Oz:=(bw.block _ (ad Eg)).trans Eg;have Gt:=(bw.block _ (ad yK)).trans yK;have HLX:=hid h2.bF.below.size;clear Ej H n1 b0 b1 VY k2 h2 Eg yK bw;go_upto_region 5 with fail;generalize w2.alloc (L #[I O xa,I O xb] 191)=X2 at *
 generalize w2.heap.size=kx at *;cases vx with
 | none =>obtain rfl:ok=false:=o2;have EC:Hid (dq π rel x y ct (Y e)=(es,M,M)):=QI π rel x y ct e EX.out;have H9:=hid h3;clear h3 hv Oz Gt HR Xv Xb WE;go_wp2_with fail;refine(eZ _).mono ?_;rintro q wf⟨rfl,bv⟩;have gB:=H9.call HG.out bv;go_wp2_with fail;refine(eZ _).mono ?_;rintro q wg⟨rfl,bg⟩;have uC:=gB.call HG.out bg;have HT:=hid (uC.ret (U true) (Z M 0 0) (U true) (Z M 0 0));obtain⟨z0,z1,yV,yO,_⟩:=aR uC.r8;obtain⟨y0,y1,Gu,Gf,_⟩:=aR HT.2.2.2.2.1;clear gB uC bv bg H9;go_wp2_with fail;exact bodyPost_ret (v:=φ #[J #[U true,Z M 0 0],J #[U true,Z M 0 0]]) (by simp[results,results108,go_sem,HT.2.2.1.1,HT.2.2.1.2.1,HT.2.2.1.2.2.1,HT.2.2.1.2.2.2]) rfl ⟨_,_,rfl,by rw[EC.out];exact HT.1,HT.2.1,by rw[EC.out];rfl,by rw[EC.out];rfl⟩
 | some x0 =>
  obtain⟨rfl,rfl,rfl,wx⟩:=o2;have HC:=Xb.out (told π rec F es) e ge rec X2 h3.ra h3.look HE.out Gt (by rw[EY.out];exact HR.2 x0 rfl);rw[EY.out]at HC;have Ej:=hid HC;have n2:=cell_of Oz 2 (v:=I O (j:Int)) (by rw[<-HD.2.2.1];rfl);have b0:=cell_of h3.box 0 (v:=U false) rfl;have b1:=cell_of h3.box 1 (v:=Z (Y ⟨ge,0,M⟩) 8 8) rfl;have H:=hid (And.intro h3 (And.intro Oz (And.intro Gt hv)));have YX:=hid wx;clear HC h3 hv Oz Gt wx HR Xv Xb;go_wp2_with fail;refine Ej.mono ?_;rintro r w4⟨ya,yb,ok,rfl,Qf,k4,o4⟩;have h4:=H.1.step HG.out Qf k4;have VJ:=H.1.aU k4 HLN.out H.2.1;have NF:=H.1.aU k4 HLX.out H.2.2.2;have Ub:w4.heap[ge]?=Y (L (ia e) 191):=by obtain⟨n1,n2⟩:=H.1.ra.apart H.2.2.1;exact(k4.others ge (ad H.2.2.1) n1 n2).trans H.2.2.1
  have bw:=below_alloc1 w4 (L #[I O ya,I O yb] 191);have h5:=h4.call HG.out bw;have hv:=heap_alloc_new w4 (L #[I O ya,I O yb] 191);have ov:=(bw.block _ (ad VJ)).trans VJ;have Od:=(bw.block _ (ad NF)).trans NF;have Qs:=(bw.block _ (ad Ub)).trans Ub;clear Ej H n2 b0 b1 Qf k4 h4 VJ Ub NF bw;go_upto_region 8 with fail;generalize w4.alloc (L #[I O ya,I O yb] 191)=κ at *
  generalize w4.heap.size=ky at *;cases vy with
  | none =>obtain rfl:ok=false:=o4;have EC:Hid (dq π rel x y ct (Y e)=(es ++ dp,M,M)):=QS π rel x y ct e EX.out EY.out;have H9:=hid h5;clear h5 hv ov Qs Od WE;go_wp2_with fail;refine(eZ _).mono ?_;rintro q wf⟨rfl,bv⟩;have gB:=H9.call HG.out bv;go_wp2_with fail;refine(eZ _).mono ?_;rintro q wg⟨rfl,bg⟩;have uC:=gB.call HG.out bg;have HT:=hid (uC.ret (U true) (Z M 0 0) (U true) (Z M 0 0));obtain⟨z0,z1,yV,yO,_⟩:=aR uC.r8;obtain⟨y0,y1,Gu,Gf,_⟩:=aR HT.2.2.2.2.1;clear gB uC bv bg H9;go_wp2_with fail;exact bodyPost_ret (v:=φ #[J #[U true,Z M 0 0],J #[U true,Z M 0 0]]) (by simp[results,results108,go_sem,HT.2.2.1.1,HT.2.2.1.2.1,HT.2.2.1.2.2.1,HT.2.2.1.2.2.2]) rfl ⟨_,_,rfl,by rw[EC.out];exact(aF π rec F es dp).symm ▸ HT.1,HT.2.1,by rw[EC.out];rfl,by rw[EC.out];rfl⟩
  | some y0 =>
   obtain⟨rfl,rfl,rfl,wy⟩:=o4;have EC:Hid (dq π rel x y ct (Y e)=(es ++ dp,xZ π rel x y x0 y0 e,xZ π (xE rel) x y x0 y0 e)):=QN π rel x y ct e EX.out EY.out;have Kz:Hid (∀(q:Nat) (_:q<6) (F':jr) (W:Wd),bK C F' W->db C.pb g cap ns W->W.heap[ge]?=Y (L (ia e) 191)->Calls prog 147 #[ρ (Y ⟨C.b,0,M⟩),J #[U false,Z (Y ⟨ge,0,M⟩) 8 8],J #[I O d.kind,I O d.a,I O d.b,I O d.c,I O d.n,I O d.next,χ ⟨d.sign.toArray⟩,I O d.site,I O d.ay,U d.els],J #[I O (pA x0),I O (pB x0)],J #[I O (pA y0),I O (pB y0)],χ ⟨(aL q).toArray⟩] W fun r w'=>∃v,r=υ v/\dM w' v (xZ π q x y x0 y0 e)/\ω W w'):=fun q hq F' W h1 h2 h3 =>
    jI π HG.out HD.2.1 HD.2.2.1 WE.1 WE.2 HE.out YX.out wy (fun n hm hn=>CX π (hn ▸ EX.out)) (fun n hm hn=>CX π (hn ▸ EY.out)) q hq h1 h2 h3
   have H5:=hid (And.intro h5 (And.intro ov (And.intro Qs (And.intro Od hv))));have HOP:Hid (∀w:Wd,Calls prog 148 #[χ ⟨d.sign.toArray⟩] w fun r w'=>r=υ (χ ⟨(aL (xE rel)).toArray⟩)/\w'=w):=fun w=>by rw[HD.2.2.2.1];exact kC rel HD.2.2.2.2 w
   have BN:=Kz.out rel HD.2.2.2.2 _ κ h5.ra h5.look Qs;rw[<-HD.2.2.2.1]at BN;have VR:Hid (Calls _ _ _ _ _):=BN;have b0:=cell_of h5.box 0 (v:=U false) rfl;have b1:=cell_of h5.box 1 (v:=Z (Y ⟨ge,0,M⟩) 8 8) rfl;have n0:=cell_of ov 0 rfl;have n1:=cell_of ov 1 rfl;have n2:=cell_of ov 2 rfl;have n3:=cell_of ov 3 rfl;have n4:=cell_of ov 4 rfl;have n5:=cell_of ov 5 rfl;have n6:=cell_of ov 6 rfl;have n7:=cell_of ov 7 rfl;have n8:=cell_of ov 8 rfl;have n9:=cell_of ov 9 rfl;obtain⟨WL,Xm,_,_,_⟩:=aR Od;obtain⟨VZ,WN,_,_,_⟩:=aR hv;clear BN h5 ov Qs Od hv wy EX EY YX WE;go_wp2_with fail;refine VR.mono ?_;rintro r w6⟨v6,rfl,Xt,b6⟩;obtain⟨a6,m6,c6,rfl⟩:=Xt.form;obtain⟨h5,ov,Qs,Od,hy5⟩:=H5.out;have bb:=b6.alloc b6.size (L #[U (xZ π rel x y x0 y0 e).isNone,Z a6 m6 c6] 121);have h7:=h5.call HG.out bb;have NW:=(bb.block _ (ad ov)).trans ov;have VN:=(bb.block _ (ad Qs)).trans Qs;have hx7:=(bb.block _ (ad Od)).trans Od;have hy7:=(bb.block _ (ad hy5)).trans hy5;have Iu:=Xt.below (below_alloc1 w6 (L #[U (xZ π rel x y x0 y0 e).isNone,Z a6 m6 c6] 121));have UT:=heap_alloc_new w6 (L #[U (xZ π rel x y x0 y0 e).isNone,Z a6 m6 c6] 121);have n7:w6.heap.size≠k8/\w6.heap.size≠k9:=by have q1:=ad h5.r8;have q2:=ad h5.r9;have q3:=b6.size;omega
   clear H5 VR b0 b1 n0 n1 n2 n3 n4 n5 n6 n8 n9 WL Xm VZ WN Xt b6 bb h5 ov Qs Od hy5;have N14:=hid n7;clear n7;generalize eg:(xZ π rel x y x0 y0 e).isNone=nb at *;go_upto_region 11 with fail;generalize w6.alloc (L #[U nb,Z a6 m6 c6] 121)=ν at *
   generalize w6.heap.size=lC at *;have kV:=Kz.out (xE rel) (Zg HD.2.2.2.2) _ ν h7.ra h7.look VN;have WW:Hid (Calls _ _ _ _ _):=kV;have b0:=cell_of h7.box 0 (v:=U false) rfl;have b1:=cell_of h7.box 1 (v:=Z (Y ⟨ge,0,M⟩) 8 8) rfl;have n0:=cell_of NW 0 rfl;have n1:=cell_of NW 1 rfl;have n2:=cell_of NW 2 rfl;have n3:=cell_of NW 3 rfl;have n4:=cell_of NW 4 rfl;have n5:=cell_of NW 5 rfl;have n6:=cell_of NW 6 rfl;have n7:=cell_of NW 7 rfl;have n8:=cell_of NW 8 rfl;have n9:=cell_of NW 9 rfl;obtain⟨WL,Xm,_,_,_⟩:=aR hx7;obtain⟨VZ,WN,_,_,_⟩:=aR hy7;have H7:=hid (And.intro h7 (And.intro Iu UT));clear kV h7 NW VN hx7 hy7 Iu UT Kz;go_wp2_with fail;refine(HOP.out _).mono ?_;rintro r wo⟨rfl,rfl⟩;go_wp2_with fail;refine WW.mono ?_;rintro r w8⟨v8,rfl,Gv,b8⟩;obtain⟨a8,m8,c8,rfl⟩:=Gv.form;obtain⟨h7,Iu,UT⟩:=H7.out;have bb:=b8.alloc b8.size (L #[U (xZ π (xE rel) x y x0 y0 e).isNone,Z a8 m8 c8] 121);have h9:=h7.call HG.out bb;have WC:=Iu.below bb;have TL:=(bb.block _ (ad UT)).trans UT;have ht9:=Gv.below (below_alloc1 w8 (L #[U (xZ π (xE rel) x y x0 y0 e).isNone,Z a8 m8 c8] 121));have Uv:=heap_alloc_new w8 (L #[U (xZ π (xE rel) x y x0 y0 e).isNone,Z a8 m8 c8] 121);have n16:w8.heap.size≠k8/\w8.heap.size≠k9:=by have q1:=ad h7.r8;have q2:=ad h7.r9;have q3:=b8.size;omega
   have N16:=hid n16;clear H7 WW b0 b1 n0 n1 n2 n3 n4 n5 n6 n7 n8 n9 WL Xm VZ WN Gv b8 bb h7 Iu UT n16;generalize aai:(xZ π (xE rel) x y x0 y0 e).isNone=nc at *;go_upto_region 13 with fail;generalize w8.alloc (L #[U nc,Z a8 m8 c8] 121)=Q at *
   generalize w8.heap.size=OF at *;have hS:tw C g cap ns w k6 k8 k9 (U false) (Z (Y ⟨ge,0,M⟩) 8 8) (told π rec (told π rec F es) dp) Q.drew:=h9.call HG.out (Below.refl _ _).drew;have hA:Q.drew.cell? ⟨lC,0,M⟩=Y (U nb)/\Q.drew.cell? ⟨lC,1,M⟩=Y (Z a6 m6 c6):=⟨cell_of TL 0 rfl,cell_of TL 1 rfl⟩;have hB:Q.drew.cell? ⟨OF,0,M⟩=Y (U nc)/\Q.drew.cell? ⟨OF,1,M⟩=Y (Z a8 m8 c8):=⟨cell_of Uv 0 rfl,cell_of Uv 1 rfl⟩;obtain⟨Oj,NN⟩:=N14.out;obtain⟨Oh,Ob⟩:=N16.out;have Ks:=hid (And.intro (WC.below (Below.refl _ _).drew) (ht9.below (Below.refl _ _).drew));clear h9 TL Uv WC ht9 eg aai;have HT:=hid (hS.ret (U nb) (Z a6 m6 c6) (U nc) (Z a8 m8 c8));obtain⟨z0,z1,yV,yO,_⟩:=aR hS.r8;obtain⟨y0,y1,Gu,Gf,_⟩:=aR HT.2.2.2.2.1;refine wp_region_held_drew (S:=fun w':Wd=>w'.cell? ⟨lC,0,M⟩=Y (U nb)/\w'.cell? ⟨lC,1,M⟩=Y (Z a6 m6 c6)/\w'.cell? ⟨OF,0,M⟩=Y (U nc)/\w'.cell? ⟨OF,1,M⟩=Y (Z a8 m8 c8)) (by kernel_rfl) ⟨hA.1,hA.2,hB.1,hB.2⟩ (fun aa=>?_);have Kk:=hid (And.intro ((HT.2.2.2.2.2 lC 0 Oj NN).1.trans hA.1) (And.intro ((HT.2.2.2.2.2 lC 1 Oj NN).1.trans hA.2) (And.intro ((HT.2.2.2.2.2 OF 0 Oh Ob).1.trans hB.1) ((HT.2.2.2.2.2 OF 1 Oh Ob).1.trans hB.2))));have KG:=hid (And.intro ((HT.2.2.2.2.2 lC 0 Oj NN).2.trans hA.1) (And.intro ((HT.2.2.2.2.2 lC 1 Oj NN).2.trans hA.2) (And.intro ((HT.2.2.2.2.2 OF 0 Oh Ob).2.trans hB.1) ((HT.2.2.2.2.2 OF 1 Oh Ob).2.trans hB.2))));clear hA hB Oj NN Oh Ob;generalize Q.drew=V at *;refine tk 0 (J #[U nb,Z a6 m6 c6]) rfl (fun w' h=>by have q:=h.1;have q2:=h.2.1;go_simp) aa ?_;refine tk 1 (J #[U nc,Z a8 m8 c8]) rfl (fun w' h=>by have q:=h.2.2.1;have q2:=h.2.2.2;go_simp) aa ?_;refine bD 2 fun K hK=>?_
   simp only[bp,fB];go_simp;refine hK.out _ _ Kk.out (fun _=>?_);clear hK K;refine bD 3 fun K hK=>?_
   simp only[bp];go_simp;refine hK.out _ _ KG.out (fun _=>?_);clear hK K;refine wpAnyH_done (by kernel_rfl) ?_ _;go_wp2_with fail;exact bodyPost_ret (v:=φ #[J #[U nb,Z a6 m6 c6],J #[U nc,Z a8 m8 c8]]) (by simp[results,results108,go_sem,HT.2.2.1.1,HT.2.2.1.2.1,HT.2.2.1.2.2.1,HT.2.2.1.2.2.2]) rfl ⟨_,_,rfl,by rw[EC.out];exact(aF π rec F es dp).symm ▸ HT.1,HT.2.1,by rw[EC.out];exact HT.2.2.2.1 _ _ Ks.1,by rw[EC.out];exact HT.2.2.2.1 _ _ Ks.2⟩
end
end RG
end
section
namespace RG
open Go.RowKit W
variable {δ : Bool}
section
variable{ns:List aH}
variable{j j' lo hi g cap:Nat}
theorem Cy{j j':Nat}{d d':aH}(h:ns[j]?=Y d)(e:(j:Int)=(j':Int))(h':ns[j']?=Y d'):d=d':=by
 obtain rfl:j=j':=by omega
 rw[h]at h';exact Option.some.inj h'
theorem Vh{t:Bl}{k:Int}{c1 c2:Ct}(h:jw ns lo hi t k c1 c2):t=.nil∨∃(j:Nat) (d:aH),k=(j:Int)/\ns[j]?=Y d/\d.ay=c1.1:=by
 cases t with
 | nil=>exact .inl rfl
 | assign v x r=>obtain⟨j,_,d,_,e,_,_,hd,hp,_⟩:=h;exact .inr ⟨j,d,e,hd,hp⟩
 | read v r=>obtain⟨j,d,e,_,_,hd,hp,_⟩:=h;exact .inr ⟨j,d,e,hd,hp⟩
 | assert q x y r=>obtain⟨j,_,d,_,e,_,_,hd,hp,_⟩:=h;exact .inr ⟨j,d,e,hd,hp⟩
 | ite q x y xs e ys r=>obtain⟨j,_,d,_,_,_,e,_,_,hd,hp,_⟩:=h;exact .inr ⟨j,d,e,hd,hp⟩
 | loop q x y xs r=>obtain⟨j,_,d,_,_,e,_,_,hd,hp,_⟩:=h;exact .inr ⟨j,d,e,hd,hp⟩
theorem JF(π:ar δ)(l:List Int)(hπ:π.l=[-32768,32767] ++ l){C:Rc δ}(G:Gd C g)(hP:C.al<=4/\C.narrow<=3/\C.ai<=3){t0:Bl}{k0:Int}{Ko ct1:Ct}(Xf:jw ns lo hi t0 k0 Ko ct1)(ok0:tG t0)(IH:∀(t:Bl) (k:Int) (c1 c2:Ct),uP t<uP t0->jw ns lo hi t k c1 c2->tG t->rA C π g cap ns l k (cD π C t c1)):rA C π g cap ns l k0 (cD π C t0 Ko):=by
 intro F s0 sv rec w hR hS hL ws0 hv hr;obtain⟨va,vn,vc,rfl⟩:=hv.form;have HW:=OH (l:=l) G hR hS hL hv ws0;have Kw:Hid (Sj C π g cap ns l lo hi t0 Ko s0 F rec w (w.heap.size+1) w.heap.size k0 ((w.alloc (L #[U s0.isNone,Z va vn vc] 121)).alloc (L #[U false,Z M 0 0] 121))):=⟨t0,Ko,ct1,[],s0,Xf,ok0,Nat.le_refl _,Nat.le_refl _,rfl,by rw[dV];exact HW⟩;have HIH:=hid IH;have Ik:=hid hr;have HG:=hid G;have HPP:=hid hP;have ZN:=hid hπ;clear hR hS hL ws0 hv hr HW Xf ok0 IH G hP hπ;go_enter func76,ntmps76;go_wp2_with fail;obtain⟨k6,e6⟩:∃k,k=w.heap.size:=⟨_,rfl⟩;obtain⟨k8,e8⟩:∃k,k=w.heap.size+1:=⟨_,rfl⟩;rw[<-e8,<-e6];rw[<-e8,<-e6]at Kw;clear e8 e6;generalize (w.alloc (L #[U s0.isNone,Z va vn vc] 121)).alloc (L #[U false,Z M 0 0] 121)=W at *
 go_loopw [1] (fun v1 wr=>∃kk:Int,v1=I O kk/\Hid (Sj C π g cap ns l lo hi t0 Ko s0 F rec w k8 k6 kk wr)) (fun v1 _=>chain ns (lY t0) (intOf v1))
 case atStart=>exact⟨k0,rfl,Kw⟩
 case round =>
  obtain⟨kk,rfl,mG⟩:=hrel;obtain⟨t,c1,c2,es,s,qW,ok,hlen,dC,he,hq⟩:=mG.out;have HE:=hid he;have HQ:=hid hq;have uV:Hid (lY t<=lY t0/\uP t<=uP t0):=⟨hlen,dC⟩;have mH:Hid (jw ns lo hi t kk c1 c2/\tG t):=⟨qW,ok⟩;clear mG Kw he hq hlen dC qW ok
  rcases Vh mH.1 with rfl | ⟨j,d,rfl,hd,pJ⟩
  ·obtain⟨rfl,_⟩:=mH.1
   obtain⟨a,n,c,q0,q1,_,_,hs,_⟩:=HQ.box k6 s (by simp);have HT:=hid (HQ.ret hs);obtain⟨z0,z1,yV,yO,_⟩:=aR HQ.res;clear hs;go_wp2_with fail;refine bodyPost_ret (v:=J #[U s.isNone,Z a n c]) (by simp[results,results76,go_sem,HT.2.2.2.1,HT.2.2.2.2]) rfl ⟨_,rfl,?_,HT.2.1,?_⟩
   ·rw[HE.out,GJ];simp only[List.append_nil];exact HT.1
   ·rw[HE.out,GJ];exact HT.2.2.1
  ·have Xc:Hid (ns[j]?=Y d/\d.ay=c1.1):=⟨hd,pJ⟩
   have m0:=cell_of HQ.ra.aT 0 (v:=ρ (Y ⟨C.pb,0,M⟩)) rfl;have c0:=HQ.look.slice;obtain⟨cR,r0,r1,r2,r3,r4,r5,r6,r7,r8,r9⟩:=HQ.look.facts hd;have h1:=HQ.look.ow;have h2:=HQ.look.hmax;have h3:=HQ.look.hn;have HX:=hid (HQ.Zf HG.out d);unfold nX at HX;clear hd pJ;go_upto_region 3 with fail;generalize wr.alloc (L #[I O d.kind,I O d.a,I O d.b,I O d.c,I O d.n,I O d.next,χ ⟨d.sign.toArray⟩,I O d.site,I O d.ay,U d.els] 176)=X at *
   generalize wr.heap.size=kn at *;have HX:Hid (bn C g cap ns l w k8 [(kn,L (nX d) 176)] (told π rec F es) [(k6,s)] X):=HX.out;clear m0 c0 r0 r1 r2 r3 r4 r5 r6 r7 r8 r9 h1 h2 h3 cR HQ;cases s with
   | none =>
    obtain⟨a,n,c,q0,q1,_,_,hs,_⟩:=HX.box k6 M (by simp);have HT:=hid (HX.ret hs);obtain⟨z0,z1,yV,yO,_⟩:=aR HX.res;have q0:X.cell? ⟨k6,0,M⟩=Y (U true):=q0;clear hs;go_wp2_with fail;refine bodyPost_ret (v:=J #[U true,Z a n c]) (by have q3:=HT.2.2.2.1;have q4:=HT.2.2.2.2;simp only[Option.isNone]at q3 q4;simp[results,results76,go_sem,q3,q4]) rfl ⟨_,rfl,?_,HT.2.1,?_⟩
    ·rw[HE.out,E5];simp only[List.append_nil];exact HT.1
    ·rw[HE.out,E5];exact HT.2.2.1
   | some e =>
    cases t with
    | nil=>exact absurd mH.1.1 (by omega)
    | assign v x rest =>
     obtain⟨j',a,d',c3,ej,_,_,Gs,pJ,gC,NQ,Gv,ha,_,hx,cI⟩:=mH.1;obtain rfl:=Cy Xc.1 ej Gs;have HD:Hid (d.ay=c1.1/\d.kind=_):=⟨pJ,gC⟩;have e3:=pZ.cS hx;subst e3;have HWO:Hid (jv C π g cap ns x a (Sp.aA c1)):=gV π HG.out hx;have yL:Hid (jw ns lo hi rest d.next (Sp.cS x (Sp.aA c1)) c2/\tG rest):=⟨cI,by have q:=mH.2;exact fun n hn=>q n (by simp[iy,hn])⟩;have qS:Hid (d.n=(v:Int)/\v<8/\d.a=(a:Int)):=⟨NQ,Gv,ha⟩;clear hx cI NQ Gv ha;clear Gs pJ gC ej;obtain⟨tx,u,hu⟩:∃tx u,dt π x (Sp.aA c1) e=(tx,u):=⟨_,_,rfl⟩;obtain⟨s',df⟩:∃s',u.map (fun z=>sf e v z)=s':=⟨_,rfl⟩;have eO:=F9 π C v x rest c1 e hu df;have rr:=wY Ik.out HE.out eO;have qV:=hid (And.intro (cV.left rr) (cV.right (π:=π) rr));have jo:=hid eO;have HU:=hid hu;clear rr eO hu;have hn:=HX.node kn d (List.mem_cons_self ..);have n0:=cell_of hn 0 (v:=I O 6) (by rw[<-HD.2];rfl);have n8:=cell_of hn 8 (v:=I O c1.1) (by rw[<-HD.1];rfl);obtain⟨sa,sn,sc,BZ,Qu,_,_,jE,qT⟩:=HX.box k6 (Y e) (by simp);have BZ:X.cell? ⟨k6,0,M⟩=Y (U false):=BZ;have HC:=hid (o9 π HG.out HX.out c1.1 jE qT qV.1);have Gp:=hid qT;simp only[Option.isNone_some]at HC;clear hn jE qT;go_wp2_with fail;refine HC.mono ?_;rintro r w2⟨rfl,h2⟩;have H2:Hid (bn C g cap ns l w k8 [(kn,L (nX d) 176)] (told π rec (told π rec F es) [.ay c1.1 e]) [(k6,Y e)] w2):=h2;clear h2 HC n8 BZ Qu HX n0;have hn:=H2.node kn d (List.mem_cons_self ..);have n0:=cell_of hn 0 (v:=I O 6) (by rw[<-HD.2];rfl);have n1:=cell_of hn 1 (v:=I O (a:Nat)) (by rw[<-qS.2.2];rfl);obtain⟨ge,q0,q1,_,_,hg,we⟩:=H2.RZ k6 e (by simp);have HC:=hid (MC HWO.out HG.out H2.out hg we HU.out qV.2);have HWE:=hid we;clear hn hg we;go_wp2_with fail;refine HC.mono ?_;rintro r w3⟨xa,xb,okk,rfl,h3,Gt,ho⟩;have H4:=hid (h3.VD HG.out (I O xa) (I O xb));clear h3 Gt HC n1 q0 q1 H2 n0;go_upto_region 10 with fail;generalize w3.alloc (L #[I O xa,I O xb] 191)=w4 at *
     generalize w3.heap.size=D2 at *;cases u with
     | none =>
      obtain rfl:okk=false:=ho;obtain rfl:s'=M:=df.symm;obtain⟨sa,sn,sc,q0,q1,_,_,_,_⟩:=H4.box k6 (Y e) (by simp);clear HU;go_wp2_with fail;refine(eZ _).mono ?_;rintro r w5⟨rfl,b5⟩;have h5:=H4.call HG.out b5;obtain⟨sa,sn,sc,q0,q1,yJ,yH,_,_⟩:=h5.box k6 (Y e) (by simp);have H6:=hid (h5.put HG.out (s':=M) (a:=M) (n:=0) (c:=0) rfl (fun _ q=>by cases q));simp only[Option.isNone_none]at H6;clear h5 b5 H4;go_upto_region 27 with fail;generalize (w5.setCell ⟨k6,0,M⟩ (U true)).setCell ⟨k6,1,M⟩ (Z M 0 0)=ν at *
      have hn:=H6.node kn d (by simp);have n5:=cell_of hn 5 (v:=I O d.next) rfl;have HN:Hid (_/\_):=pr (F:=F) (rec:=rec) mH.1 yL.1 yL.2 uV.1 uV.2 rfl (by exact Nat.le_succ _) HE.out jo.out (by rw[aF];exact H6.OX.OX);clear hn;go_wp2_with fail;exact⟨⟨_,rfl,HN.1⟩,HN.2⟩
     | some x0 =>
      obtain⟨rfl,rfl,rfl,wx⟩:=ho;have hn:=H4.node kn d (by simp);have n4:=cell_of hn 4 (v:=I O (v:Nat)) (by rw[<-qS.1];rfl);obtain⟨_,hv,_⟩:=H4.ob (D2,L #[I O (pA x0),I O (pB x0)] 191) (List.mem_cons_self ..);obtain⟨v0,v1,_,_,_⟩:=aR hv;obtain⟨ge,q0,q1,_,_,hg,_⟩:=H4.RZ k6 e (by simp);have fK:s'=Y (sf e v x0):=df.symm;have HC:=hid (GH HG.out H4.out hg qS.2.1 x0 fK);have Gx:Hid (ew δ s'):=fun e' x9 k=>by
       rw[fK]at x9;cases x9
       unfold sf;split
       ·exact wx
       ·exact HWE.out k
      clear hn hv hg wx fK df HU;go_wp2_with fail;refine HC.mono ?_;rintro r w5⟨a1,b1,d1,rfl,h5,Rb⟩;obtain⟨sa,sn,sc,q0,q1,yJ,yH,_,_⟩:=h5.box k6 (Y e) (by simp);have H6:=hid (h5.put HG.out Rb Gx.out);clear h5 Rb H4 HC v0 v1 n4;go_upto_region 27 with fail;generalize (w5.setCell ⟨k6,0,M⟩ (U s'.isNone)).setCell ⟨k6,1,M⟩ (Z a1 b1 d1)=ν at *
      have hn:=H6.node kn d (by simp);have n5:=cell_of hn 5 (v:=I O d.next) rfl;have HN:Hid (_/\_):=pr (F:=F) (rec:=rec) mH.1 yL.1 yL.2 uV.1 uV.2 rfl (by exact Nat.le_succ _) HE.out jo.out (by rw[aF];exact H6.OX.OX);clear hn;go_wp2_with fail;exact⟨⟨_,rfl,HN.1⟩,HN.2⟩
    | read v rest =>
     obtain⟨j',d',ej,_,_,Gs,pJ,gC,NQ,Gv,cI⟩:=mH.1;obtain rfl:=Cy Xc.1 ej Gs;have HD:Hid (d.ay=c1.1/\d.kind=_):=⟨pJ,gC⟩;have yL:Hid (jw ns lo hi rest d.next (Sp.aA c1) c2/\tG rest):=⟨cI,by have q:=mH.2;exact fun n hn=>q n (by simp[iy,hn])⟩;have qS:Hid (d.n=(v:Int)/\v<8):=⟨NQ,Gv⟩;clear cI NQ Gv;clear Gs pJ gC ej;obtain⟨s',df⟩:∃s',s'=Y (sf e v (dc δ)):=⟨_,rfl⟩;have eO:=Mh π C v rest c1 e;rw[<-df]at eO;have qV:Hid (_/\True):=And.intro (wY Ik.out HE.out eO) trivial;have jo:=hid eO;have HS':Hid (s'=Y (sf e v (dc δ))):=df;clear eO df;have hn:=HX.node kn d (List.mem_cons_self ..);have n0:=cell_of hn 0 (v:=I O 7) (by rw[<-HD.2];rfl);have n8:=cell_of hn 8 (v:=I O c1.1) (by rw[<-HD.1];rfl);obtain⟨sa,sn,sc,BZ,Qu,_,_,jE,qT⟩:=HX.box k6 (Y e) (by simp);have BZ:X.cell? ⟨k6,0,M⟩=Y (U false):=BZ;have HC:=hid (o9 π HG.out HX.out c1.1 jE qT qV.1);have Gp:=hid qT;simp only[Option.isNone_some]at HC;clear hn jE qT;go_wp2_with fail;refine HC.mono ?_;rintro r w2⟨rfl,h2⟩;have H2:Hid (bn C g cap ns l w k8 [(kn,L (nX d) 176)] (told π rec (told π rec F es) [.ay c1.1 e]) [(k6,Y e)] w2):=h2;clear h2 HC n8 BZ Qu HX n0;have hn:=H2.node kn d (List.mem_cons_self ..);have n0:=cell_of hn 0 (v:=I O 7) (by rw[<-HD.2];rfl);have m1:=H2.ra.cells.1;clear hn;go_wp2_with fail;refine(H2.ra.bY.whole _).mono ?_;rintro r w3⟨rfl,b3⟩;have H4:Hid (bn _ _ _ _ _ _ _ _ _ _ _):=(H2.call HG.out b3).VD HG.out (I O (pA (dc δ))) (I O (pB (dc δ)));clear b3 H2 n0 m1;go_upto_region 15 with fail;generalize w3.alloc (L #[I O (pA (dc δ)),I O (pB (dc δ))] 191)=w4 at *
     generalize w3.heap.size=D2 at *;have hn:=H4.node kn d (by simp);have n4:=cell_of hn 4 (v:=I O (v:Nat)) (by rw[<-qS.1];rfl);obtain⟨_,hv,_⟩:=H4.ob (D2,L #[I O (pA (dc δ)),I O (pB (dc δ))] 191) (List.mem_cons_self ..);obtain⟨v0,v1,_,_,_⟩:=aR hv;obtain⟨ge,q0,q1,_,_,hg,we⟩:=H4.RZ k6 e (by simp);have HC:=hid (GH HG.out H4.out hg qS.2 (dc δ) HS'.out);have Gx:Hid (ew δ s'):=fun e' x9 k=>by
      rw[HS'.out]at x9;cases x9
      unfold sf;split
      ·exact(Kr π).wwhole
      ·exact we k
     clear hn hv hg we;go_wp2_with fail;refine HC.mono ?_;rintro r w5⟨a1,b1,d1,rfl,h5,Rb⟩;obtain⟨sa,sn,sc,q0,q1,yJ,yH,_,_⟩:=h5.box k6 (Y e) (by simp);have H6:=hid (h5.put HG.out Rb Gx.out);clear h5 Rb H4 HC v0 v1 n4;go_upto_region 27 with fail;generalize (w5.setCell ⟨k6,0,M⟩ (U s'.isNone)).setCell ⟨k6,1,M⟩ (Z a1 b1 d1)=ν at *
     have hn:=H6.node kn d (by simp);have n5:=cell_of hn 5 (v:=I O d.next) rfl;have HN:=hid (pr (F:=F) (rec:=rec) mH.1 yL.1 yL.2 uV.1 uV.2 rfl (by exact Nat.le_succ _) HE.out jo.out (by exact H6.OX.OX));clear hn;go_wp2_with fail;exact⟨⟨_,rfl,HN.1⟩,HN.2⟩
    | assert r x y rest =>
     obtain⟨j',a,d',c3,ej,_,_,Gs,pJ,gC,gI,ha,_,hx,cI⟩:=mH.1;obtain rfl:=Cy Xc.1 ej Gs;have HD:Hid (d.ay=c1.1/\d.kind=_):=⟨pJ,gC⟩;have e3:=yG.cS hx;subst e3;have Xw:Hid (zG C π g cap ns a (dq π r x y (Sp.aJ (Sp.aA c1)))):=sI π HG.out hx;have yL:Hid (jw ns lo hi rest d.next (Sp.cS y (Sp.cS x (Sp.aJ (Sp.aA c1)))) c2/\tG rest):=⟨cI,by have q:=mH.2;exact fun n hn=>q n (by simp[iy,hn])⟩;have sr:Hid (wK x/\wK y):=⟨by have q:=mH.2;exact fun n hn=>q n (by simp[iy,hn]),by have q:=mH.2;exact fun n hn=>q n (by simp[iy,hn])⟩;have qS:Hid (d.site=c1.2/\d.a=(a:Int)):=⟨gI,ha⟩;clear hx cI gI ha;clear Gs pJ gC ej;obtain⟨te,yes,no,hco⟩:∃te yes no,dq π r x y (Sp.aJ (Sp.aA c1)) (Y e)=(te,yes,no):=⟨_,_,_,rfl⟩;have eO:=F5 π C r x y rest c1 e hco;rw[show no.isSome=!no.isNone by cases no<;>rfl]at eO;have rr:=wY Ik.out HE.out eO;have qV:Hid (_/\_/\_):=And.intro (cV.left (cV.left rr)) (And.intro (cV.right (π:=π) (cV.left rr)) (by have q:=cV.right (π:=π) rr;rw[aF]at q;exact q));have jo:=hid eO;have Ed:=hid hco;clear rr eO hco;have hn:=HX.node kn d (List.mem_cons_self ..);have n0:=cell_of hn 0 (v:=I O 8) (by rw[<-HD.2];rfl);have n8:=cell_of hn 8 (v:=I O c1.1) (by rw[<-HD.1];rfl);obtain⟨sa,sn,sc,BZ,Qu,_,_,jE,qT⟩:=HX.box k6 (Y e) (by simp);have BZ:X.cell? ⟨k6,0,M⟩=Y (U false):=BZ;have HC:=hid (o9 π HG.out HX.out c1.1 jE qT qV.1);have Gp:=hid qT;simp only[Option.isNone_some]at HC;clear hn jE qT;go_wp2_with fail;refine HC.mono ?_;rintro r w2⟨rfl,h2⟩;have H2:Hid (bn C g cap ns l w k8 [(kn,L (nX d) 176)] (told π rec (told π rec F es) [.ay c1.1 e]) [(k6,Y e)] w2):=h2;clear h2 HC n8 BZ Qu HX n0;have hn:=H2.node kn d (List.mem_cons_self ..);have n0:=cell_of hn 0 (v:=I O 8) (by rw[<-HD.2];rfl);have n1:=cell_of hn 1 (v:=I O (a:Nat)) (by rw[<-qS.2];rfl);obtain⟨sa,sn,sc,q0,q1,_,_,jE,_⟩:=H2.box k6 (Y e) (by simp);have HC:=hid (Xw.go HG.out H2.out Ed.out jE Gp.out qV.2.1);have jB:Hid (ew δ yes/\ew δ no):=by have q:=Lf π (r:=r) sr.1 sr.2 (Sp.aJ (Sp.aA c1)) Gp.out;rw[Ed.out]at q;exact q
     simp only[Option.isNone_some]at HC q0;clear hn jE;go_wp2_with fail;refine HC.mono ?_;rintro r w3⟨a1,b1,d1,a2,b2,d2,rfl,h3,hy,Oa⟩;have H4:=hid (h3.Jt HG.out hy jB.1 Oa jB.2);clear h3 hy Oa HC n1 q0 q1 H2 n0;go_upto_region 18 with fail;generalize (w3.alloc (L #[U yes.isNone,Z a1 b1 d1] 121)).alloc (L #[U no.isNone,Z a2 b2 d2] 121)=w4 at *
     generalize w3.heap.size=mF at *;have hn:=H4.node kn d (by simp);have n7:=cell_of hn 7 (v:=I O c1.2) (by rw[<-qS.1];rfl);obtain⟨ya,yn,yc,OC,Qi,_,_,_,_⟩:=H4.box (mF+1) no (by simp);have HC:=hid (Ld π HG.out H4.out c1.2 (!no.isNone) qV.2.2);clear hn;obtain⟨nb,eg⟩:∃nb,nb=no.isNone:=⟨_,rfl⟩;rw[<-eg]at OC HC jo;clear eg;go_wp2_with fail;refine HC.mono ?_;rintro r w5⟨rfl,h5⟩;obtain⟨xa,xn,xc,x0,x1,_,_,zY,_⟩:=h5.box mF yes (by simp);obtain⟨sa,sn,sc,q0,q1,yJ,yH,_,_⟩:=h5.box k6 (Y e) (by simp);have H6:=hid (h5.dr.dr.put HG.out zY jB.1);clear h5 zY H4 HC n7 OC Qi;go_upto_region 27 with fail;generalize (w5.setCell ⟨k6,0,M⟩ (U yes.isNone)).setCell ⟨k6,1,M⟩ (Z xa xn xc)=ν at *
     have hn:=H6.node kn d (by simp);have n5:=cell_of hn 5 (v:=I O d.next) rfl;have HN:Hid (_/\_):=pr (F:=F) (rec:=rec) mH.1 yL.1 yL.2 uV.1 uV.2 rfl (by exact Nat.le_succ _) HE.out jo.out (by rw[aF,aF];exact H6.OX);clear hn;go_wp2_with fail;exact⟨⟨_,rfl,HN.1⟩,HN.2⟩
    | ite r x y xs els ys rest =>
     obtain⟨j',a,d',c3,c4,c5,ej,_,_,Gs,pJ,gC,aal,ha,_,hx,BI,Ty,Uz,cI⟩:=mH.1;obtain rfl:=Cy Xc.1 ej Gs;have HD:Hid (d.ay=c1.1/\d.kind=_):=⟨pJ,gC⟩;have Th:Hid (c3=Sp.cS y (Sp.cS x (Sp.aA c1))/\c4=Sp.cB xs c3/\c5=Sp.cB ys c4/\(els=false->ys=.nil)):=⟨yG.cS hx,jw.cB BI,jw.cB Ty,Uz⟩;have Xw:Hid (zG C π g cap ns a (dq π r x y (Sp.aA c1))):=sI π HG.out hx;have yL:Hid (jw ns lo hi rest d.next c5 c2/\tG rest):=⟨cI,by have q:=mH.2;exact fun n hn=>q n (by simp[iy,hn])⟩;have sr:Hid (wK x/\wK y/\tG xs/\tG ys):=⟨by have q:=mH.2;exact fun n hn=>q n (by simp[iy,hn]),by have q:=mH.2;exact fun n hn=>q n (by simp[iy,hn]),by have q:=mH.2;exact fun n hn=>q n (by simp[iy,hn]),by have q:=mH.2;exact fun n hn=>q n (by simp[iy,hn])⟩;have BN:Hid (rA C π g cap ns l d.b (cD π C xs c3)):=HIH.out xs d.b c3 c4 (by have q:=uV.2;simp only[uP]at q;omega) BI sr.2.2.1;have kV:Hid (rA C π g cap ns l d.c (cD π C ys c4)):=HIH.out ys d.c c4 c5 (by have q:=uV.2;simp only[uP]at q;omega) Ty sr.2.2.2;have qS:=hid ha;clear hx BI Ty Uz cI ha aal;clear Gs pJ gC ej;obtain⟨te,yes,no,hco⟩:∃te yes no,dq π r x y (Sp.aA c1) (Y e)=(te,yes,no):=⟨_,_,_,rfl⟩;obtain⟨t1,u1,Ky⟩:∃t1 u1,cD π C xs c3 yes=(t1,u1):=⟨_,_,rfl⟩;obtain⟨t2,u2,Ov⟩:∃t2 u2,cD π C ys c4 no=(t2,u2):=⟨_,_,rfl⟩;obtain⟨s',df⟩:∃s',uY δ u1 u2=s':=⟨_,rfl⟩;have eO:=P4 π C r x y xs els ys rest c1 e Th.2.2.2 Th.1 Th.2.1 Th.2.2.1 hco Ky Ov df;have rr:=wY Ik.out HE.out eO;have r0:=cV.right (π:=π) rr;have qV:Hid (_/\_/\_/\_):=And.intro (cV.left rr) (And.intro (cV.left (cV.left r0)) (And.intro (cV.right (π:=π) (cV.left r0)) (by have q:=cV.right (π:=π) r0;rw[aF]at q;exact q)));have jo:=hid eO;have Ed:=hid hco;have HU:Hid (cD π C xs c3 yes=(t1,u1)/\cD π C ys c4 no=(t2,u2)/\uY δ u1 u2=s'):=⟨Ky,Ov,df⟩;clear rr r0 eO hco Ky Ov df;have hn:=HX.node kn d (List.mem_cons_self ..);have n0:=cell_of hn 0 (v:=I O 9) (by rw[<-HD.2];rfl);have n8:=cell_of hn 8 (v:=I O c1.1) (by rw[<-HD.1];rfl);obtain⟨sa,sn,sc,BZ,Qu,_,_,jE,qT⟩:=HX.box k6 (Y e) (by simp);have BZ:X.cell? ⟨k6,0,M⟩=Y (U false):=BZ;have HC:=hid (o9 π HG.out HX.out c1.1 jE qT qV.1);have Gp:=hid qT;simp only[Option.isNone_some]at HC;clear hn jE qT;go_wp2_with fail;refine HC.mono ?_;rintro r w2⟨rfl,h2⟩;have H2:Hid (bn C g cap ns l w k8 [(kn,L (nX d) 176)] (told π rec (told π rec F es) [.ay c1.1 e]) [(k6,Y e)] w2):=h2;clear h2 HC n8 BZ Qu HX n0;have hn:=H2.node kn d (List.mem_cons_self ..);have n0:=cell_of hn 0 (v:=I O 9) (by rw[<-HD.2];rfl);have n1:=cell_of hn 1 (v:=I O (a:Nat)) (by rw[<-qS.out];rfl);obtain⟨sa,sn,sc,q0,q1,_,_,jE,_⟩:=H2.box k6 (Y e) (by simp);have HC:=hid (Xw.go HG.out H2.out Ed.out jE Gp.out qV.2.1);have jB:Hid (ew δ yes/\ew δ no):=by have q:=Lf π (r:=r) sr.1 sr.2.1 (Sp.aA c1) Gp.out;rw[Ed.out]at q;exact q
     have Ou:Hid (ew δ u1/\ew δ u2):=by have q1:=Gc π C sr.2.2.1 c3 jB.1;have q2:=Gc π C sr.2.2.2 c4 jB.2;rw[HU.1]at q1;rw[HU.2.1]at q2;exact⟨q1,q2⟩
     simp only[Option.isNone_some]at HC q0;clear hn jE;go_wp2_with fail;refine HC.mono ?_;rintro r w3⟨a1,b1,d1,a2,b2,d2,rfl,h3,hy,Oa⟩;have H4:=hid (h3.Jt HG.out hy jB.1 Oa jB.2);clear h3 hy Oa HC n1 q0 q1 H2 n0;go_upto_region 22 with fail;generalize (w3.alloc (L #[U yes.isNone,Z a1 b1 d1] 121)).alloc (L #[U no.isNone,Z a2 b2 d2] 121)=w4 at *
     generalize w3.heap.size=Eb at *;have hn:=H4.node kn d (by simp);have n2:=cell_of hn 2 (v:=I O d.b) rfl;obtain⟨ya,yn,yc,OC,Qi,_,_,jE,_⟩:=H4.box Eb yes (by simp);have HC:=hid (BN.go HG.out H4.out HU.1 jE jB.1 qV.2.2.1);clear hn jE;go_wp2_with fail;refine HC.mono ?_;rintro r w5⟨a3,b3,d3,rfl,h5,Rb⟩;clear OC Qi;obtain⟨ya,yn,yc,OC,Qi,tf0,ZU,_,_⟩:=h5.box Eb yes (by simp);have H6:=hid (h5.sw.put HG.out Rb Ou.1);clear h5 Rb H4 HC n2;go_upto_region 23 with fail;generalize (w5.setCell ⟨Eb,0,M⟩ (U u1.isNone)).setCell ⟨Eb,1,M⟩ (Z a3 b3 d3)=w6 at *
     clear OC Qi tf0 ZU;have hn:=H6.node kn d (by simp);have n3:=cell_of hn 3 (v:=I O d.c) rfl;obtain⟨ya,yn,yc,OC,Qi,_,_,jE,_⟩:=H6.box (Eb+1) no (by simp);have HC:=hid (kV.go HG.out H6.out HU.2.1 jE jB.2 qV.2.2.2);clear hn jE;go_wp2_with fail;refine HC.mono ?_;rintro r w7⟨a4,b4,d4,rfl,h7,hu7⟩;clear OC Qi;obtain⟨ya,yn,yc,OC,Qi,tf0,ZU,_,_⟩:=h7.box (Eb+1) no (by simp);have H8:=hid (h7.sw.put HG.out hu7 Ou.2);clear h7 hu7 H6 HC n3;go_upto_region 24 with fail;generalize (w7.setCell ⟨Eb+1,0,M⟩ (U u2.isNone)).setCell ⟨Eb+1,1,M⟩ (Z a4 b4 d4)=w8 at *
     clear OC Qi tf0 ZU;obtain⟨xa,xn,xc,x0,x1,_,_,zY,_⟩:=H8.box Eb u1 (by simp);obtain⟨ya,yn,yc,y0,y1,_,_,ht5,_⟩:=H8.box (Eb+1) u2 (by simp);have HC:=hid (pv HG.out H8.out HU.2.2 zY Ou.1 ht5 Ou.2);have Gx:Hid (ew δ s'):=by have q:=oC Ou.1 Ou.2;rw[HU.2.2]at q;exact q
     clear zY ht5;go_wp2_with fail;refine HC.mono ?_;rintro r w9⟨a5,b5,d5,rfl,h9,hu9⟩;obtain⟨sa,sn,sc,q0,q1,yJ,yH,_,_⟩:=h9.box k6 (Y e) (by simp);have H10:=hid (h9.dr.dr.put HG.out hu9 Gx.out);clear h9 hu9 H8 HC x0 x1 y0 y1;go_upto_region 27 with fail;generalize (w9.setCell ⟨k6,0,M⟩ (U s'.isNone)).setCell ⟨k6,1,M⟩ (Z a5 b5 d5)=ν at *
     have hn:=H10.node kn d (by simp);have n5:=cell_of hn 5 (v:=I O d.next) rfl;have HN:Hid (_/\_):=pr (F:=F) (rec:=rec) mH.1 yL.1 yL.2 uV.1 uV.2 rfl (by simp only[uP];omega) HE.out jo.out (by rw[aF,aF,aF];exact H10.OX);clear hn;go_wp2_with fail;exact⟨⟨_,rfl,HN.1⟩,HN.2⟩
    | loop r x y xs rest =>
     obtain⟨j',a,d',c3,c4,ej,_,_,Gs,pJ,gC,ha,_,hx,BI,cI⟩:=mH.1;obtain rfl:=Cy Xc.1 ej Gs;have HD:Hid (d.ay=c1.1/\d.kind=_):=⟨pJ,gC⟩;have Th:Hid (c3=Sp.cS y (Sp.cS x (Sp.aA c1))/\c4=Sp.cB xs c3):=⟨yG.cS hx,jw.cB BI⟩;have Xw:Hid (zG C π g cap ns a (dq π r x y (Sp.aA c1))):=sI π HG.out hx;have yL:Hid (jw ns lo hi rest d.next c4 c2/\tG rest):=⟨cI,by have q:=mH.2;exact fun n hn=>q n (by simp[iy,hn])⟩;have sr:Hid (wK x/\wK y/\tG xs):=⟨by have q:=mH.2;exact fun n hn=>q n (by simp[iy,hn]),by have q:=mH.2;exact fun n hn=>q n (by simp[iy,hn]),by have q:=mH.2;exact fun n hn=>q n (by simp[iy,hn])⟩;have BN:Hid (rA C π g cap ns l d.b (cD π C xs c3)):=HIH.out xs d.b c3 c4 (by have q:=uV.2;simp only[uP]at q;omega) BI sr.2.2;have qS:=hid ha;clear hx BI cI ha;clear Gs pJ gC ej;obtain⟨te,s',hw⟩:∃te s',rS π C (dq π r x y (Sp.aA c1)) (cD π C xs c3) c1.1 (Y e)=(te,s'):=⟨_,_,rfl⟩;have eO:=KM π C r x y xs rest c1 e Th.1 Th.2 hw;have rr:=wY Ik.out HE.out eO;have qV:Hid (cV rec (told π rec F es) te):=fun hb ev hv=>rr hb ev (List.mem_cons_of_mem _ hv)
     have jo:=hid eO;have R:=rgs π C (r:=r) sr.1 sr.2.1 sr.2.2 (Sp.aA c1) c3;obtain⟨sa,sn,sc,q0,q1,_,_,jE,qT⟩:=HX.box k6 (Y e) (by simp);have hTL:=IL π C R c1.1 rec (told π rec F es) (qT e rfl);rw[hw]at hTL;have HTL:=hid hTL;have hC:=kG π l ZN.out HG.out HPP.out d qS.out Xw.out BN.out R (told π rec F es) (Y e) _ rec X HX.ra HX.u6 HX.look qT jE (by rw[HD.1,hw];exact qV.out);have hWS:=FN (K:=Kr π) (P:=ib C) R.wc R.wb R.nc R.nb c1.1 qT;have Gx:Hid (ew δ s'):=by have q:ew δ (rS π C (dq π r x y (Sp.aA c1)) (cD π C xs c3) c1.1 (Y e)).2:=hWS;rw[hw]at q;exact q
     rw[HD.1,hw]at hC;have HC:=hid hC;unfold nX at HC;simp only[Option.isNone_some]at HC q0;have hn:=HX.node kn d (List.mem_cons_self ..);have n0:=cell_of hn 0 (v:=I O 10) (by rw[<-HD.2];rfl);rw[HD.2,HD.1]at HC;have n1:=cell_of hn 1 (v:=I O d.a) rfl;have n2:=cell_of hn 2 (v:=I O d.b) rfl;have n3:=cell_of hn 3 (v:=I O d.c) rfl;have n4:=cell_of hn 4 (v:=I O d.n) rfl;have n5:=cell_of hn 5 (v:=I O d.next) rfl;have n6:=cell_of hn 6 (v:=χ ⟨d.sign.toArray⟩) rfl;have n7:=cell_of hn 7 (v:=I O d.site) rfl;have n8:=cell_of hn 8 (v:=I O c1.1) (by rw[<-HD.1];rfl);have n9:=cell_of hn 9 (v:=U d.els) rfl;clear hn jE qT hC hWS hTL hw rr eO R;go_wp2_with fail;refine HC.mono ?_;rintro r w5⟨v5,rfl,ra5,k5,QC⟩;have QC:dM w5 v5 s':=QC;obtain⟨a1,b1,d1,rfl⟩:=QC.form;have h5:=HX.step HG.out ra5 k5;clear q0 q1 n0 n1 n2 n3 n4 n5 n6 n7 n8 n9;obtain⟨sa,sn,sc,q0,q1,yJ,yH,_,_⟩:=h5.box k6 (Y e) (by simp);have H6:=hid (h5.put HG.out QC Gx.out);clear h5 QC HX HC ra5 k5;go_upto_region 27 with fail;generalize (w5.setCell ⟨k6,0,M⟩ (U s'.isNone)).setCell ⟨k6,1,M⟩ (Z a1 b1 d1)=ν at *
     have hn:=H6.node kn d (by simp);have n5:=cell_of hn 5 (v:=I O d.next) rfl;have HN:Hid (_/\_):=pr (F:=F) (rec:=rec) mH.1 yL.1 yL.2 uV.1 uV.2 rfl (by simp only[uP];omega) HE.out jo.out (by rw[HTL.out];exact H6.OX);clear hn;go_wp2_with fail;exact⟨⟨_,rfl,HN.1⟩,HN.2⟩
theorem xx(π:ar δ)(l:List Int)(hπ:π.l=[-32768,32767] ++ l){C:Rc δ}(G:Gd C g)(hP:C.al<=4/\C.narrow<=3/\C.ai<=3):∀(n:Nat) (t:Bl) (k:Int) (c1 c2:Ct),uP t<n->jw ns lo hi t k c1 c2->tG t->rA C π g cap ns l k (cD π C t c1)
 | 0,_,_,_,_,h,_,_=>absurd h (Nat.not_lt_zero _)
 | n+1,_,_,_,_,h,hb,ok=>JF π l hπ G hP hb ok fun t k c1 c2 h' Is TV=>xx π l hπ G hP n t k c1 c2 (by omega) Is TV
end
end RG
end
section
namespace RG
open Go.RowKit W
variable {δ : Bool}
section
variable{w1 W w w':Wd}
variable{es:iJ}
variable{u:dw}
theorem RV(π:ar δ)(μ:List Int)(hπ:π.l=[-32768,32767] ++ μ){C:Rc δ}(hW:RW C)(hP:C.al<=4/\C.narrow<=3/\C.ai<=3){ns:List aH}{t:Bl}{first:Int}{ct:Ct}(qW:jw ns 0 ns.length t first (0,0) ct)(ok:tG t)(hb:C.base=w1.heap.size)(Q4:C.pb<w1.heap.size)(Im:(∃g cap,db C.pb g cap ns w1/\g<w1.heap.size)∨t=.nil){F:jr}(Eh:ω w1 W)(hR:bK C F W)(hS:jg C μ W){e:dS}{ge:Nat}(he:∀k,Wv δ (e k))(hg:Bk W ge (ia e) 191)(hu:cD π C t (0,0) (Y e)=(es,u))(hr:cV true F es) :
  Calls prog 76 #[ρ (Y ⟨C.b,0,M⟩),I O first,J #[U false,Z (Y ⟨ge,0,M⟩) 8 8],U true] W fun r w'=>∃a n c,r=υ (J #[U u.isNone,Z a n c])/\bK C (told π true F es) w'/\RK C W w'/\dM w' (J #[U u.isNone,Z a n c]) u:=by
 rcases Im with⟨g,cap,hl,uA⟩ | rfl
 ·have hC:=xx π μ hπ (g:=g) (cap:=cap) ⟨by rw[hb];exact Q4,by rw[hb];exact uA,hW⟩ hP (uP t+1) t first (0,0) ct (Nat.lt_succ_self _) qW ok F (Y e) (J #[U false,Z (Y ⟨ge,0,M⟩) 8 8]) true W hR hS (CQ ⟨by rw[hb];exact Q4,by rw[hb];exact uA,hW⟩ hl (by rw[hb];exact Eh)) (fun e' h=>by cases h;exact he) ⟨ge,rfl,hg⟩ (by rw[hu];exact hr)
  rw[hu]at hC;refine hC.mono ?_;rintro r w'⟨v,rfl,h1,h2,h3⟩;have xJ:dM w' v u:=h3;obtain⟨a,n,c,rfl⟩:=xJ.form;exact⟨a,n,c,rfl,h1,h2,xJ⟩
 ·obtain⟨rfl,_⟩:=qW
  have DW:(([]:iJ),(Y e:dw))=(es,u):=hu;injection DW with e1 e2
  subst e1 e2;refine(Ns C.b false (Y ⟨ge,0,M⟩) 8 8 true W).mono ?_;rintro r w'⟨rfl,b⟩;exact⟨_,_,_,rfl,by rw[dV];exact hR.call b,RK.aB b hR.le,⟨ge,rfl,(b.block _ (ad hg)).trans hg⟩⟩
theorem MX:zT=gz δ 0:=by cases δ<;>rfl
theorem GV:Wv δ zT:=by rw[MX (δ:=δ)];exact(Kr (⟨[]⟩:ar δ)).wnum 0 ⟨by omega,by omega⟩
theorem Sh{op:Oper}{a:Act}{K:Act->Wd->Prop}{Q:Exit->Act->Wd->Prop}(x y:Operand)(t:TypeId)(ho:op.op=.call { callee:=.builtin .append,args:=#[x,y],argTypes:=#[t,t] }){v u v':Value}(hx:a.eval x=v)(hy:a.eval y=u)(hr:(Builtin.append_ #[t,t] op.type #[v,u]).run prog w=.ok v' w')(h:K (a.put op.dst v') w'):op.wp prog a w K Q:=by unfold Oper.wp execOp;simp only[ho,resolve,invoke,builtin,Sem.run_bind,Sem.run_pure,Result.andThen_ok,List.map_toArray,List.map_cons,List.map_nil,hx,hy,hr];exact h
theorem OZ(π:ar δ)(C:Rc δ){t:Bl}(hs:Sp.Small (0,0) (Sp.pB t) (Sp.qB t))(e:dS)(hu:cD π C t (0,0) (Y e)=(es,u)):cV true (List.replicate (Sp.pB t+1) M,List.replicate (Sp.qB t) 0) es/\cV true (told π true (List.replicate (Sp.pB t+1) M,List.replicate (Sp.qB t) 0) es) (tL ((Sp.pB t:Nat):Int) u):=by
 refine⟨fun _ ev hv=>?_,fun _ ev hv=>?_⟩
 ·have q:=jy (D:=Dm π) (ib C) t (0,0) hs (Y e) ev (by have DW:(Sp.cD (Dm π) (ib C) t (0,0) (Y e)).1=es:=congrArg Prod.fst hu;rw[DW];exact hv)
  cases ev with
  | ay p s =>obtain⟨q1,q2⟩:=q;refine⟨q1,?_⟩;simp only[List.length_replicate];simp only at q1 q2;omega
  | site p s =>obtain⟨q1,q2⟩:=q;refine⟨q1,?_⟩;simp only[List.length_replicate];simp only at q1 q2;omega
 ·obtain⟨l1,_⟩:=iY π true (List.replicate (Sp.pB t+1) M,List.replicate (Sp.qB t) 0) es
  cases u with
  | none=>cases hv
  | some s =>obtain rfl:=List.mem_singleton.1 hv;refine⟨Int.natCast_nonneg _,?_⟩;rw[l1];simp
theorem Sq(π:ar δ)(C:Rc δ){t:Bl}(hs:Sp.Small (0,0) (Sp.pB t) (Sp.qB t))(hu:cD π C t (0,0) (Y fun _=>zT)=(es,u)):told π true (told π true (List.replicate (Sp.pB t+1) M,List.replicate (Sp.qB t) 0) es) (tL ((Sp.pB t:Nat):Int) u)=cE (Dm π) (ib C) t:=by
 rw[<-aF];have e1:Sp.cB t (0,0)=((Sp.pB t:Int),(Sp.qB t:Int)):=by rw[fY t (0,0) hs];simp
 have DW:Sp.cD (Dm π) (ib C) t (0,0) (Y fun _=>(Dm π).num 0)=(es,u):=by rw[MX (δ:=δ)]at hu;exact hu
 unfold cE;simp only;rw[DW,e1,Bt π];simp only;rw[show((Sp.pB t:Int)+1).toNat=Sp.pB t+1 by omega,Int.toNat_natCast];rfl
end
end RG
end
section
namespace RG
open Go.RowKit W
theorem oU{x:T}(h:Wv false x):∃c:Sp.Cg,x=uw c/\cr c:=⟨lN x,(po h.1).symm,h.2⟩
theorem SW{a b:Int}{ok:Bool}{o:Option Sp.Cg}(h:Vc a b ok o)(hw:∀v,o=Y v->cr v):PA false a b ok (o.map uw):=by
 cases o with
 | none=>exact h
 | some v=>exact⟨h.1,h.2.1,h.2.2,zt (hw v rfl)⟩
theorem U5(o:Option Sp.Cg):((o.map uw).getD ⟨0,0⟩)=uw (o.getD ⟨0,0⟩)/\(o.map uw).isSome=o.isSome:=by cases o<;>exact⟨rfl,rfl⟩
theorem VH:RD false:=by
 refine⟨fun n w=>PF n w,fun w=>Ml w,fun {x} hx w=>?_,fun {x} hx w=>?_,fun {x y} hx hy w=>?_,fun k hk {x y} hx hy w=>?_,fun h=>(by cases h),fun h=>(by cases h),fun {x y} hx hy w=>?_⟩
 ·obtain⟨c,rfl,hc⟩:=oU hx
  exact Ge hc 0 (by decide) (by decide) w
 ·obtain⟨c,rfl,hc⟩:=oU hx
  exact Nh hc w
 ·obtain⟨c,rfl,hc⟩:=oU hx
  obtain⟨d,rfl,hd⟩:=oU hy;exact Pg hc hd w
 ·obtain⟨c,rfl,hc⟩:=oU hx
  obtain⟨d,rfl,hd⟩:=oU hy;refine(PZ k hk hc hd w).mono ?_;rintro e w'⟨a,b,ok,rfl,h,hb⟩;exact⟨a,b,ok,rfl,SW h (fun v hv=>Aq.wwork k c d v hc hd hv),hb⟩
 ·obtain⟨c,rfl,hc⟩:=oU hx
  obtain⟨d,rfl,hd⟩:=oU (hy.resolve_left (by decide));refine(O4 hc hd w).mono ?_;rintro e w'⟨rfl,hb⟩;refine⟨?_,hb⟩;obtain⟨m1,m2⟩:=U5 (bf c d);show _=Ending.returned (φ #[J #[I O (pA (((bf c d).map uw).getD ⟨0,0⟩)),I O (pB (((bf c d).map uw).getD ⟨0,0⟩))],U ((bf c d).map uw).isSome]);rw[m1,m2];rfl
theorem U2(C:Rc false):RW C:=by
 refine⟨fun l F g1 g2 e f w hR hS h1 h2=>?_,fun l F g1 g2 e f w hR hS h1 h2=>?_⟩
 ·obtain⟨a1,a2,a3,kb⟩:=cH (w:=w) (o1:=L #[U false,Z (Y ⟨g1,0,M⟩) 8 8] 121) (o2:=L #[U false,Z (Y ⟨g2,0,M⟩) 8 8] 121) (o3:=L #[U false,Z M 0 0] 121) (Below.refl _ _)
  have m1:_=Y (Value.int O 1):=cell_of (hR.call kb).aT 1 rfl;have H2:Hid (w.heap[g2]?=Y (L (ia f) 191)):=h2;clear a1 a2 a3 kb hR hS h1 h2;go_enter func151,ntmps151;go_wp2_with fail;go_returns;exact⟨_,rfl,⟨g2,rfl,heap_alloc_old (heap_alloc_old (heap_alloc_old H2.out))⟩,by go_grown⟩
 ·obtain⟨a1,a2,a3,kb⟩:=cH (w:=w) (o1:=L #[U false,Z (Y ⟨g1,0,M⟩) 8 8] 121) (o2:=L #[U false,Z (Y ⟨g2,0,M⟩) 8 8] 121) (o3:=L #[U false,Z M 0 0] 121) (Below.refl _ _)
  have m1:_=Y (Value.int O 1):=cell_of (hR.call kb).aT 1 rfl;have H1:Hid (w.heap[g1]?=Y (L (ia e) 191)):=h1;clear a1 a2 a3 kb hR hS h1 h2;go_enter func152,ntmps152;go_wp2_with fail;go_returns;exact⟨_,rfl,⟨g1,rfl,heap_alloc_old (heap_alloc_old (heap_alloc_old H1.out))⟩,by go_grown⟩
end RG
end
end Go.Proofs.YtiopfihjmkfdmaaGreatDoor
