import Derived.Test.YtiopfihjmkfdmaaGreatDoorB16
import Derived.Test.YtiopfihjmkfdmaaGreatDoorB25
namespace Go.Proofs.YtiopfihjmkfdmaaGreatDoor
open Go.Proofs.Tryz Sp
open Go.RowKit
set_option maxRecDepth 100000
set_option maxHeartbeats 16000000
section
namespace RI
section
variable{te es:lV}
variable{s' yes no s s0:dB}
variable{c1 c2 c3 Kt:Ct}
variable{ns:List aJ}
variable{lo rel k hi n j r g cap k8 k6:Nat}
variable{x y:Sm}
variable{t xs t0 rest:Bl}
def cF(π:bO)(C:Rc)(t:Bl)(ct:Ct)(s:dB):lV × dB:=Sp.cF (Dm π) (hI C) t ct s
theorem EK(π:bO)(C:Rc)(t:Bl)(ct:Ct):cF π C t ct none=([],none):=ie (D:=Dm π) (hI C) t ct
theorem Gt(π:bO)(C:Rc)(ct:Ct)(s:dB):cF π C .nil ct s=([],s):=rfl
theorem D9(π:bO)(C:Rc)(v:Nat)(x:Sm)(rest:Bl)(ct:Ct)(e:dt){u:Option T}(h:dA π x (Sp.aD ct) e=(te,u))(hs:u.map (fun z=>ph e v z)=s'):cF π C (.assign v x rest) ct (some e)=(([.aA ct.1 e] ++ te) ++ (cF π C rest (Sp.cS x (Sp.aD ct)) s').1,(cF π C rest (Sp.cS x (Sp.aD ct)) s').2):=by subst hs;have q:cF π C (.assign v x rest) ct (some e)=(([.aA ct.1 e] ++ (dA π x (Sp.aD ct) e).1) ++ (cF π C rest (Sp.cS x (Sp.aD ct)) ((dA π x (Sp.aD ct) e).2.map (fun z=>ph e v z))).1,(cF π C rest (Sp.cS x (Sp.aD ct)) ((dA π x (Sp.aD ct) e).2.map (fun z=>ph e v z))).2):=rfl;rw[q,h]
theorem KX(π:bO)(C:Rc)(v:Nat)(rest:Bl)(ct:Ct)(e:dt):cF π C (.read v rest) ct (some e)=([.aA ct.1 e] ++ (cF π C rest (Sp.aD ct) (some (ph e v eF))).1,(cF π C rest (Sp.aD ct) (some (ph e v eF))).2):=rfl
theorem Fz(π:bO)(C:Rc)(r:Nat)(x y:Sm)(rest:Bl)(ct:Ct)(e:dt)(h:dC π r x y (Sp.aL (Sp.aD ct)) (some e)=(te,yes,no)):cF π C (.assert r x y rest) ct (some e)=(([.aA ct.1 e] ++ te ++ [.site ct.2 no.isSome]) ++ (cF π C rest (Sp.cS y (Sp.cS x (Sp.aL (Sp.aD ct)))) yes).1,(cF π C rest (Sp.cS y (Sp.cS x (Sp.aL (Sp.aD ct)))) yes).2):=by have q:cF π C (.assert r x y rest) ct (some e)=(([.aA ct.1 e] ++ (dC π r x y (Sp.aL (Sp.aD ct)) (some e)).1 ++ [.site ct.2 (dC π r x y (Sp.aL (Sp.aD ct)) (some e)).2.2.isSome]) ++ (cF π C rest (Sp.cS y (Sp.cS x (Sp.aL (Sp.aD ct)))) (dC π r x y (Sp.aL (Sp.aD ct)) (some e)).2.1).1,(cF π C rest (Sp.cS y (Sp.cS x (Sp.aL (Sp.aD ct)))) (dC π r x y (Sp.aL (Sp.aD ct)) (some e)).2.1).2):=rfl;rw[q,h]
theorem OQ(π:bO)(C:Rc)(r:Nat)(x y:Sm)(xs:Bl)(els:Bool)(ys rest:Bl)(ct:Ct)(e:dt)(hy:els=false->ys=.nil){t1 t2:lV}{u v:dB}(h1:c1=Sp.cS y (Sp.cS x (Sp.aD ct)))(h2:c2=Sp.cB xs c1)(h3:c3=Sp.cB ys c2)(h:dC π r x y (Sp.aD ct) (some e)=(te,yes,no))(hu:cF π C xs c1 yes=(t1,u))(hv:cF π C ys c2 no=(t2,v))(hs:uw u v=s') :
  cF π C (.ite r x y xs els ys rest) ct (some e)=(([.aA ct.1 e] ++ (te ++ t1 ++ t2)) ++ (cF π C rest c3 s').1,(cF π C rest c3 s').2):=by
 subst h1 h2 h3;have hc:Sp.dC (Dm π) r x y (Sp.aD ct) (some e)=(te,yes,no):=h;have A6:Sp.cF (Dm π) (hI C) xs (Sp.cS y (Sp.cS x (Sp.aD ct))) yes=(t1,u):=hu;have Nv:Sp.cF (Dm π) (hI C) ys (Sp.cB xs (Sp.cS y (Sp.cS x (Sp.aD ct)))) no=(t2,v):=hv;have dw:Sp.jn (Dm π) u v=s':=(mH π u v).symm.trans hs;cases els with
 | true =>have q:cF π C (.ite r x y xs true ys rest) ct (some e)=gi (Dm π) (.aA ct.1 e :: (u9 (Dm π) (Sp.dC (Dm π) r x y (Sp.aD ct)) (Sp.cF (Dm π) (hI C) xs (Sp.cS y (Sp.cS x (Sp.aD ct)))) (Sp.cF (Dm π) (hI C) ys (Sp.cB xs (Sp.cS y (Sp.cS x (Sp.aD ct))))) e).1,(u9 (Dm π) (Sp.dC (Dm π) r x y (Sp.aD ct)) (Sp.cF (Dm π) (hI C) xs (Sp.cS y (Sp.cS x (Sp.aD ct)))) (Sp.cF (Dm π) (hI C) ys (Sp.cB xs (Sp.cS y (Sp.cS x (Sp.aD ct))))) e).2) (Sp.cF (Dm π) (hI C) rest (Sp.cB ys (Sp.cB xs (Sp.cS y (Sp.cS x (Sp.aD ct)))))):=rfl;rw[q];unfold u9;simp only[hc,A6,Nv,dw];rfl
 | false =>
  obtain rfl:=hy rfl;have Z8:(([]:lV),no)=(t2,v):=hv;injection Z8 with e1 e2
  subst e1 e2;have q:cF π C (.ite r x y xs false .nil rest) ct (some e)=gi (Dm π) (.aA ct.1 e :: (u9 (Dm π) (Sp.dC (Dm π) r x y (Sp.aD ct)) (Sp.cF (Dm π) (hI C) xs (Sp.cS y (Sp.cS x (Sp.aD ct)))) (fun s=>([],s)) e).1,(u9 (Dm π) (Sp.dC (Dm π) r x y (Sp.aD ct)) (Sp.cF (Dm π) (hI C) xs (Sp.cS y (Sp.cS x (Sp.aD ct)))) (fun s=>([],s)) e).2) (Sp.cF (Dm π) (hI C) rest (Sp.cB xs (Sp.cS y (Sp.cS x (Sp.aD ct))))):=rfl;rw[q];unfold u9;simp only[hc,A6,dw];rfl
theorem KY(π:bO)(C:Rc)(r:Nat)(x y:Sm)(xs rest:Bl)(ct:Ct)(e:dt)(h1:c1=Sp.cS y (Sp.cS x (Sp.aD ct)))(h2:c2=Sp.cB xs c1)(h:rA π C (dC π r x y (Sp.aD ct)) (cF π C xs c1) ct.1 (some e)=(te,s')) :
  cF π C (.loop r x y xs rest) ct (some e)=((.aA ct.1 e :: te) ++ (cF π C rest c2 s').1,(cF π C rest c2 s').2):=by
 subst h1 h2;have q:cF π C (.loop r x y xs rest) ct (some e)=((.aA ct.1 e :: (rA π C (dC π r x y (Sp.aD ct)) (cF π C xs (Sp.cS y (Sp.cS x (Sp.aD ct)))) ct.1 (some e)).1) ++ (cF π C rest (Sp.cB xs (Sp.cS y (Sp.cS x (Sp.aD ct)))) (rA π C (dC π r x y (Sp.aD ct)) (cF π C xs (Sp.cS y (Sp.cS x (Sp.aD ct)))) ct.1 (some e)).2).1,(cF π C rest (Sp.cB xs (Sp.cS y (Sp.cS x (Sp.aD ct)))) (rA π C (dC π r x y (Sp.aD ct)) (cF π C xs (Sp.cS y (Sp.cS x (Sp.aD ct)))) ct.1 (some e)).2).2):=rfl;rw[q,h]
theorem xH.cS{ct bh:Ct}(h:xH ns lo rel x y k ct bh):bh=Sp.cS y (Sp.cS x ct):=by obtain⟨_,_,_,c1,_,_,_,_,_,_,_,h1,h2⟩:=h;rw[pL.cS h2,pL.cS h1]
theorem ji.cB:∀{t:Bl} {k:Int} {ct bh:Ct},ji ns lo hi t k ct bh->bh=Sp.cB t ct
 | .nil,_,_,_,h=>h.2
 | .assign v x rest,_,_,_,⟨_,_,_,_,_,_,_,_,_,_,_,_,_,_,hx,hr⟩=>by rw[ji.cB hr,pL.cS hx];rfl
 | .read v rest,_,_,_,⟨_,_,_,_,_,_,_,_,_,_,hr⟩=>by rw[ji.cB hr];rfl
 | .assert r x y rest,_,_,_,⟨_,_,_,_,_,_,_,_,_,_,_,_,_,hx,hr⟩=>by rw[ji.cB hr,xH.cS hx];rfl
 | .ite r x y xs els ys rest,_,_,_,⟨_,_,_,_,_,_,_,_,_,_,_,_,_,_,_,hx,h1,h2,hy,hr⟩=>by
  rw[ji.cB hr,ji.cB h2,ji.cB h1,xH.cS hx];cases els with
  | true=>rfl
  | false=>obtain rfl:=hy rfl;rfl
 | .loop r x y xs rest,_,_,_,⟨_,_,_,_,_,_,_,_,_,_,_,_,_,hx,h1,hr⟩=>by rw[ji.cB hr,ji.cB h1,xH.cS hx];rfl
def tV:Bl->Nat
 | .nil=>0
 | .assign _ _ r=>tV r+1
 | .read _ r=>tV r+1
 | .assert _ _ _ r=>tV r+1
 | .ite _ _ _ xs _ ys r=>tV xs+tV ys+tV r+1
 | .loop _ _ _ xs r=>tV xs+tV r+1
def lM:Bl->Nat
 | .nil=>0
 | .assign _ _ r=>lM r+1
 | .read _ r=>lM r+1
 | .assert _ _ _ r=>lM r+1
 | .ite _ _ _ _ _ _ r=>lM r+1
 | .loop _ _ _ _ r=>lM r+1
def chain(ns:List aJ):Nat->Int->Nat
 | 0,_=>0
 | n+1,k=>if k<0 then 0 else match ns[k.toNat]? with
  | none=>0
  | some d=>chain ns n d.next+1
theorem j8{j:Nat}{d:aJ}(h:ns[j]?=some d):chain ns (n+1) (j:Int)=chain ns n d.next+1:=by rw[chain.eq_2,if_neg (by omega),Int.toNat_natCast,h]
theorem yw:∀{k:Int} {ct bh:Ct} (n:Nat),ji ns lo hi t k ct bh->lM t<=n->chain ns n k=lM t:=by
 induction t with
 | nil =>intro k ct bh n h hl;rw[h.1];cases n<;>rfl
 | assign v x rest ih =>
  intro k ct bh n h hl;obtain⟨_,_,_,_,rfl,_,_,hd,_,_,_,_,_,_,_,hr⟩:=h;cases n with
  | zero=>exact absurd hl (Nat.not_succ_le_zero _)
  | succ n=>rw[j8 hd,ih n hr (Nat.le_of_succ_le_succ hl)];rfl
 | read v rest ih =>
  intro k ct bh n h hl;obtain⟨_,_,rfl,_,_,hd,_,_,_,_,hr⟩:=h;cases n with
  | zero=>exact absurd hl (Nat.not_succ_le_zero _)
  | succ n=>rw[j8 hd,ih n hr (Nat.le_of_succ_le_succ hl)];rfl
 | assert r x y rest ih =>
  intro k ct bh n h hl;obtain⟨_,_,_,_,rfl,_,_,hd,_,_,_,_,_,_,hr⟩:=h;cases n with
  | zero=>exact absurd hl (Nat.not_succ_le_zero _)
  | succ n=>rw[j8 hd,ih n hr (Nat.le_of_succ_le_succ hl)];rfl
 | ite r x y xs els ys rest _ _ ih =>
  intro k ct bh n h hl;obtain⟨_,_,_,_,_,_,rfl,_,_,hd,_,_,_,_,_,_,_,_,_,hr⟩:=h;cases n with
  | zero=>exact absurd hl (Nat.not_succ_le_zero _)
  | succ n=>rw[j8 hd,ih n hr (Nat.le_of_succ_le_succ hl)];rfl
 | loop r x y xs rest _ ih =>
  intro k ct bh n h hl;obtain⟨_,_,_,_,_,rfl,_,_,hd,_,_,_,_,_,_,hr⟩:=h;cases n with
  | zero=>exact absurd hl (Nat.not_succ_le_zero _)
  | succ n=>rw[j8 hd,ih n hr (Nat.le_of_succ_le_succ hl)];rfl
theorem rgs(π:bO)(C:Rc)(hx:xh x)(hy:xh y)(hb:ti xs)(ct c1:Ct):JK π (dC π r x y ct) (cF π C xs c1) :=
 ⟨fun _ hs=>lq (K:=Kr π) hx hy hs,fun s hs=>fS (K:=Kr π) (hI C) xs hb c1 s hs,rfl,EK π C xs c1⟩
theorem Fp(π:bO)(C:Rc)(h:ti t)(ct:Ct)(hs:eK s):eK (cF π C t ct s).2:=fS (K:=Kr π) (hI C) t h ct s hs
theorem KL(π:bO)(hx:xh x)(hy:xh y)(ct:Ct)(hs:eK s):eK (dC π r x y ct s).2.1/\eK (dC π r x y ct s).2.2:=lq (K:=Kr π) hx hy hs
def Rz(C:Rc)(π:bO)(g cap:Nat)(ns:List aJ)(l:List Int)(lo hi:Nat)(t0:Bl)(Kt:Ct)(s0:dB)(F:jB)(rec:Bool)(w:Wd)(k8 k6:Nat)(kk:Int)(W:Wd):Prop :=
 ∃t c1 c2 es s,ji ns lo hi t kk c1 c2/\ti t/\lM t<=lM t0/\tV t<=tV t0/\cF π C t0 Kt s0=(es ++ (cF π C t c1 s).1,(cF π C t c1 s).2)/\bE C g cap ns l w k8 [] (WI.told π rec F es) [(k6,s)] W
theorem pf{C:Rc}{π:bO}{l:List Int}{F:jB}{rec:Bool}{w:Wd}{kk next:Int}{W:Wd}
  (h1:ji ns lo hi t kk c1 c2) (h2:ji ns lo hi rest next c3 c2) (ok:ti rest) (hl:lM t<=lM t0) (hs:tV t<=tV t0) (Qg:lM rest+1=lM t) (fM:tV rest<=tV t) (he:cF π C t0 Kt s0=(es ++ (cF π C t c1 s).1,(cF π C t c1 s).2)) (hn:cF π C t c1 s=(te ++ (cF π C rest c3 s').1,(cF π C rest c3 s').2)) (hL:bE C g cap ns l w k8 [] (WI.told π rec (WI.told π rec F es) te) [(k6,s')] W) :
  Rz C π g cap ns l lo hi t0 Kt s0 F rec w k8 k6 next W/\chain ns (lM t0) next<chain ns (lM t0) kk:=by
 refine⟨⟨rest,c3,c2,es ++ te,s',h2,ok,by omega,by omega,?_,?_⟩,?_⟩
 ·rw[he,hn]
  simp
 ·rw[WI.aG];exact hL
 ·rw[yw (lM t0) h1 hl,yw (lM t0) h2 (by omega)]
  omega
theorem vp{π:bO}{C:Rc}{rec:Bool}{F:jB}(hr:WI.df rec F (cF π C t0 Kt s0).1)(he:cF π C t0 Kt s0=(es ++ (cF π C t c1 s).1,(cF π C t c1 s).2))(hn:cF π C t c1 s=(te ++ (cF π C rest c3 s').1,(cF π C rest c3 s').2)):WI.df rec (WI.told π rec F es) te:=by rw[he,hn]at hr;exact WI.df.left (WI.df.right hr)
end
section
variable {C : Rc}{π : bO}{g cap : Nat}{ns : List aJ}{l : List Int}{w : Wd}{k8 : Nat}{o : List (Nat × Obj)}{F : jB}{m : List (Nat × dB)}{W : Wd}
section
variable{k ge v:Nat}
theorem bE.SZ(h:bE C g cap ns l w k8 o F m W)(k:Nat)(e:dt)(hx:(k,some e)∈m):∃ge,W.cell? ⟨k,0,none⟩=some (.bool false)/\W.cell? ⟨k,1,none⟩=some (.slice (some ⟨ge,0,none⟩) 8 8)/\W.frozen? ⟨k,0,none⟩=false/\W.frozen? ⟨k,1,none⟩=false/\W.heap[ge]?=some (.cells (gF e) 191)/\∀k,Wv (e k):=by
 obtain⟨a,n,c,s0,s1,f0,f1,⟨ge,q1,q2⟩,ws⟩:=h.box k (some e) hx;injection q1 with q1
 have q3:=congrArg Array.toList q1;simp at q3;obtain⟨rfl,rfl,rfl⟩:=q3;exact⟨ge,s0,s1,f0,f1,q2,ws e rfl⟩
theorem MF{x:Sm}{ct:Ct}(hW:jm C π g cap ns x k ct)(G:Gd C g)(h:bE C g cap ns l w k8 o F m W){e:dt}(hg:Bk W ge (gF e) 191)(he:∀k,Wv (e k)){te:lV}{u:Option T}(hu:dA π x ct e=(te,u)){rec:Bool}(hr:WI.df rec F te) :
  Calls prog 105 #[.pointer (some ⟨C.b,0,none⟩),.int .i64 (k:Nat),.agg #[.bool false,.slice (some ⟨ge,0,none⟩) 8 8],.bool rec] W fun r w'=>∃a b ok,r=.returned (.tuple #[.agg #[.int .i64 a,.int .i64 b],.bool ok])/\bE C g cap ns l w k8 o (WI.told π rec F te) m w'/\w'.heap[ge]?=some (.cells (gF e) 191)/\Qu a b ok u:=by
 have q:=hW F e ge rec W h.ra h.look he hg (by rw[hu];exact hr);rw[hu]at q;refine q.mono ?_;rintro r w'⟨a,b,ok,rfl,h1,h2,h3⟩;obtain⟨n1,n2⟩:=h.ra.apart hg;exact⟨a,b,ok,rfl,h.step G h1 h2,(h2.others ge (ah hg) n1 n2).trans hg,h3⟩
theorem Gx(G:Gd C g)(h:bE C g cap ns l w k8 o F m W){e:dt}(hg:Bk W ge (gF e) 191)(hv:v<8)(z:T){u:dB}(hu:u=some (ph e v z)) :
  Calls prog 106 #[.agg #[.bool false,.slice (some ⟨ge,0,none⟩) 8 8],.int .i64 (v:Nat),.agg #[.int .i64 (pA z),.int .i64 (pB z)]] W fun r w'=>∃a1 n1 c1,r=.returned (.agg #[.bool u.isNone,.slice a1 n1 c1])/\bE C g cap ns l w k8 o F m w'/\dL w' (.agg #[.bool u.isNone,.slice a1 n1 c1]) u:=by
 refine(mX ge e v hv z W hg).mono ?_;rintro r w'⟨v,rfl,h1,h2⟩;rw[<-hu]at h1;obtain⟨a1,n1,c1,rfl⟩:=h1.form;exact⟨a1,n1,c1,rfl,h.call G h2,h1⟩
theorem MV(π:bO)(G:Gd C g)(h:bE C g cap ns l w k8 o F m W)(q:Int)(bad:Bool){rec:Bool}(hr:WI.df rec F [.site q bad]) :
  Calls prog 109 #[.pointer (some ⟨C.b,0,none⟩),.int .i64 q,.bool bad,.bool rec] W fun r w'=>r=.returned (.tuple #[])/\bE C g cap ns l w k8 o (WI.told π rec F [.site q bad]) m w' :=
 (yF π 3 q bad rec h.ra hr).mono fun _ _ ⟨h1,h2,h3⟩=>⟨h1,h.step G h2 h3⟩
theorem bE.UO(G:Gd C g)(h:bE C g cap ns l w k8 o F m W)(a b:Value):bE C g cap ns l w k8 ((W.heap.size,.cells #[a,b] 191) :: o) F m (W.alloc (.cells #[a,b] 191)) :=
 h.U3 G _ (fun c e=>by injection e with _ e;exact absurd e (by decide))
theorem bE.YW(G:Gd C g)(h:bE C g cap ns l w k8 o F m W)(d:aJ):bE C g cap ns l w k8 ((W.heap.size,.cells (pz d) 176) :: o) F m (W.alloc (.cells (pz d) 176)) :=
 h.U3 G _ (fun c e=>by injection e with _ e;exact absurd e (by decide))
end
end
end RI
end
section
namespace RI
section
variable{w1 W W' w:Wd}
variable{C:Rc}
variable{n m i B lo hi base pb:Nat}
theorem bP:(prog.info? 121).map (fun i=>(i.zero,i.size))=some (some (.agg #[.bool false,.slice none 0 0]),2)/\((prog.info? 121).map (fun i=>decide (i.bytes<=1000)))=some true:=by constructor<;>kernel_rfl
theorem OV(n:Nat)(hn:n<=1000000):∃c:Array Value,c.size=n*2/\∀w,(Instr.makeSlice 114 (.int .i64 (n:Nat)) (.int .i64 (n:Nat))).run prog w=.ok (.slice (some ⟨w.heap.size,0,none⟩) n n) (w.alloc (.cells c 121)):=by
 obtain⟨i,hi,hz⟩:=Option.map_eq_some_iff.1 bP.1;have h3:=bP.2;rw[hi]at h3;simp only[Option.map_some,Option.some.injEq,decide_eq_true_eq]at h3;simp only[Prod.mk.injEq]at hz;obtain⟨h1,h2⟩:=hz;have hb:(i.bytes:Int)*(n:Int)<=281474976710656:=by
  have h4:i.bytes*n<=1000*1000000:=Nat.mul_le_mul h3 hn;have h5:((i.bytes*n:Nat):Int)<=1000000000:=by omega
  rw[Int.natCast_mul]at h5;omega
 have hm:=WI.ni (f:=fun _:Nat=>[Value.bool false,.slice none 0 0]) (k:=2) (n:=n) (a:=0) (z:=#[.bool false,.slice none 0 0]) rfl (fun _=>rfl) (by omega);refine⟨madeCells #[.bool false,.slice none 0 0] (n*2),?_,fun w=>?_⟩
 ·rw[hm,List.size_toArray,fw (k:=2) (fun _=>rfl),List.length_replicate]
 ·have:=run_make (P:=prog) w 114 121 i _ underlying114 hi h1 .i64 .i64 n n (by omega) (Int.le_refl _) hb (by omega)
  rw[this,h2];simp only[Int.toNat_natCast];rfl
theorem Ng(pb:Nat)(ao narrow aj:Int)(th:Bool)(a:Option Addr)(n:Nat)(c:Option Addr)(m:Nat)(w:Wd):(Instr.build 186 #[(0,.pointer (some ⟨pb,0,none⟩)),(1,.agg #[.int .i64 0,.int .i64 ao,.int .i64 narrow,.int .i64 aj,.bool th]),(3,.slice a n n),(4,.slice c m m)]).run prog w=.ok (.agg #[.pointer (some ⟨pb,0,none⟩),.int .i64 0,.int .i64 ao,.int .i64 narrow,.int .i64 aj,.bool th,.slice none 0 0,.slice a n n,.slice c m m]) w:=by kernel_rfl
structure iA(w1:Wd)(C:Rc)(n m i:Nat)(W:Wd):Prop where
 DM:Below w1.heap.size w1 W
 aV:W.heap[C.b]?=some (.cells (raC C n m) 186)
 gf:∃c,W.heap[C.gf]?=some (.cells c 121)/\c.size=n*2/\∀p,p<i->c[p*2]?=some (.bool true)/\c[p*2+1]?=some (.slice none 0 0)
 gs:W.heap[C.gs]?=some (.cells (WI.cQ (List.replicate m 0)).toArray 3)
 bs:C.base=w1.heap.size
 lb:w1.heap.size<=C.b
 lf:w1.heap.size<=C.gf
 ls:w1.heap.size<=C.gs
theorem iA.call(h:iA w1 C n m i W)(k:Below W.heap.size W W'):iA w1 C n m i W':=by obtain⟨c,c1,c2,c3⟩:=h.gf;exact⟨h.DM.trans (k.mono h.DM.size),(k.block _ (ah h.aV)).trans h.aV,⟨c,(k.block _ (ah c1)).trans c1,c2,c3⟩,(k.block _ (ah h.gs)).trans h.gs,h.bs,h.lb,h.lf,h.ls⟩
theorem iA.ne(h:iA w1 C n m i W):C.b≠C.gf/\C.b≠C.gs/\C.gf≠C.gs:=by
 obtain⟨c,c1,_,_⟩:=h.gf;have h0:=h.aV;have h2:=h.gs;refine⟨fun e=>?_,fun e=>?_,fun e=>?_⟩
 ·rw[e,c1]at h0;injection h0 with h0;injection h0 with _ q;exact absurd q (by decide)
 ·rw[e,h2]at h0;injection h0 with h0;injection h0 with _ q;exact absurd q (by decide)
 ·rw[e,h2]at c1;injection c1 with c1;injection c1 with _ q;exact absurd q (by decide)
theorem iA.pt(h:iA w1 C n m i W)(hi:i<n):iA w1 C n m (i+1) ((W.setCell ⟨C.gf,i*2,none⟩ (.bool true)).setCell ⟨C.gf,i*2+1,none⟩ (.slice none 0 0)):=by
 obtain⟨n1,n2,n3⟩:=h.ne;obtain⟨c,c1,c2,c3⟩:=h.gf;have ix:∀j,j≠C.gf->((W.setCell ⟨C.gf,i*2,none⟩ (.bool true)).setCell ⟨C.gf,i*2+1,none⟩ (.slice none 0 0)).heap[j]?=W.heap[j]?:=fun j hj=>by rw[Below.heap_setCell _ _ _ _ hj,Below.heap_setCell _ _ _ _ hj]
 refine⟨(h.DM.setCell (p:=⟨C.gf,i*2,none⟩) h.lf _).setCell (p:=⟨C.gf,i*2+1,none⟩) h.lf _,(ix _ n1).trans h.aV,⟨_,ai (ai c1 _ _) _ _,by simp[c2],fun p hp=>?_⟩,(ix _ n3.symm).trans h.gs,h.bs,h.lb,h.lf,h.ls⟩;by_cases e:p=i
 ·subst e
  exact⟨by rw[Array.getElem?_setIfInBounds,if_neg (by omega),Array.getElem?_setIfInBounds_self,if_pos (by omega)],by rw[Array.getElem?_setIfInBounds_self,if_pos (by rw[Array.size_setIfInBounds];omega)]⟩
 ·obtain⟨e1,e2⟩:=c3 p (by omega)
  exact⟨by rw[Array.getElem?_setIfInBounds,if_neg (by omega),Array.getElem?_setIfInBounds,if_neg (by omega)];exact e1,by rw[Array.getElem?_setIfInBounds,if_neg (by omega),Array.getElem?_setIfInBounds,if_neg (by omega)];exact e2⟩
theorem iA.steps{C:Rc}(h:iA w1 C n m i W)(sv:Value):iA w1 { C with sv:=sv } n m i (W.setCell ⟨C.b,6,none⟩ sv):=by
 obtain⟨n1,n2,n3⟩:=h.ne;obtain⟨c,c1,c2,c3⟩:=h.gf;have ix:∀j,j≠C.b->(W.setCell ⟨C.b,6,none⟩ sv).heap[j]?=W.heap[j]?:=fun j hj=>Below.heap_setCell _ _ _ _ hj
 exact⟨h.DM.setCell (p:=⟨C.b,6,none⟩) h.lb _,by rw[ai h.aV 6 sv];rfl,⟨c,(ix _ n1.symm).trans c1,c2,c3⟩,(ix _ n2.symm).trans h.gs,h.bs,h.lb,h.lf,h.ls⟩
theorem iA.grown(h:iA w1 C n m i W)(hB:w1.heap.size<=B)(k:Below B W W')(hb:C.b<B)(hf:C.gf<B)(hs:C.gs<B):iA w1 C n m i W':=by obtain⟨c,c1,c2,c3⟩:=h.gf;exact⟨h.DM.trans (k.mono hB),(k.block _ hb).trans h.aV,⟨c,(k.block _ hf).trans c1,c2,c3⟩,(k.block _ hs).trans h.gs,h.bs,h.lb,h.lf,h.ls⟩
theorem iA.ra(h:iA w1 C n m n W)(hn:n<=1000)(hm:m<=1000):bx C (List.replicate n none,List.replicate m 0) W:=by
 obtain⟨c,c1,c2,c3⟩:=h.gf;have hb:=h.bs;refine⟨by simp only[List.length_replicate];exact h.aV,⟨c,c1,by simpa using c2⟩,⟨_,h.gs,by simp[WI.cQ]⟩,fun p s hp=>?_,fun q k hk=>?_,by rw[hb];exact h.lb,by rw[hb];exact h.lf,by rw[hb];exact h.ls,by simpa using⟨hn,hm⟩⟩
 ·simp only[List.getElem?_replicate]at hp
  split at hp
  ·rename_i dj
   cases hp
   obtain⟨e1,e2⟩:=c3 p dj;exact⟨_,_,cell_of c1 _ e1,cell_of c1 _ e2,rfl,fun _ q=>by cases q⟩
  ·cases hp
 ·simp only[List.getElem?_replicate]at hk
  split at hk
  ·rename_i dj
   cases hk
   exact⟨cell_of h.gs _ (by simp[WI.cQ,dj]),by omega⟩
  ·cases hk
theorem gE:∀x:Sm,ft x=rP x
 | .num _=>rfl
 | .name _=>rfl
 | .neg x=>gE x
 | .bin _ x y=>by unfold ft rP;rw[gE x,gE y]
theorem fZ:∀t:Bl,di t=ig t
 | .nil=>rfl
 | .assign _ x r=>by unfold di ig;rw[gE,fZ r]
 | .read _ r=>by unfold di ig;rw[fZ r]
 | .assert _ x y r=>by unfold di ig;rw[gE,gE,fZ r]
 | .ite _ x y xs _ ys r=>by unfold di ig;rw[gE,gE,fZ xs,fZ ys,fZ r]
 | .loop _ x y xs r=>by unfold di ig;rw[gE,gE,fZ xs,fZ r]
def uG(qs:List Int):List Int:=qs.flatMap fun n=>[n,-n]
theorem PK(qs:List Int):(uG qs).length=qs.length*2:=by unfold uG;rw[fw (k:=2) (fun _=>rfl)]
theorem Ld(qs:List Int)(i:Nat)(q:Int)(h:qs[i]?=some q):uG (qs.take (i+1))=uG (qs.take i) ++ [q,-q]:=by unfold uG;rw[List.take_add_one,h,List.flatMap_append];rfl
theorem R4{ns:List aJ}(h:ns.length=0):∀{t:Bl} {k:Int} {ct bh:Ct},ji ns lo hi t k ct bh->t=.nil:=by
 have e:=List.eq_nil_of_length_eq_zero h;subst e;intro t k ct bh hb;cases t with
 | nil=>rfl
 | assign v x r=>obtain⟨_,_,_,_,_,_,_,hd,_⟩:=hb;simp at hd
 | read v r=>obtain⟨_,_,_,_,_,hd,_⟩:=hb;simp at hd
 | assert r x y z=>obtain⟨_,_,_,_,_,_,_,hd,_⟩:=hb;simp at hd
 | ite r x y xs e ys z=>obtain⟨_,_,_,_,_,_,_,_,_,hd,_⟩:=hb;simp at hd
 | loop r x y xs z=>obtain⟨_,_,_,_,_,_,_,_,hd,_⟩:=hb;simp at hd
theorem yD.az{t:Bl}(h:yD base pb t w)(hs:Sp.Small (0,0) (Sp.pB t) (Sp.qB t)):∃(ns:List aJ) (first:Int) (qa:Option Addr) (qc:Nat) (nv:Value) (ct:Ct),w.heap[pb]?=some (.cells #[nv,.int .i64 first,.int .i64 ((Sp.pB t+1:Nat):Int),.int .i64 ((Sp.qB t:Nat):Int),.slice qa (di t).length qc] 105)/\ji ns 0 ns.length t first (0,0) ct/\((∃g cap,dq pb g cap ns w/\g<w.heap.size)∨t=.nil)/\(di t).length<=2000/\(di t).length<=qc/\qc<=maxLen/\∀(i:Nat) (n:Int),(di t)[i]?=some n->∃g,qa=some ⟨g,0,none⟩/\g<w.heap.size/\w.cell? ⟨g,i,none⟩=some (.int .i64 n):=by
 obtain⟨p,first,ct,hb,hn,hq,h1,h2,qL,Uw,h64,Qe⟩:=h;have ec:=ji.cB qL;rw[fY t (0,0) hs]at ec;have e1:p.ct.1=((Sp.pB t+1:Nat):Int):=by rw[Uw,ec];obtain⟨_,_,q1,_⟩:=hs;show RowKit.wrap64 (0+(Sp.pB t:Int)+1)=_;unfold RowKit.wrap64;simp only at q1;omega
 have e2:p.ct.2=((Sp.qB t:Nat):Int):=by rw[Uw,ec];show 0+(Sp.qB t:Int)=_;omega
 unfold cM at hb;rw[e1,e2]at hb;rw[<-Qe];have hqv:∃qa qc,p.qv=.slice qa p.qs.length qc/\p.qs.length<=qc/\qc<=maxLen/\∀(i:Nat) (n:Int),p.qs[i]?=some n->∃g,qa=some ⟨g,0,none⟩/\g<w.heap.size/\w.cell? ⟨g,i,none⟩=some (.int .i64 n):=by
  rcases hq.2 with⟨a1,a2⟩ | ⟨g,cap,cur,a1,a2,a3,a4,a5,a6,a7⟩
  ·exact⟨none,0,by rw[a1,a2],by omega,by unfold maxLen;omega,fun i n hi=>by rw[List.eq_nil_of_length_eq_zero a2]at hi;simp at hi⟩
  ·refine⟨some ⟨g,0,none⟩,cap,a1,a4,a5,fun i n hi=>⟨g,rfl,ah a3,?_⟩⟩
   rw[a1]at hq;exact(nj hq (by rw[List.getElem?_map,hi];rfl)).1
 obtain⟨qa,qc,a1,a2,a3,a4⟩:=hqv;rw[a1]at hb;refine⟨p.ns,first,qa,qc,p.nv,ct,hb,qL,?_,h2,a2,a3,a4⟩
 rcases hn.2 with⟨_,h0⟩ | ⟨g,cap,cur,hv,hg,hh,h3,h4,h5,h6⟩
 ·exact .inr (R4 h0 qL)
 ·refine .inl ⟨g,cap,⟨by rw[<-hv];exact cell_of hb 0 rfl,fun j d c u hd hc hu=>?_,ah hb,ah hh,h3,h4,h1⟩,ah hh⟩
  rw[hv]at hn;exact(nj hn (by rw[Nat.mul_comm j 10,iC _ _ _ hc,hd];exact hu)).1
theorem MI(b:Nat)(n:Bool)(va:Option Addr)(vn vc:Nat)(rec:Bool)(w:Wd):Calls prog 76 #[.pointer (some ⟨b,0,none⟩),.int .i64 (-1),.agg #[.bool n,.slice va vn vc],.bool rec] w fun r w'=>r=.returned (.agg #[.bool n,.slice va vn vc])/\Below w.heap.size w w':=by
 go_enter func76,ntmps76;go_wp2_with fail;obtain⟨a1,a2,kb⟩:=eY (w:=w) (o1:=.cells #[.bool n,.slice va vn vc] 121) (o2:=.cells #[.bool false,.slice none 0 0] 121) (Below.refl _ _);obtain⟨k6,e6⟩:∃k,k=w.heap.size:=⟨_,rfl⟩;obtain⟨k8,e8⟩:∃k,k=w.heap.size+1:=⟨_,rfl⟩;rw[<-e8,<-e6];rw[<-e6]at a1;rw[<-e8]at a2;have hk:w.heap.size<=k8:=by omega
 clear e8 e6;generalize (w.alloc (.cells #[.bool n,.slice va vn vc] 121)).alloc (.cells #[.bool false,.slice none 0 0] 121)=W at *
 go_loopw [1] (fun v1 wr=>v1=.int .i64 (-1)/\wr=W) (fun _ _=>0)
 case atStart=>exact⟨rfl,rfl⟩
 case round =>
  obtain⟨rfl,rfl⟩:=hrel;obtain⟨q0,q1,_⟩:=aH a1;obtain⟨z0,z1,DT,DY,mq⟩:=aH a2;have MQ:=hid (mq (.bool n) (.slice va vn vc));have HB:Hid (Below w.heap.size w _):=(kb.setCell (p:=⟨k8,0,none⟩) hk (.bool n)).setCell (p:=⟨k8,1,none⟩) hk (.slice va vn vc);clear mq a1 a2 kb;go_wp2_with fail;exact bodyPost_ret (v:=.agg #[.bool n,.slice va vn vc]) (by simp[results,results76,go_sem,MQ.1,MQ.2]) rfl ⟨rfl,HB.out⟩
end
end RI
end
section
namespace RI
section
variable{r n g cap lo rel k:Nat}
theorem Y8(h:r<6):wH r<6:=by rcases(show r=0∨r=1∨r=2∨r=3∨r=4∨r=5 from by omega) with rfl | rfl | rfl | rfl | rfl | rfl<;>simp[wH]
theorem C8(π:bO){hm:n<8}{ct:Ct}{e:dt}{es:List (gd T)}{a:T}(h:dA π (.name n) ct e=(es,some a)):e ⟨n,hm⟩=a:=by
 have q:(([]:List (gd T)),some (pE (Dm π) e n))=(es,some a):=h;have q2:pE (Dm π) e n=e ⟨n,hm⟩:=dif_pos hm;rw[<-q2];injection q with _ q
 injection q
theorem sk(π:bO){C:Rc}{ns:List aJ}{x y:Sm}{ct bh:Ct}(G:Gd C g)(h:xH ns lo rel x y k ct bh):Y4 C π g cap ns rel x y k ct:=by
 intro F s sv rec w hR hL hw hS hr;cases s with
 | none =>obtain rfl:sv=_:=hS;exact MM π G k F rec w hR hL
 | some e =>
 obtain⟨ge,rfl,nO⟩:=hS;have he:=hw e rfl;obtain⟨d,i,j,ct1,hd,ha,hb,hs,hrel,_,_,fx,fy⟩:=h;have e1:=pL.cS fx;subst e1;obtain⟨es,vx,ex⟩:∃(es:List (gd T)) (vx:Option T),dA π x ct e=(es,vx):=⟨_,_,rfl⟩;obtain⟨dD,vy,ey⟩:∃(dD:List (gd T)) (vy:Option T),dA π y (Sp.cS x ct) e=(dD,vy):=⟨_,_,rfl⟩;have HR:Hid (WI.df rec F es/\∀x0,vx=some x0->WI.df rec (WI.told π rec F es) dD):=by
  cases vx with
  | none =>rw[QJ π rel x y ct e ex]at hr;exact⟨hr,fun _ q=>by cases q⟩
  | some x0 =>
   cases vy with
   | none=>rw[QF π rel x y ct e ex ey]at hr;exact⟨WI.df.left hr,fun _ _=>WI.df.right hr⟩
   | some y0=>rw[QB π rel x y ct e ex ey]at hr;exact⟨WI.df.left hr,fun _ _=>WI.df.right hr⟩
 have EX:=hid ex;have EY:=hid ey;have Xx:Hid (jm C π g cap ns x i ct):=gV π G fx;have Xw:Hid (jm C π g cap ns y j (Sp.cS x ct)):=gV π G fy;have HE:=hid he;have HG:=hid G;have HD:Hid (ns[k]?=some d/\d.a=(i:Int)/\d.b=(j:Int)/\d.sign=aQ rel/\rel<6):=⟨hd,ha,hb,hs,hrel⟩;have XE:Hid (pL ns lo x i ct (Sp.cS x ct)/\pL ns lo y j (Sp.cS x ct) bh):=⟨fx,fy⟩;have HW:=Bv (.bool false) (.slice (some ⟨ge,0,none⟩) 8 8) (ns:=ns) G hR hL;obtain⟨W,hW⟩:∃W,((w.alloc (.cells #[.bool false,.slice (some ⟨ge,0,none⟩) 8 8] 121)).alloc (.cells #[.bool false,.slice none 0 0] 121)).alloc (.cells #[.bool false,.slice none 0 0] 121)=W:=⟨_,rfl⟩;rw[hW]at HW;have H:=hid HW;have hgW:W.heap[ge]?=some (.cells (gF e) 191):=by obtain⟨n1,n2⟩:=hR.apart nO;exact(HW.bF.others ge (ah nO) n1 n2).trans nO
 have Of:=hid hgW;clear hR hL HW nO hgW ha hb hs hrel hd fx fy ex ey he hw hr G;go_enter func108,ntmps108;go_upto_region 1 with fail;try rw[hW]
 obtain⟨k6,e6⟩:∃k,k=w.heap.size:=⟨_,rfl⟩;obtain⟨k8,e8⟩:∃k,k=w.heap.size+1:=⟨_,rfl⟩;obtain⟨k9,e9⟩:∃k,k=w.heap.size+1+1:=⟨_,rfl⟩;rw[<-e9,<-e8,<-e6];rw[<-e9,<-e8,<-e6]at H;clear hW e6 e8 e9;have b0:=cell_of H.box 0 (v:=.bool false) rfl;have b1:=cell_of H.box 1 (v:=.slice (some ⟨ge,0,none⟩) 8 8) rfl;have m0:=cell_of H.ra.aV 0 (v:=.pointer (some ⟨C.pb,0,none⟩)) rfl;have c0:=H.look.slice;obtain⟨dj,r0,r1,r2,r3,r4,r5,r6,r7,r8,r9⟩:=H.look.facts HD.1;have h1:=H.look.mm;have h2:=H.look.hmax;have h3:=H.look.hn;go_upto_region 4 with fail;have hX:=H.call HG.out (below_alloc1 W (.cells (pz d) 176))
 have hn:=heap_alloc_new W (.cells (pz d) 176);have Yz:=((below_alloc1 W (.cells (pz d) 176)).block _ (ah Of.out)).trans Of.out;have lkn:w.heap.size<=W.heap.size:=H.bF.below.size;unfold pz at hX hn Yz;clear m0 c0 r0 r1 r2 r3 r4 r5 r6 r7 r8 r9 h1 h2 h3 dj H Of b0 b1;generalize W.alloc (.cells #[.int .i64 d.kind,.int .i64 d.a,.int .i64 d.b,.int .i64 d.c,.int .i64 d.n,.int .i64 d.next,.string ⟨d.sign.toArray⟩,.int .i64 d.site,.int .i64 d.aA,.bool d.els] 176)=X at *;generalize W.heap.size=kn at *;have HC:=Xx.out F e ge rec X hX.ra hX.look HE.out Yz (by rw[EX.out];exact HR.1);rw[EX.out]at HC;have DV:=hid HC;have n1:=cell_of hn 1 (v:=.int .i64 (i:Int)) (by rw[<-HD.2.1];rfl);have b0:=cell_of hX.box 0 (v:=.bool false) rfl;have b1:=cell_of hX.box 1 (v:=.slice (some ⟨ge,0,none⟩) 8 8) rfl;have H:=hid (And.intro hX (And.intro hn Yz));have HLN:=hid lkn;clear HC hX hn Yz lkn;go_wp2_with fail;refine DV.mono ?_;rintro r w2⟨xa,xb,ok,rfl,WW,k2,o2⟩;have h2:=H.1.step HG.out WW k2;have DX:=H.1.aW k2 HLN.out H.2.1;have Bp:w2.heap[ge]?=some (.cells (gF e) 191):=by obtain⟨n1,n2⟩:=H.1.ra.apart H.2.2;exact(k2.others ge (ah H.2.2) n1 n2).trans H.2.2
 have bw:=below_alloc1 w2 (.cells #[.int .i64 xa,.int .i64 xb] 191);have h3:=h2.call HG.out bw;have hv:=heap_alloc_new w2 (.cells #[.int .i64 xa,.int .i64 xb] 191);have Oh:=(bw.block _ (ah DX)).trans DX;have Ky:=(bw.block _ (ah Bp)).trans Bp;have HLX:=hid h2.bF.below.size;clear DV H n1 b0 b1 WW k2 h2 DX Bp bw;go_upto_region 5 with fail;generalize w2.alloc (.cells #[.int .i64 xa,.int .i64 xb] 191)=X2 at *
 generalize w2.heap.size=kx at *;cases vx with
 | none =>obtain rfl:ok=false:=o2;have EC:Hid (dC π rel x y ct (some e)=(es,none,none)):=QJ π rel x y ct e EX.out;have H9:=hid h3;clear h3 hv Oh Ky HR Xx Xw XE;go_wp2_with fail;refine(fl _).mono ?_;rintro q wf⟨rfl,bv⟩;have hY:=H9.call HG.out bv;go_wp2_with fail;refine(fl _).mono ?_;rintro q wg⟨rfl,bg⟩;have tK:=hY.call HG.out bg;have HT:=hid (tK.ret (.bool true) (.slice none 0 0) (.bool true) (.slice none 0 0));obtain⟨z0,z1,DT,DY,_⟩:=aH tK.r8;obtain⟨y0,y1,nA,nB,_⟩:=aH HT.2.2.2.2.1;clear hY tK bv bg H9;go_wp2_with fail;exact bodyPost_ret (v:=.tuple #[.agg #[.bool true,.slice none 0 0],.agg #[.bool true,.slice none 0 0]]) (by simp[results,results108,go_sem,HT.2.2.1.1,HT.2.2.1.2.1,HT.2.2.1.2.2.1,HT.2.2.1.2.2.2]) rfl ⟨_,_,rfl,by rw[EC.out];exact HT.1,HT.2.1,by rw[EC.out];rfl,by rw[EC.out];rfl⟩
 | some x0 =>
  obtain⟨rfl,rfl,rfl,wx⟩:=o2;have HC:=Xw.out (WI.told π rec F es) e ge rec X2 h3.ra h3.look HE.out Ky (by rw[EY.out];exact HR.2 x0 rfl);rw[EY.out]at HC;have DV:=hid HC;have n2:=cell_of Oh 2 (v:=.int .i64 (j:Int)) (by rw[<-HD.2.2.1];rfl);have b0:=cell_of h3.box 0 (v:=.bool false) rfl;have b1:=cell_of h3.box 1 (v:=.slice (some ⟨ge,0,none⟩) 8 8) rfl;have H:=hid (And.intro h3 (And.intro Oh (And.intro Ky hv)));have X9:=hid wx;clear HC h3 hv Oh Ky wx HR Xx Xw;go_wp2_with fail;refine DV.mono ?_;rintro r w4⟨ya,yb,ok,rfl,P2,k4,o4⟩;have h4:=H.1.step HG.out P2 k4;have VT:=H.1.aW k4 HLN.out H.2.1;have NU:=H.1.aW k4 HLX.out H.2.2.2;have Tj:w4.heap[ge]?=some (.cells (gF e) 191):=by obtain⟨n1,n2⟩:=H.1.ra.apart H.2.2.1;exact(k4.others ge (ah H.2.2.1) n1 n2).trans H.2.2.1
  have bw:=below_alloc1 w4 (.cells #[.int .i64 ya,.int .i64 yb] 191);have h5:=h4.call HG.out bw;have hv:=heap_alloc_new w4 (.cells #[.int .i64 ya,.int .i64 yb] 191);have mr:=(bw.block _ (ah VT)).trans VT;have NS:=(bw.block _ (ah NU)).trans NU;have P6:=(bw.block _ (ah Tj)).trans Tj;clear DV H n2 b0 b1 P2 k4 h4 VT Tj NU bw;go_upto_region 8 with fail;generalize w4.alloc (.cells #[.int .i64 ya,.int .i64 yb] 191)=Y at *
  generalize w4.heap.size=ky at *;cases vy with
  | none =>obtain rfl:ok=false:=o4;have EC:Hid (dC π rel x y ct (some e)=(es ++ dD,none,none)):=QF π rel x y ct e EX.out EY.out;have H9:=hid h5;clear h5 hv mr P6 NS XE;go_wp2_with fail;refine(fl _).mono ?_;rintro q wf⟨rfl,bv⟩;have hY:=H9.call HG.out bv;go_wp2_with fail;refine(fl _).mono ?_;rintro q wg⟨rfl,bg⟩;have tK:=hY.call HG.out bg;have HT:=hid (tK.ret (.bool true) (.slice none 0 0) (.bool true) (.slice none 0 0));obtain⟨z0,z1,DT,DY,_⟩:=aH tK.r8;obtain⟨y0,y1,nA,nB,_⟩:=aH HT.2.2.2.2.1;clear hY tK bv bg H9;go_wp2_with fail;exact bodyPost_ret (v:=.tuple #[.agg #[.bool true,.slice none 0 0],.agg #[.bool true,.slice none 0 0]]) (by simp[results,results108,go_sem,HT.2.2.1.1,HT.2.2.1.2.1,HT.2.2.1.2.2.1,HT.2.2.1.2.2.2]) rfl ⟨_,_,rfl,by rw[EC.out];exact(WI.aG π rec F es dD).symm ▸ HT.1,HT.2.1,by rw[EC.out];rfl,by rw[EC.out];rfl⟩
  | some y0 =>
   obtain⟨rfl,rfl,rfl,wy⟩:=o4;have EC:Hid (dC π rel x y ct (some e)=(es ++ dD,AH π rel x y x0 y0 e,AH π (wH rel) x y x0 y0 e)):=QB π rel x y ct e EX.out EY.out;have KH:Hid (∀(q:Nat) (_:q<6) (F':jB) (W:Wd),bx C F' W->dq C.pb g cap ns W->W.heap[ge]?=some (.cells (gF e) 191)->Calls prog 147 #[.pointer (some ⟨C.b,0,none⟩),.agg #[.bool false,.slice (some ⟨ge,0,none⟩) 8 8],.agg #[.int .i64 d.kind,.int .i64 d.a,.int .i64 d.b,.int .i64 d.c,.int .i64 d.n,.int .i64 d.next,.string ⟨d.sign.toArray⟩,.int .i64 d.site,.int .i64 d.aA,.bool d.els],.agg #[.int .i64 (pA x0),.int .i64 (pB x0)],.agg #[.int .i64 (pA y0),.int .i64 (pB y0)],.string ⟨(aQ q).toArray⟩] W fun r w'=>∃v,r=.returned v/\dL w' v (AH π q x y x0 y0 e)/\Below W.heap.size W w'):=fun q hq F' W h1 h2 h3 =>
    jD π HG.out HD.2.1 HD.2.2.1 XE.1 XE.2 HE.out X9.out wy (fun n hm hn=>C8 π (hn ▸ EX.out)) (fun n hm hn=>C8 π (hn ▸ EY.out)) q hq h1 h2 h3
   have H5:=hid (And.intro h5 (And.intro mr (And.intro P6 (And.intro NS hv))));have HOP:Hid (∀w:Wd,Calls prog 148 #[.string ⟨d.sign.toArray⟩] w fun r w'=>r=.returned (.string ⟨(aQ (wH rel)).toArray⟩)/\w'=w):=fun w=>by rw[HD.2.2.2.1];exact jT rel HD.2.2.2.2 w
   have Bb:=KH.out rel HD.2.2.2.2 _ Y h5.ra h5.look P6;rw[<-HD.2.2.2.1]at Bb;have Xt:Hid (Calls _ _ _ _ _):=Bb;have b0:=cell_of h5.box 0 (v:=.bool false) rfl;have b1:=cell_of h5.box 1 (v:=.slice (some ⟨ge,0,none⟩) 8 8) rfl;have n0:=cell_of mr 0 rfl;have n1:=cell_of mr 1 rfl;have n2:=cell_of mr 2 rfl;have n3:=cell_of mr 3 rfl;have n4:=cell_of mr 4 rfl;have n5:=cell_of mr 5 rfl;have n6:=cell_of mr 6 rfl;have n7:=cell_of mr 7 rfl;have n8:=cell_of mr 8 rfl;have n9:=cell_of mr 9 rfl;obtain⟨Wl,Xs,_,_,_⟩:=aH NS;obtain⟨VX,Wq,_,_,_⟩:=aH hv;clear Bb h5 mr P6 NS hv wy EX EY X9 XE;go_wp2_with fail;refine Xt.mono ?_;rintro r w6⟨v6,rfl,VA,b6⟩;obtain⟨a6,m6,c6,rfl⟩:=VA.form;obtain⟨h5,mr,P6,NS,hy5⟩:=H5.out;have bb:=b6.alloc b6.size (.cells #[.bool (AH π rel x y x0 y0 e).isNone,.slice a6 m6 c6] 121);have h7:=h5.call HG.out bb;have Hg:=(bb.block _ (ah mr)).trans mr;have VR:=(bb.block _ (ah P6)).trans P6;have hx7:=(bb.block _ (ah NS)).trans NS;have hy7:=(bb.block _ (ah hy5)).trans hy5;have Hm:=VA.below (below_alloc1 w6 (.cells #[.bool (AH π rel x y x0 y0 e).isNone,.slice a6 m6 c6] 121));have UD:=heap_alloc_new w6 (.cells #[.bool (AH π rel x y x0 y0 e).isNone,.slice a6 m6 c6] 121);have n7:w6.heap.size≠k8/\w6.heap.size≠k9:=by have q1:=ah h5.r8;have q2:=ah h5.r9;have q3:=b6.size;omega
   clear H5 Xt b0 b1 n0 n1 n2 n3 n4 n5 n6 n8 n9 Wl Xs VX Wq VA b6 bb h5 mr P6 NS hy5;have N14:=hid n7;clear n7;generalize eI:(AH π rel x y x0 y0 e).isNone=nb at *;go_upto_region 11 with fail;generalize w6.alloc (.cells #[.bool nb,.slice a6 m6 c6] 121)=Z at *
   generalize w6.heap.size=kX at *;have kD:=KH.out (wH rel) (Y8 HD.2.2.2.2) _ Z h7.ra h7.look VR;have WS:Hid (Calls _ _ _ _ _):=kD;have b0:=cell_of h7.box 0 (v:=.bool false) rfl;have b1:=cell_of h7.box 1 (v:=.slice (some ⟨ge,0,none⟩) 8 8) rfl;have n0:=cell_of Hg 0 rfl;have n1:=cell_of Hg 1 rfl;have n2:=cell_of Hg 2 rfl;have n3:=cell_of Hg 3 rfl;have n4:=cell_of Hg 4 rfl;have n5:=cell_of Hg 5 rfl;have n6:=cell_of Hg 6 rfl;have n7:=cell_of Hg 7 rfl;have n8:=cell_of Hg 8 rfl;have n9:=cell_of Hg 9 rfl;obtain⟨Wl,Xs,_,_,_⟩:=aH hx7;obtain⟨VX,Wq,_,_,_⟩:=aH hy7;have H7:=hid (And.intro h7 (And.intro Hm UD));clear kD h7 Hg VR hx7 hy7 Hm UD KH;go_wp2_with fail;refine(HOP.out _).mono ?_;rintro r wo⟨rfl,rfl⟩;go_wp2_with fail;refine WS.mono ?_;rintro r w8⟨v8,rfl,FW,b8⟩;obtain⟨a8,m8,c8,rfl⟩:=FW.form;obtain⟨h7,Hm,UD⟩:=H7.out;have bb:=b8.alloc b8.size (.cells #[.bool (AH π (wH rel) x y x0 y0 e).isNone,.slice a8 m8 c8] 121);have h9:=h7.call HG.out bb;have Xn:=Hm.below bb;have TP:=(bb.block _ (ah UD)).trans UD;have ht9:=FW.below (below_alloc1 w8 (.cells #[.bool (AH π (wH rel) x y x0 y0 e).isNone,.slice a8 m8 c8] 121));have UF:=heap_alloc_new w8 (.cells #[.bool (AH π (wH rel) x y x0 y0 e).isNone,.slice a8 m8 c8] 121);have n16:w8.heap.size≠k8/\w8.heap.size≠k9:=by have q1:=ah h7.r8;have q2:=ah h7.r9;have q3:=b8.size;omega
   have N16:=hid n16;clear H7 WS b0 b1 n0 n1 n2 n3 n4 n5 n6 n7 n8 n9 Wl Xs VX Wq FW b8 bb h7 Hm UD n16;generalize aaa:(AH π (wH rel) x y x0 y0 e).isNone=nc at *;go_upto_region 13 with fail;generalize w8.alloc (.cells #[.bool nc,.slice a8 m8 c8] 121)=Q at *
   generalize w8.heap.size=N8 at *;have hS:sF C g cap ns w k6 k8 k9 (.bool false) (.slice (some ⟨ge,0,none⟩) 8 8) (WI.told π rec (WI.told π rec F es) dD) Q.drew:=h9.call HG.out (Below.refl _ _).drew;have hA:Q.drew.cell? ⟨kX,0,none⟩=some (.bool nb)/\Q.drew.cell? ⟨kX,1,none⟩=some (.slice a6 m6 c6):=⟨cell_of TP 0 rfl,cell_of TP 1 rfl⟩;have hB:Q.drew.cell? ⟨N8,0,none⟩=some (.bool nc)/\Q.drew.cell? ⟨N8,1,none⟩=some (.slice a8 m8 c8):=⟨cell_of UF 0 rfl,cell_of UF 1 rfl⟩;obtain⟨No,NV⟩:=N14.out;obtain⟨NF,NB⟩:=N16.out;have zk:=hid (And.intro (Xn.below (Below.refl _ _).drew) (ht9.below (Below.refl _ _).drew));clear h9 TP UF Xn ht9 eI aaa;have HT:=hid (hS.ret (.bool nb) (.slice a6 m6 c6) (.bool nc) (.slice a8 m8 c8));obtain⟨z0,z1,DT,DY,_⟩:=aH hS.r8;obtain⟨y0,y1,nA,nB,_⟩:=aH HT.2.2.2.2.1;refine wp_region_held_drew (S:=fun w':Wd=>w'.cell? ⟨kX,0,none⟩=some (.bool nb)/\w'.cell? ⟨kX,1,none⟩=some (.slice a6 m6 c6)/\w'.cell? ⟨N8,0,none⟩=some (.bool nc)/\w'.cell? ⟨N8,1,none⟩=some (.slice a8 m8 c8)) (by kernel_rfl) ⟨hA.1,hA.2,hB.1,hB.2⟩ (fun aa=>?_);have Kj:=hid (And.intro ((HT.2.2.2.2.2 kX 0 No NV).1.trans hA.1) (And.intro ((HT.2.2.2.2.2 kX 1 No NV).1.trans hA.2) (And.intro ((HT.2.2.2.2.2 N8 0 NF NB).1.trans hB.1) ((HT.2.2.2.2.2 N8 1 NF NB).1.trans hB.2))));have P0:=hid (And.intro ((HT.2.2.2.2.2 kX 0 No NV).2.trans hA.1) (And.intro ((HT.2.2.2.2.2 kX 1 No NV).2.trans hA.2) (And.intro ((HT.2.2.2.2.2 N8 0 NF NB).2.trans hB.1) ((HT.2.2.2.2.2 N8 1 NF NB).2.trans hB.2))));clear hA hB No NV NF NB;generalize Q.drew=V at *;refine tk 0 (.agg #[.bool nb,.slice a6 m6 c6]) rfl (fun w' h=>by have q:=h.1;have q2:=h.2.1;go_simp) aa ?_;refine tk 1 (.agg #[.bool nc,.slice a8 m8 c8]) rfl (fun w' h=>by have q:=h.2.2.1;have q2:=h.2.2.2;go_simp) aa ?_;refine cH 2 fun K hK=>?_
   simp only[bT,gN];go_simp;refine hK.out _ _ Kj.out (fun _=>?_);clear hK K;refine cH 3 fun K hK=>?_
   simp only[bT];go_simp;refine hK.out _ _ P0.out (fun _=>?_);clear hK K;refine wpAnyH_done (by kernel_rfl) ?_ _;go_wp2_with fail;exact bodyPost_ret (v:=.tuple #[.agg #[.bool nb,.slice a6 m6 c6],.agg #[.bool nc,.slice a8 m8 c8]]) (by simp[results,results108,go_sem,HT.2.2.1.1,HT.2.2.1.2.1,HT.2.2.1.2.2.1,HT.2.2.1.2.2.2]) rfl ⟨_,_,rfl,by rw[EC.out];exact(WI.aG π rec F es dD).symm ▸ HT.1,HT.2.1,by rw[EC.out];exact HT.2.2.2.1 _ _ zk.1,by rw[EC.out];exact HT.2.2.2.1 _ _ zk.2⟩
end
end RI
end
section
namespace RI
section
variable{ns:List aJ}
variable{j j' lo hi g cap:Nat}
theorem By{j j':Nat}{d d':aJ}(h:ns[j]?=some d)(e:(j:Int)=(j':Int))(h':ns[j']?=some d'):d=d':=by
 obtain rfl:j=j':=by omega
 rw[h]at h';exact Option.some.inj h'
theorem Va{t:Bl}{k:Int}{c1 c2:Ct}(h:ji ns lo hi t k c1 c2):t=.nil∨∃(j:Nat) (d:aJ),k=(j:Int)/\ns[j]?=some d/\d.aA=c1.1:=by
 cases t with
 | nil=>exact .inl rfl
 | assign v x r=>obtain⟨j,_,d,_,e,_,_,hd,hp,_⟩:=h;exact .inr ⟨j,d,e,hd,hp⟩
 | read v r=>obtain⟨j,d,e,_,_,hd,hp,_⟩:=h;exact .inr ⟨j,d,e,hd,hp⟩
 | assert q x y r=>obtain⟨j,_,d,_,e,_,_,hd,hp,_⟩:=h;exact .inr ⟨j,d,e,hd,hp⟩
 | ite q x y xs e ys r=>obtain⟨j,_,d,_,_,_,e,_,_,hd,hp,_⟩:=h;exact .inr ⟨j,d,e,hd,hp⟩
 | loop q x y xs r=>obtain⟨j,_,d,_,_,e,_,_,hd,hp,_⟩:=h;exact .inr ⟨j,d,e,hd,hp⟩
theorem I9(π:bO)(l:List Int)(hπ:π=[-32768,32767] ++ l){C:Rc}(G:Gd C g)(hP:C.ao<=4/\C.narrow<=3/\C.aj<=3){t0:Bl}{k0:Int}{Kt ct1:Ct}(WU:ji ns lo hi t0 k0 Kt ct1)(ok0:ti t0)(IH:∀(t:Bl) (k:Int) (c1 c2:Ct),tV t<tV t0->ji ns lo hi t k c1 c2->ti t->qR C π g cap ns l k (cF π C t c1)):qR C π g cap ns l k0 (cF π C t0 Kt):=by
 intro F s0 sv rec w hR hS hL ws0 hv hr;obtain⟨va,vn,vc,rfl⟩:=hv.form;have HW:=ON (l:=l) G hR hS hL hv ws0;have Ui:Hid (Rz C π g cap ns l lo hi t0 Kt s0 F rec w (w.heap.size+1) w.heap.size k0 ((w.alloc (.cells #[.bool s0.isNone,.slice va vn vc] 121)).alloc (.cells #[.bool false,.slice none 0 0] 121))):=⟨t0,Kt,ct1,[],s0,WU,ok0,Nat.le_refl _,Nat.le_refl _,rfl,by rw[WI.ep];exact HW⟩;have HIH:=hid IH;have Hu:=hid hr;have HG:=hid G;have HPP:=hid hP;have ZD:=hid hπ;clear hR hS hL ws0 hv hr HW WU ok0 IH G hP hπ;go_enter func76,ntmps76;go_wp2_with fail;obtain⟨k6,e6⟩:∃k,k=w.heap.size:=⟨_,rfl⟩;obtain⟨k8,e8⟩:∃k,k=w.heap.size+1:=⟨_,rfl⟩;rw[<-e8,<-e6];rw[<-e8,<-e6]at Ui;clear e8 e6;generalize (w.alloc (.cells #[.bool s0.isNone,.slice va vn vc] 121)).alloc (.cells #[.bool false,.slice none 0 0] 121)=W at *
 go_loopw [1] (fun v1 wr=>∃kk:Int,v1=.int .i64 kk/\Hid (Rz C π g cap ns l lo hi t0 Kt s0 F rec w k8 k6 kk wr)) (fun v1 _=>chain ns (lM t0) (intOf v1))
 case atStart=>exact⟨k0,rfl,Ui⟩
 case round =>
  obtain⟨kk,rfl,ml⟩:=hrel;obtain⟨t,c1,c2,es,s,qL,ok,hlen,dI,he,hq⟩:=ml.out;have HE:=hid he;have HQ:=hid hq;have uh:Hid (lM t<=lM t0/\tV t<=tV t0):=⟨hlen,dI⟩;have mw:Hid (ji ns lo hi t kk c1 c2/\ti t):=⟨qL,ok⟩;clear ml Ui he hq hlen dI qL ok
  rcases Va mw.1 with rfl | ⟨j,d,rfl,hd,pG⟩
  ·obtain⟨rfl,_⟩:=mw.1
   obtain⟨a,n,c,q0,q1,_,_,hs,_⟩:=HQ.box k6 s (by simp);have HT:=hid (HQ.ret hs);obtain⟨z0,z1,DT,DY,_⟩:=aH HQ.res;clear hs;go_wp2_with fail;refine bodyPost_ret (v:=.agg #[.bool s.isNone,.slice a n c]) (by simp[results,results76,go_sem,HT.2.2.2.1,HT.2.2.2.2]) rfl ⟨_,rfl,?_,HT.2.1,?_⟩
   ·rw[HE.out,Gt];simp only[List.append_nil];exact HT.1
   ·rw[HE.out,Gt];exact HT.2.2.1
  ·have VY:Hid (ns[j]?=some d/\d.aA=c1.1):=⟨hd,pG⟩
   have m0:=cell_of HQ.ra.aV 0 (v:=.pointer (some ⟨C.pb,0,none⟩)) rfl;have c0:=HQ.look.slice;obtain⟨dj,r0,r1,r2,r3,r4,r5,r6,r7,r8,r9⟩:=HQ.look.facts hd;have h1:=HQ.look.mm;have h2:=HQ.look.hmax;have h3:=HQ.look.hn;have HX:=hid (HQ.YW HG.out d);unfold pz at HX;clear hd pG;go_upto_region 3 with fail;generalize wr.alloc (.cells #[.int .i64 d.kind,.int .i64 d.a,.int .i64 d.b,.int .i64 d.c,.int .i64 d.n,.int .i64 d.next,.string ⟨d.sign.toArray⟩,.int .i64 d.site,.int .i64 d.aA,.bool d.els] 176)=X at *
   generalize wr.heap.size=kn at *;have HX:Hid (bE C g cap ns l w k8 [(kn,.cells (pz d) 176)] (WI.told π rec F es) [(k6,s)] X):=HX.out;clear m0 c0 r0 r1 r2 r3 r4 r5 r6 r7 r8 r9 h1 h2 h3 dj HQ;cases s with
   | none =>
    obtain⟨a,n,c,q0,q1,_,_,hs,_⟩:=HX.box k6 none (by simp);have HT:=hid (HX.ret hs);obtain⟨z0,z1,DT,DY,_⟩:=aH HX.res;have q0:X.cell? ⟨k6,0,none⟩=some (.bool true):=q0;clear hs;go_wp2_with fail;refine bodyPost_ret (v:=.agg #[.bool true,.slice a n c]) (by have q3:=HT.2.2.2.1;have q4:=HT.2.2.2.2;simp only[Option.isNone]at q3 q4;simp[results,results76,go_sem,q3,q4]) rfl ⟨_,rfl,?_,HT.2.1,?_⟩
    ·rw[HE.out,EK];simp only[List.append_nil];exact HT.1
    ·rw[HE.out,EK];exact HT.2.2.1
   | some e =>
    cases t with
    | nil=>exact absurd mw.1.1 (by omega)
    | assign v x rest =>
     obtain⟨j',a,d',c3,ej,_,_,FQ,pG,rL,Ns,FW,ha,_,hx,cK⟩:=mw.1;obtain rfl:=By VY.1 ej FQ;have HD:Hid (d.aA=c1.1/\d.kind=_):=⟨pG,rL⟩;have e3:=pL.cS hx;subst e3;have HWO:Hid (jm C π g cap ns x a (Sp.aD c1)):=gV π HG.out hx;have yo:Hid (ji ns lo hi rest d.next (Sp.cS x (Sp.aD c1)) c2/\ti rest):=⟨cK,by have q:=mw.2;exact fun n hn=>q n (by simp[ig,hn])⟩;have pV:Hid (d.n=(v:Int)/\v<8/\d.a=(a:Int)):=⟨Ns,FW,ha⟩;clear hx cK Ns FW ha;clear FQ pG rL ej;obtain⟨tx,u,hu⟩:∃tx u,dA π x (Sp.aD c1) e=(tx,u):=⟨_,_,rfl⟩;obtain⟨s',dw⟩:∃s',u.map (fun z=>ph e v z)=s':=⟨_,rfl⟩;have eV:=D9 π C v x rest c1 e hu dw;have rr:=vp Hu.out HE.out eV;have qK:=hid (And.intro (WI.df.left rr) (WI.df.right (π:=π) rr));have jd:=hid eV;have HU:=hid hu;clear rr eV hu;have hn:=HX.node kn d (List.mem_cons_self ..);have n0:=cell_of hn 0 (v:=.int .i64 6) (by rw[<-HD.2];rfl);have n8:=cell_of hn 8 (v:=.int .i64 c1.1) (by rw[<-HD.1];rfl);obtain⟨sa,sn,sc,Bh,Qf,_,_,ju,qN⟩:=HX.box k6 (some e) (by simp);have Bh:X.cell? ⟨k6,0,none⟩=some (.bool false):=Bh;have HC:=hid (o9 π HG.out HX.out c1.1 ju qN qK.1);have F9:=hid qN;simp only[Option.isNone_some]at HC;clear hn ju qN;go_wp2_with fail;refine HC.mono ?_;rintro r w2⟨rfl,h2⟩;have H2:Hid (bE C g cap ns l w k8 [(kn,.cells (pz d) 176)] (WI.told π rec (WI.told π rec F es) [.aA c1.1 e]) [(k6,some e)] w2):=h2;clear h2 HC n8 Bh Qf HX n0;have hn:=H2.node kn d (List.mem_cons_self ..);have n0:=cell_of hn 0 (v:=.int .i64 6) (by rw[<-HD.2];rfl);have n1:=cell_of hn 1 (v:=.int .i64 (a:Nat)) (by rw[<-pV.2.2];rfl);obtain⟨ge,q0,q1,_,_,hg,we⟩:=H2.SZ k6 e (by simp);have HC:=hid (MF HWO.out HG.out H2.out hg we HU.out qK.2);have HWE:=hid we;clear hn hg we;go_wp2_with fail;refine HC.mono ?_;rintro r w3⟨xa,xb,okk,rfl,h3,Ky,ho⟩;have H4:=hid (h3.UO HG.out (.int .i64 xa) (.int .i64 xb));clear h3 Ky HC n1 q0 q1 H2 n0;go_upto_region 10 with fail;generalize w3.alloc (.cells #[.int .i64 xa,.int .i64 xb] 191)=w4 at *
     generalize w3.heap.size=Ki at *;cases u with
     | none =>
      obtain rfl:okk=false:=ho;obtain rfl:s'=none:=dw.symm;obtain⟨sa,sn,sc,q0,q1,_,_,_,_⟩:=H4.box k6 (some e) (by simp);clear HU;go_wp2_with fail;refine(fl _).mono ?_;rintro r w5⟨rfl,b5⟩;have h5:=H4.call HG.out b5;obtain⟨sa,sn,sc,q0,q1,mv,mu,_,_⟩:=h5.box k6 (some e) (by simp);have H6:=hid (h5.put HG.out (s':=none) (a:=none) (n:=0) (c:=0) rfl (fun _ q=>by cases q));simp only[Option.isNone_none]at H6;clear h5 b5 H4;go_upto_region 27 with fail;generalize (w5.setCell ⟨k6,0,none⟩ (.bool true)).setCell ⟨k6,1,none⟩ (.slice none 0 0)=Z at *
      have hn:=H6.node kn d (by simp);have n5:=cell_of hn 5 (v:=.int .i64 d.next) rfl;have HN:Hid (_/\_):=pf (F:=F) (rec:=rec) mw.1 yo.1 yo.2 uh.1 uh.2 rfl (by exact Nat.le_succ _) HE.out jd.out (by rw[WI.aG];exact H6.Pd.Pd);clear hn;go_wp2_with fail;exact⟨⟨_,rfl,HN.1⟩,HN.2⟩
     | some x0 =>
      obtain⟨rfl,rfl,rfl,wx⟩:=ho;have hn:=H4.node kn d (by simp);have n4:=cell_of hn 4 (v:=.int .i64 (v:Nat)) (by rw[<-pV.1];rfl);obtain⟨_,hv,_⟩:=H4.ob (Ki,.cells #[.int .i64 (pA x0),.int .i64 (pB x0)] 191) (List.mem_cons_self ..);obtain⟨v0,v1,_,_,_⟩:=aH hv;obtain⟨ge,q0,q1,_,_,hg,_⟩:=H4.SZ k6 e (by simp);have fM:s'=some (ph e v x0):=dw.symm;have HC:=hid (Gx HG.out H4.out hg pV.2.1 x0 fM);have F7:Hid (eK s'):=fun e' xE k=>by
       rw[fM]at xE;cases xE
       unfold ph;split
       ·exact wx
       ·exact HWE.out k
      clear hn hv hg wx fM dw HU;go_wp2_with fail;refine HC.mono ?_;rintro r w5⟨a1,b1,d1,rfl,h5,QY⟩;obtain⟨sa,sn,sc,q0,q1,mv,mu,_,_⟩:=h5.box k6 (some e) (by simp);have H6:=hid (h5.put HG.out QY F7.out);clear h5 QY H4 HC v0 v1 n4;go_upto_region 27 with fail;generalize (w5.setCell ⟨k6,0,none⟩ (.bool s'.isNone)).setCell ⟨k6,1,none⟩ (.slice a1 b1 d1)=Z at *
      have hn:=H6.node kn d (by simp);have n5:=cell_of hn 5 (v:=.int .i64 d.next) rfl;have HN:Hid (_/\_):=pf (F:=F) (rec:=rec) mw.1 yo.1 yo.2 uh.1 uh.2 rfl (by exact Nat.le_succ _) HE.out jd.out (by rw[WI.aG];exact H6.Pd.Pd);clear hn;go_wp2_with fail;exact⟨⟨_,rfl,HN.1⟩,HN.2⟩
    | read v rest =>
     obtain⟨j',d',ej,_,_,FQ,pG,rL,Ns,FW,cK⟩:=mw.1;obtain rfl:=By VY.1 ej FQ;have HD:Hid (d.aA=c1.1/\d.kind=_):=⟨pG,rL⟩;have yo:Hid (ji ns lo hi rest d.next (Sp.aD c1) c2/\ti rest):=⟨cK,by have q:=mw.2;exact fun n hn=>q n (by simp[ig,hn])⟩;have pV:Hid (d.n=(v:Int)/\v<8):=⟨Ns,FW⟩;clear cK Ns FW;clear FQ pG rL ej;obtain⟨s',dw⟩:∃s',s'=some (ph e v eF):=⟨_,rfl⟩;have eV:=KX π C v rest c1 e;rw[<-dw]at eV;have qK:Hid (_/\True):=And.intro (vp Hu.out HE.out eV) trivial;have jd:=hid eV;have HS':Hid (s'=some (ph e v eF)):=dw;clear eV dw;have hn:=HX.node kn d (List.mem_cons_self ..);have n0:=cell_of hn 0 (v:=.int .i64 7) (by rw[<-HD.2];rfl);have n8:=cell_of hn 8 (v:=.int .i64 c1.1) (by rw[<-HD.1];rfl);obtain⟨sa,sn,sc,Bh,Qf,_,_,ju,qN⟩:=HX.box k6 (some e) (by simp);have Bh:X.cell? ⟨k6,0,none⟩=some (.bool false):=Bh;have HC:=hid (o9 π HG.out HX.out c1.1 ju qN qK.1);have F9:=hid qN;simp only[Option.isNone_some]at HC;clear hn ju qN;go_wp2_with fail;refine HC.mono ?_;rintro r w2⟨rfl,h2⟩;have H2:Hid (bE C g cap ns l w k8 [(kn,.cells (pz d) 176)] (WI.told π rec (WI.told π rec F es) [.aA c1.1 e]) [(k6,some e)] w2):=h2;clear h2 HC n8 Bh Qf HX n0;have hn:=H2.node kn d (List.mem_cons_self ..);have n0:=cell_of hn 0 (v:=.int .i64 7) (by rw[<-HD.2];rfl);have m1:=H2.ra.cells.1;clear hn;go_wp2_with fail;refine(RN _).mono ?_;rintro r w3⟨rfl,b3⟩;have H4:Hid (bE _ _ _ _ _ _ _ _ _ _ _):=(H2.call HG.out b3).UO HG.out (.int .i64 (pA eF)) (.int .i64 (pB eF));clear b3 H2 n0 m1;go_upto_region 15 with fail;generalize w3.alloc (.cells #[.int .i64 (pA eF),.int .i64 (pB eF)] 191)=w4 at *
     generalize w3.heap.size=Ki at *;have hn:=H4.node kn d (by simp);have n4:=cell_of hn 4 (v:=.int .i64 (v:Nat)) (by rw[<-pV.1];rfl);obtain⟨_,hv,_⟩:=H4.ob (Ki,.cells #[.int .i64 (pA eF),.int .i64 (pB eF)] 191) (List.mem_cons_self ..);obtain⟨v0,v1,_,_,_⟩:=aH hv;obtain⟨ge,q0,q1,_,_,hg,we⟩:=H4.SZ k6 e (by simp);have HC:=hid (Gx HG.out H4.out hg pV.2 eF HS'.out);have F7:Hid (eK s'):=fun e' xE k=>by
      rw[HS'.out]at xE;cases xE
      unfold ph;split
      ·exact⟨by decide,by decide,by decide⟩
      ·exact we k
     clear hn hv hg we;go_wp2_with fail;refine HC.mono ?_;rintro r w5⟨a1,b1,d1,rfl,h5,QY⟩;obtain⟨sa,sn,sc,q0,q1,mv,mu,_,_⟩:=h5.box k6 (some e) (by simp);have H6:=hid (h5.put HG.out QY F7.out);clear h5 QY H4 HC v0 v1 n4;go_upto_region 27 with fail;generalize (w5.setCell ⟨k6,0,none⟩ (.bool s'.isNone)).setCell ⟨k6,1,none⟩ (.slice a1 b1 d1)=Z at *
     have hn:=H6.node kn d (by simp);have n5:=cell_of hn 5 (v:=.int .i64 d.next) rfl;have HN:=hid (pf (F:=F) (rec:=rec) mw.1 yo.1 yo.2 uh.1 uh.2 rfl (by exact Nat.le_succ _) HE.out jd.out (by exact H6.Pd.Pd));clear hn;go_wp2_with fail;exact⟨⟨_,rfl,HN.1⟩,HN.2⟩
    | assert r x y rest =>
     obtain⟨j',a,d',c3,ej,_,_,FQ,pG,rL,gI,ha,_,hx,cK⟩:=mw.1;obtain rfl:=By VY.1 ej FQ;have HD:Hid (d.aA=c1.1/\d.kind=_):=⟨pG,rL⟩;have e3:=xH.cS hx;subst e3;have Xl:Hid (yL C π g cap ns a (dC π r x y (Sp.aL (Sp.aD c1)))):=sk π HG.out hx;have yo:Hid (ji ns lo hi rest d.next (Sp.cS y (Sp.cS x (Sp.aL (Sp.aD c1)))) c2/\ti rest):=⟨cK,by have q:=mw.2;exact fun n hn=>q n (by simp[ig,hn])⟩;have tQ:Hid (xh x/\xh y):=⟨by have q:=mw.2;exact fun n hn=>q n (by simp[ig,hn]),by have q:=mw.2;exact fun n hn=>q n (by simp[ig,hn])⟩;have pV:Hid (d.site=c1.2/\d.a=(a:Int)):=⟨gI,ha⟩;clear hx cK gI ha;clear FQ pG rL ej;obtain⟨te,yes,no,hco⟩:∃te yes no,dC π r x y (Sp.aL (Sp.aD c1)) (some e)=(te,yes,no):=⟨_,_,_,rfl⟩;have eV:=Fz π C r x y rest c1 e hco;rw[show no.isSome=!no.isNone by cases no<;>rfl]at eV;have rr:=vp Hu.out HE.out eV;have qK:Hid (_/\_/\_):=And.intro (WI.df.left (WI.df.left rr)) (And.intro (WI.df.right (π:=π) (WI.df.left rr)) (by have q:=WI.df.right (π:=π) rr;rw[WI.aG]at q;exact q));have jd:=hid eV;have DO:=hid hco;clear rr eV hco;have hn:=HX.node kn d (List.mem_cons_self ..);have n0:=cell_of hn 0 (v:=.int .i64 8) (by rw[<-HD.2];rfl);have n8:=cell_of hn 8 (v:=.int .i64 c1.1) (by rw[<-HD.1];rfl);obtain⟨sa,sn,sc,Bh,Qf,_,_,ju,qN⟩:=HX.box k6 (some e) (by simp);have Bh:X.cell? ⟨k6,0,none⟩=some (.bool false):=Bh;have HC:=hid (o9 π HG.out HX.out c1.1 ju qN qK.1);have F9:=hid qN;simp only[Option.isNone_some]at HC;clear hn ju qN;go_wp2_with fail;refine HC.mono ?_;rintro r w2⟨rfl,h2⟩;have H2:Hid (bE C g cap ns l w k8 [(kn,.cells (pz d) 176)] (WI.told π rec (WI.told π rec F es) [.aA c1.1 e]) [(k6,some e)] w2):=h2;clear h2 HC n8 Bh Qf HX n0;have hn:=H2.node kn d (List.mem_cons_self ..);have n0:=cell_of hn 0 (v:=.int .i64 8) (by rw[<-HD.2];rfl);have n1:=cell_of hn 1 (v:=.int .i64 (a:Nat)) (by rw[<-pV.2];rfl);obtain⟨sa,sn,sc,q0,q1,_,_,ju,_⟩:=H2.box k6 (some e) (by simp);have HC:=hid (Xl.go HG.out H2.out DO.out ju F9.out qK.2.1);have jq:Hid (eK yes/\eK no):=by have q:=KL π (r:=r) tQ.1 tQ.2 (Sp.aL (Sp.aD c1)) F9.out;rw[DO.out]at q;exact q
     simp only[Option.isNone_some]at HC q0;clear hn ju;go_wp2_with fail;refine HC.mono ?_;rintro r w3⟨a1,b1,d1,a2,b2,d2,rfl,h3,hy,NI⟩;have H4:=hid (h3.JZ HG.out hy jq.1 NI jq.2);clear h3 hy NI HC n1 q0 q1 H2 n0;go_upto_region 18 with fail;generalize (w3.alloc (.cells #[.bool yes.isNone,.slice a1 b1 d1] 121)).alloc (.cells #[.bool no.isNone,.slice a2 b2 d2] 121)=w4 at *
     generalize w3.heap.size=mo at *;have hn:=H4.node kn d (by simp);have n7:=cell_of hn 7 (v:=.int .i64 c1.2) (by rw[<-pV.1];rfl);obtain⟨ya,yn,yc,Od,Qc,_,_,_,_⟩:=H4.box (mo+1) no (by simp);have HC:=hid (MV π HG.out H4.out c1.2 (!no.isNone) qK.2.2);clear hn;obtain⟨nb,eI⟩:∃nb,nb=no.isNone:=⟨_,rfl⟩;rw[<-eI]at Od HC jd;clear eI;go_wp2_with fail;refine HC.mono ?_;rintro r w5⟨rfl,h5⟩;obtain⟨xa,xn,xc,x0,x1,_,_,zm,_⟩:=h5.box mo yes (by simp);obtain⟨sa,sn,sc,q0,q1,mv,mu,_,_⟩:=h5.box k6 (some e) (by simp);have H6:=hid (h5.dr.dr.put HG.out zm jq.1);clear h5 zm H4 HC n7 Od Qc;go_upto_region 27 with fail;generalize (w5.setCell ⟨k6,0,none⟩ (.bool yes.isNone)).setCell ⟨k6,1,none⟩ (.slice xa xn xc)=Z at *
     have hn:=H6.node kn d (by simp);have n5:=cell_of hn 5 (v:=.int .i64 d.next) rfl;have HN:Hid (_/\_):=pf (F:=F) (rec:=rec) mw.1 yo.1 yo.2 uh.1 uh.2 rfl (by exact Nat.le_succ _) HE.out jd.out (by rw[WI.aG,WI.aG];exact H6.Pd);clear hn;go_wp2_with fail;exact⟨⟨_,rfl,HN.1⟩,HN.2⟩
    | ite r x y xs els ys rest =>
     obtain⟨j',a,d',c3,c4,c5,ej,_,_,FQ,pG,rL,ZT,ha,_,hx,A8,TY,UC,cK⟩:=mw.1;obtain rfl:=By VY.1 ej FQ;have HD:Hid (d.aA=c1.1/\d.kind=_):=⟨pG,rL⟩;have S3:Hid (c3=Sp.cS y (Sp.cS x (Sp.aD c1))/\c4=Sp.cB xs c3/\c5=Sp.cB ys c4/\(els=false->ys=.nil)):=⟨xH.cS hx,ji.cB A8,ji.cB TY,UC⟩;have Xl:Hid (yL C π g cap ns a (dC π r x y (Sp.aD c1))):=sk π HG.out hx;have yo:Hid (ji ns lo hi rest d.next c5 c2/\ti rest):=⟨cK,by have q:=mw.2;exact fun n hn=>q n (by simp[ig,hn])⟩;have tQ:Hid (xh x/\xh y/\ti xs/\ti ys):=⟨by have q:=mw.2;exact fun n hn=>q n (by simp[ig,hn]),by have q:=mw.2;exact fun n hn=>q n (by simp[ig,hn]),by have q:=mw.2;exact fun n hn=>q n (by simp[ig,hn]),by have q:=mw.2;exact fun n hn=>q n (by simp[ig,hn])⟩;have Bb:Hid (qR C π g cap ns l d.b (cF π C xs c3)):=HIH.out xs d.b c3 c4 (by have q:=uh.2;simp only[tV]at q;omega) A8 tQ.2.2.1;have kD:Hid (qR C π g cap ns l d.c (cF π C ys c4)):=HIH.out ys d.c c4 c5 (by have q:=uh.2;simp only[tV]at q;omega) TY tQ.2.2.2;have pV:=hid ha;clear hx A8 TY UC cK ha ZT;clear FQ pG rL ej;obtain⟨te,yes,no,hco⟩:∃te yes no,dC π r x y (Sp.aD c1) (some e)=(te,yes,no):=⟨_,_,_,rfl⟩;obtain⟨t1,u1,Kp⟩:∃t1 u1,cF π C xs c3 yes=(t1,u1):=⟨_,_,rfl⟩;obtain⟨t2,u2,Oc⟩:∃t2 u2,cF π C ys c4 no=(t2,u2):=⟨_,_,rfl⟩;obtain⟨s',dw⟩:∃s',uw u1 u2=s':=⟨_,rfl⟩;have eV:=OQ π C r x y xs els ys rest c1 e S3.2.2.2 S3.1 S3.2.1 S3.2.2.1 hco Kp Oc dw;have rr:=vp Hu.out HE.out eV;have r0:=WI.df.right (π:=π) rr;have qK:Hid (_/\_/\_/\_):=And.intro (WI.df.left rr) (And.intro (WI.df.left (WI.df.left r0)) (And.intro (WI.df.right (π:=π) (WI.df.left r0)) (by have q:=WI.df.right (π:=π) r0;rw[WI.aG]at q;exact q)));have jd:=hid eV;have DO:=hid hco;have HU:Hid (cF π C xs c3 yes=(t1,u1)/\cF π C ys c4 no=(t2,u2)/\uw u1 u2=s'):=⟨Kp,Oc,dw⟩;clear rr r0 eV hco Kp Oc dw;have hn:=HX.node kn d (List.mem_cons_self ..);have n0:=cell_of hn 0 (v:=.int .i64 9) (by rw[<-HD.2];rfl);have n8:=cell_of hn 8 (v:=.int .i64 c1.1) (by rw[<-HD.1];rfl);obtain⟨sa,sn,sc,Bh,Qf,_,_,ju,qN⟩:=HX.box k6 (some e) (by simp);have Bh:X.cell? ⟨k6,0,none⟩=some (.bool false):=Bh;have HC:=hid (o9 π HG.out HX.out c1.1 ju qN qK.1);have F9:=hid qN;simp only[Option.isNone_some]at HC;clear hn ju qN;go_wp2_with fail;refine HC.mono ?_;rintro r w2⟨rfl,h2⟩;have H2:Hid (bE C g cap ns l w k8 [(kn,.cells (pz d) 176)] (WI.told π rec (WI.told π rec F es) [.aA c1.1 e]) [(k6,some e)] w2):=h2;clear h2 HC n8 Bh Qf HX n0;have hn:=H2.node kn d (List.mem_cons_self ..);have n0:=cell_of hn 0 (v:=.int .i64 9) (by rw[<-HD.2];rfl);have n1:=cell_of hn 1 (v:=.int .i64 (a:Nat)) (by rw[<-pV.out];rfl);obtain⟨sa,sn,sc,q0,q1,_,_,ju,_⟩:=H2.box k6 (some e) (by simp);have HC:=hid (Xl.go HG.out H2.out DO.out ju F9.out qK.2.1);have jq:Hid (eK yes/\eK no):=by have q:=KL π (r:=r) tQ.1 tQ.2.1 (Sp.aD c1) F9.out;rw[DO.out]at q;exact q
     have N7:Hid (eK u1/\eK u2):=by have q1:=Fp π C tQ.2.2.1 c3 jq.1;have q2:=Fp π C tQ.2.2.2 c4 jq.2;rw[HU.1]at q1;rw[HU.2.1]at q2;exact⟨q1,q2⟩
     simp only[Option.isNone_some]at HC q0;clear hn ju;go_wp2_with fail;refine HC.mono ?_;rintro r w3⟨a1,b1,d1,a2,b2,d2,rfl,h3,hy,NI⟩;have H4:=hid (h3.JZ HG.out hy jq.1 NI jq.2);clear h3 hy NI HC n1 q0 q1 H2 n0;go_upto_region 22 with fail;generalize (w3.alloc (.cells #[.bool yes.isNone,.slice a1 b1 d1] 121)).alloc (.cells #[.bool no.isNone,.slice a2 b2 d2] 121)=w4 at *
     generalize w3.heap.size=DN at *;have hn:=H4.node kn d (by simp);have n2:=cell_of hn 2 (v:=.int .i64 d.b) rfl;obtain⟨ya,yn,yc,Od,Qc,_,_,ju,_⟩:=H4.box DN yes (by simp);have HC:=hid (Bb.go HG.out H4.out HU.1 ju jq.1 qK.2.2.1);clear hn ju;go_wp2_with fail;refine HC.mono ?_;rintro r w5⟨a3,b3,d3,rfl,h5,QY⟩;clear Od Qc;obtain⟨ya,yn,yc,Od,Qc,Zk,tf1,_,_⟩:=h5.box DN yes (by simp);have H6:=hid (h5.sw.put HG.out QY N7.1);clear h5 QY H4 HC n2;go_upto_region 23 with fail;generalize (w5.setCell ⟨DN,0,none⟩ (.bool u1.isNone)).setCell ⟨DN,1,none⟩ (.slice a3 b3 d3)=w6 at *
     clear Od Qc Zk tf1;have hn:=H6.node kn d (by simp);have n3:=cell_of hn 3 (v:=.int .i64 d.c) rfl;obtain⟨ya,yn,yc,Od,Qc,_,_,ju,_⟩:=H6.box (DN+1) no (by simp);have HC:=hid (kD.go HG.out H6.out HU.2.1 ju jq.2 qK.2.2.2);clear hn ju;go_wp2_with fail;refine HC.mono ?_;rintro r w7⟨a4,b4,d4,rfl,h7,hu7⟩;clear Od Qc;obtain⟨ya,yn,yc,Od,Qc,Zk,tf1,_,_⟩:=h7.box (DN+1) no (by simp);have H8:=hid (h7.sw.put HG.out hu7 N7.2);clear h7 hu7 H6 HC n3;go_upto_region 24 with fail;generalize (w7.setCell ⟨DN+1,0,none⟩ (.bool u2.isNone)).setCell ⟨DN+1,1,none⟩ (.slice a4 b4 d4)=w8 at *
     clear Od Qc Zk tf1;obtain⟨xa,xn,xc,x0,x1,_,_,zm,_⟩:=H8.box DN u1 (by simp);obtain⟨ya,yn,yc,y0,y1,_,_,ZK,_⟩:=H8.box (DN+1) u2 (by simp);have HC:=hid (oY HG.out H8.out HU.2.2 zm N7.1 ZK N7.2);have F7:Hid (eK s'):=by have q:=oD N7.1 N7.2;rw[HU.2.2]at q;exact q
     clear zm ZK;go_wp2_with fail;refine HC.mono ?_;rintro r w9⟨a5,b5,d5,rfl,h9,hu9⟩;obtain⟨sa,sn,sc,q0,q1,mv,mu,_,_⟩:=h9.box k6 (some e) (by simp);have H10:=hid (h9.dr.dr.put HG.out hu9 F7.out);clear h9 hu9 H8 HC x0 x1 y0 y1;go_upto_region 27 with fail;generalize (w9.setCell ⟨k6,0,none⟩ (.bool s'.isNone)).setCell ⟨k6,1,none⟩ (.slice a5 b5 d5)=Z at *
     have hn:=H10.node kn d (by simp);have n5:=cell_of hn 5 (v:=.int .i64 d.next) rfl;have HN:Hid (_/\_):=pf (F:=F) (rec:=rec) mw.1 yo.1 yo.2 uh.1 uh.2 rfl (by simp only[tV];omega) HE.out jd.out (by rw[WI.aG,WI.aG,WI.aG];exact H10.Pd);clear hn;go_wp2_with fail;exact⟨⟨_,rfl,HN.1⟩,HN.2⟩
    | loop r x y xs rest =>
     obtain⟨j',a,d',c3,c4,ej,_,_,FQ,pG,rL,ha,_,hx,A8,cK⟩:=mw.1;obtain rfl:=By VY.1 ej FQ;have HD:Hid (d.aA=c1.1/\d.kind=_):=⟨pG,rL⟩;have S3:Hid (c3=Sp.cS y (Sp.cS x (Sp.aD c1))/\c4=Sp.cB xs c3):=⟨xH.cS hx,ji.cB A8⟩;have Xl:Hid (yL C π g cap ns a (dC π r x y (Sp.aD c1))):=sk π HG.out hx;have yo:Hid (ji ns lo hi rest d.next c4 c2/\ti rest):=⟨cK,by have q:=mw.2;exact fun n hn=>q n (by simp[ig,hn])⟩;have tQ:Hid (xh x/\xh y/\ti xs):=⟨by have q:=mw.2;exact fun n hn=>q n (by simp[ig,hn]),by have q:=mw.2;exact fun n hn=>q n (by simp[ig,hn]),by have q:=mw.2;exact fun n hn=>q n (by simp[ig,hn])⟩;have Bb:Hid (qR C π g cap ns l d.b (cF π C xs c3)):=HIH.out xs d.b c3 c4 (by have q:=uh.2;simp only[tV]at q;omega) A8 tQ.2.2;have pV:=hid ha;clear hx A8 cK ha;clear FQ pG rL ej;obtain⟨te,s',hw⟩:∃te s',rA π C (dC π r x y (Sp.aD c1)) (cF π C xs c3) c1.1 (some e)=(te,s'):=⟨_,_,rfl⟩;have eV:=KY π C r x y xs rest c1 e S3.1 S3.2 hw;have rr:=vp Hu.out HE.out eV;have qK:Hid (WI.df rec (WI.told π rec F es) te):=fun hb ev hv=>rr hb ev (List.mem_cons_of_mem _ hv)
     have jd:=hid eV;have R:=rgs π C (r:=r) tQ.1 tQ.2.1 tQ.2.2 (Sp.aD c1) c3;obtain⟨sa,sn,sc,q0,q1,_,_,ju,qN⟩:=HX.box k6 (some e) (by simp);have Z9:=JJ π C R c1.1 rec (WI.told π rec F es) (qN e rfl);rw[hw]at Z9;have HTL:=hid Z9;have hC:=jU π l ZD.out HG.out HPP.out d pV.out Xl.out Bb.out R (WI.told π rec F es) (some e) _ rec X HX.ra HX.uG HX.look qN ju (by rw[HD.1,hw];exact qK.out);have hWS:=Ee (K:=Kr π) (P:=hI C) R.wc R.wb R.nc R.nb c1.1 qN;have F7:Hid (eK s'):=by have q:eK (rA π C (dC π r x y (Sp.aD c1)) (cF π C xs c3) c1.1 (some e)).2:=hWS;rw[hw]at q;exact q
     rw[HD.1,hw]at hC;have HC:=hid hC;unfold pz at HC;simp only[Option.isNone_some]at HC q0;have hn:=HX.node kn d (List.mem_cons_self ..);have n0:=cell_of hn 0 (v:=.int .i64 10) (by rw[<-HD.2];rfl);rw[HD.2,HD.1]at HC;have n1:=cell_of hn 1 (v:=.int .i64 d.a) rfl;have n2:=cell_of hn 2 (v:=.int .i64 d.b) rfl;have n3:=cell_of hn 3 (v:=.int .i64 d.c) rfl;have n4:=cell_of hn 4 (v:=.int .i64 d.n) rfl;have n5:=cell_of hn 5 (v:=.int .i64 d.next) rfl;have n6:=cell_of hn 6 (v:=.string ⟨d.sign.toArray⟩) rfl;have n7:=cell_of hn 7 (v:=.int .i64 d.site) rfl;have n8:=cell_of hn 8 (v:=.int .i64 c1.1) (by rw[<-HD.1];rfl);have n9:=cell_of hn 9 (v:=.bool d.els) rfl;clear hn ju qN hC hWS Z9 hw rr eV R;go_wp2_with fail;refine HC.mono ?_;rintro r w5⟨v5,rfl,ra5,k5,Qo⟩;have Qo:dL w5 v5 s':=Qo;obtain⟨a1,b1,d1,rfl⟩:=Qo.form;have h5:=HX.step HG.out ra5 k5;clear q0 q1 n0 n1 n2 n3 n4 n5 n6 n7 n8 n9;obtain⟨sa,sn,sc,q0,q1,mv,mu,_,_⟩:=h5.box k6 (some e) (by simp);have H6:=hid (h5.put HG.out Qo F7.out);clear h5 Qo HX HC ra5 k5;go_upto_region 27 with fail;generalize (w5.setCell ⟨k6,0,none⟩ (.bool s'.isNone)).setCell ⟨k6,1,none⟩ (.slice a1 b1 d1)=Z at *
     have hn:=H6.node kn d (by simp);have n5:=cell_of hn 5 (v:=.int .i64 d.next) rfl;have HN:Hid (_/\_):=pf (F:=F) (rec:=rec) mw.1 yo.1 yo.2 uh.1 uh.2 rfl (by simp only[tV];omega) HE.out jd.out (by rw[HTL.out];exact H6.Pd);clear hn;go_wp2_with fail;exact⟨⟨_,rfl,HN.1⟩,HN.2⟩
theorem xd(π:bO)(l:List Int)(hπ:π=[-32768,32767] ++ l){C:Rc}(G:Gd C g)(hP:C.ao<=4/\C.narrow<=3/\C.aj<=3):∀(n:Nat) (t:Bl) (k:Int) (c1 c2:Ct),tV t<n->ji ns lo hi t k c1 c2->ti t->qR C π g cap ns l k (cF π C t c1)
 | 0,_,_,_,_,h,_,_=>absurd h (Nat.not_lt_zero _)
 | n+1,_,_,_,_,h,hb,ok=>I9 π l hπ G hP hb ok fun t k c1 c2 h' DS S6=>xd π l hπ G hP n t k c1 c2 (by omega) DS S6
end
end RI
end
section
namespace RI
section
variable{w1 W w w':Wd}
variable{es:lV}
variable{u:dB}
theorem RV(π:bO)(L:List Int)(hπ:π=[-32768,32767] ++ L){C:Rc}(hP:C.ao<=4/\C.narrow<=3/\C.aj<=3){ns:List aJ}{t:Bl}{first:Int}{ct:Ct}(qL:ji ns 0 ns.length t first (0,0) ct)(ok:ti t)(hb:C.base=w1.heap.size)(Rj:C.pb<w1.heap.size)(Hf:(∃g cap,dq C.pb g cap ns w1/\g<w1.heap.size)∨t=.nil){F:jB}(DM:Below w1.heap.size w1 W)(hR:bx C F W)(hS:gH C L W){e:dt}{ge:Nat}(he:∀k,Wv (e k))(hg:Bk W ge (gF e) 191)(hu:cF π C t (0,0) (some e)=(es,u))(hr:WI.df true F es) :
  Calls prog 76 #[.pointer (some ⟨C.b,0,none⟩),.int .i64 first,.agg #[.bool false,.slice (some ⟨ge,0,none⟩) 8 8],.bool true] W fun r w'=>∃a n c,r=.returned (.agg #[.bool u.isNone,.slice a n c])/\bx C (WI.told π true F es) w'/\RK C W w'/\dL w' (.agg #[.bool u.isNone,.slice a n c]) u:=by
 rcases Hf with⟨g,cap,hl,NR⟩ | rfl
 ·have hC:=xd π L hπ (g:=g) (cap:=cap) ⟨by rw[hb];exact Rj,by rw[hb];exact NR⟩ hP (tV t+1) t first (0,0) ct (Nat.lt_succ_self _) qL ok F (some e) (.agg #[.bool false,.slice (some ⟨ge,0,none⟩) 8 8]) true W hR hS (BR ⟨by rw[hb];exact Rj,by rw[hb];exact NR⟩ hl (by rw[hb];exact DM)) (fun e' h=>by cases h;exact he) ⟨ge,rfl,hg⟩ (by rw[hu];exact hr)
  rw[hu]at hC;refine hC.mono ?_;rintro r w'⟨v,rfl,h1,h2,h3⟩;have xx:dL w' v u:=h3;obtain⟨a,n,c,rfl⟩:=xx.form;exact⟨a,n,c,rfl,h1,h2,xx⟩
 ·obtain⟨rfl,_⟩:=qL
  have A6:(([]:lV),(some e:dB))=(es,u):=hu;injection A6 with e1 e2
  subst e1 e2;refine(MI C.b false (some ⟨ge,0,none⟩) 8 8 true W).mono ?_;rintro r w'⟨rfl,b⟩;exact⟨_,_,_,rfl,by rw[WI.ep];exact hR.call b,RK.aB b hR.le,⟨ge,rfl,(b.block _ (ah hg)).trans hg⟩⟩
theorem GG:Wv zT:=⟨by decide,by decide,by decide⟩
theorem SG{op:Oper}{a:Act}{K:Act->Wd->Prop}{Q:Exit->Act->Wd->Prop}(x y:Operand)(t:TypeId)(ho:op.op=.call { callee:=.builtin .append,args:=#[x,y],argTypes:=#[t,t] }){v u v':Value}(hx:a.eval x=v)(hy:a.eval y=u)(hr:(Builtin.append_ #[t,t] op.type #[v,u]).run prog w=.ok v' w')(h:K (a.put op.dst v') w'):op.wp prog a w K Q:=by unfold Oper.wp execOp;simp only[ho,resolve,invoke,builtin,Sem.run_bind,Sem.run_pure,Result.andThen_ok,List.map_toArray,List.map_cons,List.map_nil,hx,hy,hr];exact h
theorem Oo(π:bO)(C:Rc){t:Bl}(hs:Sp.Small (0,0) (Sp.pB t) (Sp.qB t))(e:dt)(hu:cF π C t (0,0) (some e)=(es,u)):WI.df true (List.replicate (Sp.pB t+1) none,List.replicate (Sp.qB t) 0) es/\WI.df true (WI.told π true (List.replicate (Sp.pB t+1) none,List.replicate (Sp.qB t) 0) es) (sV ((Sp.pB t:Nat):Int) u):=by
 refine⟨fun _ ev hv=>?_,fun _ ev hv=>?_⟩
 ·have q:=jh (D:=Dm π) (hI C) t (0,0) hs (some e) ev (by have A6:(Sp.cF (Dm π) (hI C) t (0,0) (some e)).1=es:=congrArg Prod.fst hu;rw[A6];exact hv)
  cases ev with
  | aA p s =>obtain⟨q1,q2⟩:=q;refine⟨q1,?_⟩;simp only[List.length_replicate];simp only at q1 q2;omega
  | site p s =>obtain⟨q1,q2⟩:=q;refine⟨q1,?_⟩;simp only[List.length_replicate];simp only at q1 q2;omega
 ·obtain⟨l1,_⟩:=WI.jc π true (List.replicate (Sp.pB t+1) none,List.replicate (Sp.qB t) 0) es
  cases u with
  | none=>cases hv
  | some s =>obtain rfl:=List.mem_singleton.1 hv;refine⟨Int.natCast_nonneg _,?_⟩;rw[l1];simp
theorem Se(π:bO)(C:Rc){t:Bl}(hs:Sp.Small (0,0) (Sp.pB t) (Sp.qB t))(hu:cF π C t (0,0) (some fun _=>zT)=(es,u)):WI.told π true (WI.told π true (List.replicate (Sp.pB t+1) none,List.replicate (Sp.qB t) 0) es) (sV ((Sp.pB t:Nat):Int) u)=da (Dm π) (hI C) t:=by
 rw[<-WI.aG];have e1:Sp.cB t (0,0)=((Sp.pB t:Int),(Sp.qB t:Int)):=by rw[fY t (0,0) hs];simp
 have A6:Sp.cF (Dm π) (hI C) t (0,0) (some fun _=>(Dm π).num 0)=(es,u):=hu;unfold da;simp only;rw[A6,e1,AJ π];simp only;rw[show((Sp.pB t:Int)+1).toNat=Sp.pB t+1 by omega,Int.toNat_natCast];rfl
end
end RI
end
end Go.Proofs.YtiopfihjmkfdmaaGreatDoor
