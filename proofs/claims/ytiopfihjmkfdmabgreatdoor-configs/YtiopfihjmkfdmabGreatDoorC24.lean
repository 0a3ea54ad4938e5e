import Derived.Test.YtiopfihjmkfdmabGreatDoorC23
namespace Go.Proofs.YtiopfihjmkfdmabGreatDoor
open Go.Value renaming int->I,slice->Z,bool->U,string->χ,agg->J,pointer->ρ,tuple->φ
open Go.IntKind renaming i64->O
open Option renaming none->M,some->Y
open Go.Obj renaming cells->L
open Go.Ending renaming returned->υ
open Go.Proofs.Tryz Sp
set_option maxRecDepth 100000
set_option maxHeartbeats 16000000
section
namespace RG
open Go.RowKit W
variable {E: Bool}
section
variable{F:jg}
variable{g cap k7 k8 k9 Jh kV r ge:Nat}
variable{ns:List aK}
variable{w W W':Wd}
variable{a0 a1:Value}
variable{d:aK}
variable{x y side:Sm}
variable{e:di}
structure rW(C:Rc E)(F:jg)(g cap:Nat)(ns:List aK)(w:Wd)(k7 k8 k9 Jh kV:Nat)(a0 a1:Value)(d:aK)(x y:T)(W:Wd):Prop where
 ra:bE C F W
 look:dC C.pb g cap ns W
 s:W.heap[k7]?=Y (L #[a0,a1] 56)
 nd:W.heap[k8]?=Y (L (oV d) 200)
 x:W.heap[k9]?=Y (L #[I O (pA x),I O (pB x)] 117)
 y:W.heap[Jh]?=Y (L #[I O (pA y),I O (pB y)] 117)
 r:W.heap[kV]?=Y (L #[U false,Z M 0 0] 56)
 b:ω w W
 l7:w.heap.size<=k7
 l12:w.heap.size<=kV
 n7:kV≠k7
 old:C.gf<w.heap.size/\C.gs<w.heap.size
theorem rW.call{C:Rc E}{x y:T}(h:rW C F g cap ns w k7 k8 k9 Jh kV a0 a1 d x y W)(k:ω W W'):rW C F g cap ns w k7 k8 k9 Jh kV a0 a1 d x y W':=
 ⟨h.ra.call k,h.look.after k,(k.block _ (ah h.s)).trans h.s,(k.block _ (ah h.nd)).trans h.nd,(k.block _ (ah h.x)).trans h.x,(k.block _ (ah h.y)).trans h.y,(k.block _ (ah h.r)).trans h.r,h.b.trans (k.mono h.b.size),h.l7,h.l12,h.n7,h.old⟩
theorem rW.put{C:Rc E}{x y:T}(π:Gd C g)(h:rW C F g cap ns w k7 k8 k9 Jh kV a0 a1 d x y W)(b0 b1:Value):rW C F g cap ns w k7 k8 k9 Jh kV b0 b1 d x y ((W.setCell ⟨k7,0,M⟩ b0).setCell ⟨k7,1,M⟩ b1):=by
 obtain⟨o1,o2⟩:=h.old;have l7:=h.l7;have hle:C.base<=w.heap.size:=Nat.le_trans h.ra.lf À;have iO:∀j,j≠k7->((W.setCell ⟨k7,0,M⟩ b0).setCell ⟨k7,1,M⟩ b1).heap[j]?=W.heap[j]?:=λj hj=>by rw[Æ _ _ _ _ hj,Æ _ _ _ _ hj]
 have hB:=h.b.setCell (p:=⟨k7,0,M⟩) l7 b0|>.setCell (p:=⟨k7,1,M⟩) l7 b1
 refine⟨h.ra.own (k:=k7) (λq=>by have:=h.ra.aV;rw[<-q,h.s]at this;cases this) À À (λe q=>by rw[h.s]at q;cases q) iO,FI π h.look (((Å).setCell (p:=⟨k7,0,M⟩) (Nat.le_trans hle l7) _).setCell (p:=⟨k7,1,M⟩) (Nat.le_trans hle l7) _),by rw[ai (ai h.s 0 b0) 1 b1];rfl,(iO _ (λq=>?_)).trans h.nd,(iO _ (λq=>?_)).trans h.x,(iO _ (λq=>?_)).trans h.y,(iO _ h.n7).trans h.r,hB,l7,h.l12,h.n7,h.old⟩
 .have:=h.nd;rw[q,h.s]at this;cases this
 .have:=h.x;rw[q,h.s]at this;cases this
 .have:=h.y;rw[q,h.s]at this;cases this
def bW(w:Wd)(a0 a1:Value)(d:aK)(x y:T):Wd:=((((w.alloc (L #[a0,a1] 56)).alloc (L #[I O d.kind,I O d.a,I O d.b,I O d.c,I O d.n,I O d.next,χ ⟨d.sign.toArray⟩,I O d.site,I O d.aA,U d.els] 200)).alloc (L #[I O (pA x),I O (pB x)] 117)).alloc (L #[I O (pA y),I O (pB y)] 117)).alloc (L #[U false,Z M 0 0] 56)
theorem NR{C:Rc E}(a0 a1:Value)(d:aK)(x y:T)(hR:bE C F w)(hL:dC C.pb g cap ns w):rW C F g cap ns w w.heap.size (w.heap.size+1) (w.heap.size+1+1) (w.heap.size+1+1+1) (w.heap.size+1+1+1+1) a0 a1 d x y (bW w a0 a1 d x y):=by obtain⟨b',h5⟩:=fN (Û (bW w a0 a1 d x y).heap.size (bW w a0 a1 d x y));obtain⟨h1,h2,h3,h4,kb⟩:=cN b';obtain⟨c1,q1,_⟩:=hR.gf;obtain⟨c2,q2,_⟩:=hR.gs;exact⟨hR.call kb,hL.after kb,h1,h2,h3,h4,by simpa using h5,kb,È,À,À,⟨ah q1,ah q2⟩⟩
def Ac(G:aw E)(r:Nat)(x y:Sm)(a b:T)(e:di):dT:=gk (Dm G) r x y a b e
theorem VJ(G:aw E){a b:T}(h:nV E r a b=false):Ac G r x y a b e=M:=wA (Dm G) r x y a b e h
theorem R8(G:aw E){a b:T}(h:nV E r a b=true):Ac G r x y a b e=uQ G y (eh r) a (uQ G x r b (Y e)):=Á h
theorem VC(G:aw E){side:Sm}{r:Nat}{y:T}{s:dT}(wy:Wv E y)(h:eR E s):eR E (uQ G side r y s):=xN (K:=Kr G) (side:=side) (r:=r) (s:=s) h wy
theorem Jk(h:r<6):eh r<6/\(eh r=3->r=3):=by rcases(show r=0∨r=1∨r=2∨r=3∨r=4∨r=5 from À) with rfl|rfl|rfl|rfl|rfl|rfl<;>simp[eh]
theorem NJ(G:aw E)(hr:r<6){a b:T}(hx:∀n (hm:n<8),x=.name n->e ⟨n,hm⟩=a)(hy:∀n (hm:n<8),y=.name n->e ⟨n,hm⟩=b)(hδ:E=true)(vi:nV E r a b=true)(n:Nat)(hm:n<8)(e':di)(hn:y=.name n)(hs:uQ G x r b (Y e)=Y e'):e' ⟨n,hm⟩=b∨eh r≠3∨a.a≠a.b:=by
 have XK:=hy n hm hn;have same:e'=e->e' ⟨n,hm⟩=b:=λq=>by rw[q];exact XK
 cases x with
 |num m=>exact .inl (same (by have q:Y e=Y e':=hs;cases q;rfl))
 |neg m=>exact .inl (same (by have q:Y e=Y e':=hs;cases q;rfl))
 |bin o u v=>exact .inl (same (by have q:Y e=Y e':=hs;cases q;rfl))
 |name m=>
  by_cases hmn:m=n
  .subst hmn
   have hab:a=b:=(hx m hm rfl).symm.trans XK;by_cases h3:eh r=3
   .have r3:=(Jk hr).2 h3
    refine .inr (.inr λq=>?_);subst r3;subst hab;subst hδ;replace vi:dO 3 a a=true:=vi;simp[dO,q]at vi
   .exact .inr (.inl h3)
  .refine .inl ?_
   cases hq:(Dm G).bound r (pV (Dm G) e m) b with
   |none=>have:=y5 (Dm G) m r b e hq;rw[show uQ G (.name m) r b (Y e)=M from this]at hs;cases hs
   |some v=>
    have:=sT (Dm G) m r b e v hq;rw[show uQ G (.name m) r b (Y e)=Y (qM e m v) from this]at hs;cases hs
    exact(Â (α:=T) (c:=n=m) (t:=v) (e:=e ⟨n,hm⟩) (λq=>hmn q.symm)).trans XK
theorem VG{a b:T}(wa:Wv false a)(wb:Wv false b):nV false r a b=(!(pA a==0&&pA b==0&&!Sp.holds r (pB a) (pB b))&&!(decide (r=2)&&!(ly false a b).isSome)):=by
 have e:∀{x:T},Wv false x->decide ((mz x).m=0)=(pA x==0):=λ{x} h=>by
  have h0:0<=x.a:=h.1;by_cases q:x.a=0
  .rw[decide_eq_true (show(mz x).m=0 by show x.a.toNat=0;omega),beq_iff_eq.2 (show pA x=0 from q)]
  .rw[decide_eq_false (show ¬(mz x).m=0 by show ¬x.a.toNat=0;omega),beq_eq_false_iff_ne.2 (show pA x≠0 from q)]
 show sS r (mz a) (mz b)=_;unfold sS ly;rw[e wa,e wb];simp only[cond_false];cases bu (mz a) (mz b)<;>rfl
theorem km(G:aw E){C:Rc E}{lo i j:Nat}{ct1 ct2 nL vk:Ct}(π:Gd C g)(ha:d.a=(i:Int))(hb:d.b=(j:Int))(fx:rF ns lo x i ct1 ct2)(fy:rF ns lo y j nL vk)(he:∀k,Wv E (e k)){a b:T}(wa:Wv E a)(wb:Wv E b)(hx:∀n (hm:n<8),x=.name n->e ⟨n,hm⟩=a)(hy:∀n (hm:n<8),y=.name n->e ⟨n,hm⟩=b)(r:Nat)(hr:r<6)(hR:bE C F w)(hL:dC C.pb g cap ns w)(nN:Bk w ge (gi e) 117) :
  Calls prog 97 #[ρ (Y ⟨C.b,0,M⟩),J #[U false,Z (Y ⟨ge,0,M⟩) 8 8],J (oV d),J #[I O (pA a),I O (pB a)],J #[I O (pA b),I O (pB b)],χ ⟨(aM r).toArray⟩] w λq w'=>∃v,q=υ v/\dL w' v (Ac G r x y a b e)/\ω w w':=by
 have HW:=NR (U false) (Z (Y ⟨ge,0,M⟩) 8 8) d a b hR hL;obtain⟨W,hW⟩:∃W,bW w (U false) (Z (Y ⟨ge,0,M⟩) 8 8) d a b=W:=⟨_,rfl⟩;rw[hW]at HW;unfold bW at hW;have MU:Hid (W.heap[ge]?=Y (L (gi e) 117)):=(HW.b.block _ (ah nN)).trans nN;have H:=hid HW;have Zf:Hid (E=true->∀w:Wd,Calls _ _ _ _ _):=λh w=>hR.ch.apart h r hr wa wb w
 have XZ:Hid (∀w:Wd,Calls _ _ _ _ _):=λw=>Cv r hr (pB a) (pB b) w
 have Us:Hid (∀w:Wd,Calls _ _ _ _ _):=λw=>hR.ch.meet wa (.inr wb) w
 have HMC:Hid (E=false->nV E r a b=(!(pA a==0&&pA b==0&&!Sp.holds r (pB a) (pB b))&&!(decide (r=2)&&!(ly E a b).isSome))):=λh=>by subst h;exact VG wa wb
 have I6:Hid ((aM r==[61,61])=decide (r=2)):=by rcases(show r=0∨r=1∨r=2∨r=3∨r=4∨r=5 from À) with rfl|rfl|rfl|rfl|rfl|rfl<;>rfl
 have HL1:Hid (∀(W:Wd),bE C F W->dC C.pb g cap ns W->W.heap[ge]?=Y (L (gi e) 117)->Calls _ _ _ _ _):=λW h1 h2 h3=>td G fx wa wb r hr (s:=Y e) (sv:=J #[U false,Z (Y ⟨ge,0,M⟩) 8 8]) h1 h2 ⟨ge,rfl,h3⟩ (λe' q k=>by cases q;exact he k) (λ_ n hm e' h q=>by cases q;exact .inl (hx n hm h))
 have Tx:Hid (nV E r a b=true->∀(W:Wd) (sv:Value),bE C F W->dC C.pb g cap ns W->dL W sv (uQ G x r b (Y e))->Calls _ _ _ _ _):=λvi W sv h1 h2 h3=>td G fy wb wa (eh r) (Jk hr).1 h1 h2 h3 (VC G wb (λe' q k=>by cases q;exact he k)) (λhδ n hm e' h q=>NJ G hr hx hy hδ vi n hm e' h q)
 have HTU:Hid (∀w:Wd,Calls _ _ _ _ _):=λw=>Cq r hr w
 have HAB:Hid (d.a=(i:Int)/\d.b=(j:Int)):=⟨ha,hb⟩;have HG:=hid π;have WK:oV d=#[I O d.kind,I O d.a,I O d.b,I O d.c,I O d.n,I O d.next,χ ⟨d.sign.toArray⟩,I O d.site,I O d.aA,U d.els]:=rfl;rw[WK];clear hR hL nN HW ha hb hx hy he wa wb fx fy π WK hr;obtain⟨sg,pz⟩:∃sg,sg=aM r:=⟨_,rfl⟩;obtain⟨sb,hsb⟩:∃sb,sb=aM (eh r):=⟨_,rfl⟩;rw[<-pz];rw[<-pz]at Zf HL1 XZ I6;rw[<-hsb]at Tx;rw[<-pz,<-hsb]at HTU;clear pz hsb;go_enter func97,ntmps97;go_upto_region 1 with fail;try rw[hW]
 obtain⟨k7,e7⟩:∃k,k=w.heap.size:=⟨_,rfl⟩;obtain⟨k8,e8⟩:∃k,k=w.heap.size+1:=⟨_,rfl⟩;obtain⟨k9,e9⟩:∃k,k=w.heap.size+1+1:=⟨_,rfl⟩;obtain⟨Jh,e10⟩:∃k,k=w.heap.size+1+1+1:=⟨_,rfl⟩;obtain⟨kV,e12⟩:∃k,k=w.heap.size+1+1+1+1:=⟨_,rfl⟩;rw[<-e12,<-e10,<-e9,<-e8,<-e7];rw[<-e12,<-e10,<-e9,<-e8,<-e7]at H;clear hW e7 e8 e9 e10 e12;have m1:=H.ra.cells.1;have x0:=cell_of H.x 0 (v:=I O (pA a)) rfl;have x1:=cell_of H.x 1 (v:=I O (pB a)) rfl;have y0:=cell_of H.y 0 (v:=I O (pA b)) rfl;have y1:=cell_of H.y 1 (v:=I O (pB b)) rfl;go_upto_if 23 with fail
 go_cut [] from 13 to 66 (λwc=>Hid (nV E r a b=true/\rW C F g cap ns w k7 k8 k9 Jh kV (U false) (Z (Y ⟨ge,0,M⟩) 8 8) d a b wc/\wc.heap[ge]?=Y (L (gi e) 117)))
 case first=>
  clear HL1 Tx HTU;have EB:Hid (nV E r a b=false->Ac G r x y a b e=M):=λh=>VJ G h
  rcases JV E with⟨hδ,q1,_⟩|⟨hδ,q1,_⟩
  case' inl=>
   rw[q1];clear m1 XZ Us HMC I6 q1;have HA:=Zf.out hδ;obtain⟨may,vi⟩:∃m,nV E r a b=m:=⟨_,rfl⟩;rw[vi]at HA;have HM:=hid vi;clear vi Zf;go_wp2_with fail;refine(HA _).mono ?_;rintro q w2⟨rfl,b2⟩;have H2:Hid (rW _ _ _ _ _ _ _ _ _ _ _ _ _ _ _ _ w2):=H.call b2;have Jg:Hid (w2.heap[ge]?=_):=(b2.block _ (ah MU.out)).trans MU.out;clear H x0 x1 y0 y1 b2 MU HA;cases may
   case true=>
    go_wp2_with fail;go_meet;exact⟨HM.out,H2.out,Jg.out⟩
   have Ws:Hid (Ac G r x y a b e=M):=EB.out HM.out;clear Jg EB
  case' inr=>
   rw[q1];obtain⟨ho,hho⟩:∃h,Sp.holds r (pB a) (pB b)=h:=⟨_,rfl⟩;obtain⟨ok,rH⟩:∃ok,(ly E a b).isSome=ok:=⟨_,rfl⟩;obtain⟨u,hu⟩:∃u,TH E a b=u:=⟨_,rfl⟩;have HM:=HMC.out hδ;rw[hho,rH]at HM;rw[hho]at XZ;rw[rH,hu]at Us;have HM:=hid HM;have HG:=hid MU.out;clear Zf HMC q1 hho rH hu hδ MU;go_wp2_with fail;refine(XZ.out _).mono ?_;rintro q w2⟨rfl,rfl⟩;clear XZ;go_upto_region 6 with fail
   go_cut [47] from 36 to 46 (λv47 wc=>v47=U (pA a==0&&pA b==0&&!ho)/\wc=w2)
   case first=>
    clear H HG EB HM Us I6;cases d1:pA a==0<;>cases d2:pA b==0<;>cases ho<;>(go_wp2_with fail;go_meet;exact⟨by rw[d1,d2];rfl,rfl⟩)
   case' rest=>
    obtain⟨rfl,rfl⟩:=hcut;generalize (pA a==0&&pA b==0&&!ho)=zz at*;clear x0 x1 y0 y1 m1;cases zz
    case' true=>
     have Ws:Hid (Ac G r x y a b e=M):=EB.out (by rw[HM.out];rfl);have H2:Hid (rW _ _ _ _ _ _ _ _ _ _ _ _ _ _ _ _ wc):=H.out;clear Us HM HG I6 H EB
    case' false=>
     have h2:=H.out;clear H;go_upto_region 8 with fail;refine wp_region_held_drew (S:=λw':Wd=>rW C F g cap ns w k7 k8 k9 Jh kV (U false) (Z (Y ⟨ge,0,M⟩) 8 8) d a b w'/\w'.heap[ge]?=Y (L (gi e) 117)) Ã ⟨h2.call (Å).drew,HG.out⟩ (λaa=>?_);clear h2 HG;have hC:∀W W':Wd,(rW C F g cap ns w k7 k8 k9 Jh kV (U false) (Z (Y ⟨ge,0,M⟩) 8 8) d a b W/\W.heap[ge]?=Y (L (gi e) 117))->ω W W'->rW C F g cap ns w k7 k8 k9 Jh kV (U false) (Z (Y ⟨ge,0,M⟩) 8 8) d a b W'/\W'.heap[ge]?=Y (L (gi e) 117):=λW W' h k=>⟨h.1.call k,(k.block _ (ah h.2)).trans h.2⟩
     have HC:Hid (∀W W':Wd,_):=hC;clear hC;generalize wc.drew=V at*;refine tq 0 (ρ (Y ⟨C.b,0,M⟩)) aa ?_;refine tq 1 (ρ (Y ⟨C.b,0,M⟩)) aa ?_;refine tq 2 (ρ (Y ⟨C.b,1,M⟩)) aa ?_;refine tq 3 (ρ (Y ⟨C.b,1,M⟩)) aa ?_;refine tk 4 (I O (dn E)) rfl (λw' h=>by have q:=h.1.ra.cells.1;go_simp) aa ?_;refine tk 5 (J #[I O (pA a),I O (pB a)]) rfl (λw' h=>by have q:=cell_of h.1.x 0 (v:=I O (pA a)) rfl;have q2:=cell_of h.1.x 1 (v:=I O (pB a)) rfl;go_simp) aa ?_;refine tk 6 (J #[I O (pA b),I O (pB b)]) rfl (λw' h=>by have q:=cell_of h.1.y 0 (v:=I O (pA b)) rfl;have q2:=cell_of h.1.y 1 (v:=I O (pB b)) rfl;go_simp) aa ?_;refine zZ 7 11 (λK hK=>?c1) (λK hK=>?c2)
     case' c1=>
      simp only[bG,gd];go_simp;refine(Us.out _).mono ?_;rintro q w8⟨rfl,b8⟩;have h8:=HC.out _ _ aa b8;have h9:∀o,_:=λo=>HC.out _ _ aa (b8.alloc b8.size o)
      clear b8;go_wp2_with fail;refine hK.out _ _ h8 (λ_=>?_);clear hK K;refine tk 8 (φ #[J #[I O (pA u),I O (pB u)],U ok]) rfl (λw' h=>by go_simp) h8 ?_;refine tk 9 (J #[I O (pA u),I O (pB u)]) rfl (λw' h=>by go_simp) h8 ?_;refine tk 10 (U ok) rfl (λw' h=>by go_simp) h8 ?_;refine bP 11 λK hK=>?_
      simp only[bG,gd];go_simp;refine hK.out _ _ (h9 _) (λ_=>?_);clear hK K;refine bP 12 λK hK=>?_
      simp only[bG];go_simp;refine hK.out _ _ (h9 _) (λ_=>?_);clear hK K;refine bP 13 λK hK=>?_
      simp only[bG];go_simp;refine hK.out _ _ (h9 _) (λ_=>?_);clear hK K;refine wpAnyH_done Ã ?_ _;replace h9:=h9 (L #[I O (pA u),I O (pB u)] 117);generalize w8.alloc (L #[I O (pA u),I O (pB u)] 117)=X8 at*;generalize w8.heap.size=kv at*
     case' c2=>
      simp only[bG,gd];go_simp;obtain⟨h8,hL⟩:=Nw aa HC.out (I O 0) (I O 0) 117;have HL:=hid hL;clear hL;generalize V.alloc (L #[I O 0,I O 0] 117)=V1 at*;generalize V.heap.size=kv at*;refine hK.out _ _ h8 (λ_=>?_);clear hK K;refine bP 7 λK hK=>?_
      simp only[bG];go_simp;refine(Us.out _).mono ?_;rintro q w8⟨rfl,b8⟩;obtain⟨QU,AG,hf⟩:=HL.out w8 b8;obtain⟨h9,hv⟩:=hf (I O (pA u)) (I O (pB u));obtain⟨q0,q1,oR,oP,_⟩:=aI AG;clear b8 hf AG;go_wp2_with fail;refine hK.out _ _ QU (λ_=>?_);clear hK K;refine tk 8 (φ #[J #[I O (pA u),I O (pB u)],U ok]) rfl (λw' h=>by go_simp) QU ?_;refine tk 9 (J #[I O (pA u),I O (pB u)]) rfl (λw' h=>by go_simp) QU ?_;refine tk 10 (U ok) rfl (λw' h=>by go_simp) QU ?_;refine bP 12 λK hK=>?_
      simp only[bG,gd];go_simp;refine hK.out _ _ h9 (λ_=>?_);clear hK K;refine bP 13 λK hK=>?_
      simp only[bG];go_simp;refine hK.out _ _ h9 (λ_=>?_);clear hK K;refine wpAnyH_done Ã ?_ _;generalize (w8.setCell ⟨kv,0,M⟩ (I O (pA u))).setCell ⟨kv,1,M⟩ (I O (pB u))=X8 at*
     all_goals
      clear aa h8 Us HC;have H2:Hid (rW _ _ _ _ _ _ _ _ _ _ _ _ _ _ _ _ X8):=h9.1;have Jg:=hid h9.2;clear h9;have aam:=I6.out;by_cases pD:r=2
      case' neg=>
       rw[decide_eq_false pD]at aam;have HMY:Hid (nV E r a b=true):=by unfold Hid;rw[HM.out,decide_eq_false pD];rfl
      case' pos=>
       rw[decide_eq_true pD]at aam;cases ok
       case' true=>have HMY:Hid (nV E r a b=true):=by unfold Hid;rw[HM.out];simp
       case' false=>have Ws:Hid (Ac G r x y a b e=M):=EB.out (by rw[HM.out,decide_eq_true pD];rfl)
      all_goals
       clear HM I6 EB;try
        go_wp2_with fail;go_meet;exact⟨HMY.out,H2.out,Jg.out⟩
  all_goals
   go_wp2_with fail;refine(fO _).mono ?_;rintro q wf⟨rfl,bv⟩;have gW:=H2.call bv;obtain⟨z0,z1,xe,xo,mq⟩:=aI gW.r;have MQ:=hid (mq (U true) (Z M 0 0));have HT:Hid (ω w _):=(gW.b.setCell (p:=⟨kV,0,M⟩) gW.l12 (U true)).setCell (p:=⟨kV,1,M⟩) gW.l12 (Z M 0 0);clear mq gW bv H2;go_wp2_with fail;exact Ç (v:=J #[U true,Z M 0 0]) (by simp[results,results97,go_sem,MQ.1,MQ.2]) rfl ⟨_,rfl,by rw[Ws.out];rfl,HT.out⟩
 case rest=>
  obtain⟨vi,h2,AH⟩:=hcut.out;have Jg:=hid AH;replace Tx:=Tx.out vi;have EB:Hid (Ac G r x y a b e=uQ G y (eh r) a (uQ G x r b (Y e))):=R8 G vi;clear hcut vi AH m1 x0 x1 y0 y1 H MU Zf XZ Us HMC I6;generalize wc=w2 at*;have s0:=cell_of h2.s 0 (v:=U false) rfl;have s1:=cell_of h2.s 1 (v:=Z (Y ⟨ge,0,M⟩) 8 8) rfl;have x0:=cell_of h2.x 0 (v:=I O (pA a)) rfl;have x1:=cell_of h2.x 1 (v:=I O (pB a)) rfl;have y0:=cell_of h2.y 0 (v:=I O (pA b)) rfl;have y1:=cell_of h2.y 1 (v:=I O (pB b)) rfl;have n1:=cell_of h2.nd 1 (v:=I O (i:Int)) (by rw[<-HAB.1];rfl);have H2:Hid (rW _ _ _ _ _ _ _ _ _ _ _ _ _ _ _ _ w2):=h2;clear h2;go_wp2_with fail;refine(HL1.out w2 H2.ra H2.look Jg.out).mono ?_;rintro q w4⟨v4,rfl,hv4,b4⟩;obtain⟨a',n',c',rfl⟩:=hv4.form;have h4:=H2.call b4;have h5:=h4.put HG.out (U (uQ G x r b (Y e)).isNone) (Z a' n' c');have Uz:=hv4.put h4.s (U (uQ G x r b (Y e)).isNone) (Z a' n' c');obtain⟨q0,q1,oR,oP,_⟩:=aI h4.s;have H5:=hid (And.intro h5 Uz);clear s0 s1 x0 x1 y0 y1 n1 H2 hv4 h4 b4 h5 Uz HL1 Jg;generalize (uQ G x r b (Y e)).isNone=nn at*;go_upto_region 12 with fail;generalize (w4.setCell ⟨k7,0,M⟩ (U nn)).setCell ⟨k7,1,M⟩ (Z a' n' c')=W5 at*;clear q0 q1 oR oP;go_wp2_with fail;refine(HTU.out _).mono ?_;rintro q w6⟨rfl,rfl⟩;have h5:=H5.1;have s0:=cell_of h5.s 0 (v:=U nn) rfl;have s1:=cell_of h5.s 1 (v:=Z a' n' c') rfl;have x0:=cell_of h5.x 0 (v:=I O (pA a)) rfl;have x1:=cell_of h5.x 1 (v:=I O (pB a)) rfl;have y0:=cell_of h5.y 0 (v:=I O (pA b)) rfl;have y1:=cell_of h5.y 1 (v:=I O (pB b)) rfl;have n2:=cell_of h5.nd 2 (v:=I O (j:Int)) (by rw[<-HAB.2];rfl);clear h5;go_wp2_with fail;refine(Tx _ _ H5.1.ra H5.1.look H5.2).mono ?_;rintro q w7⟨v7,rfl,hv7,b7⟩;obtain⟨a7,n7,c7,rfl⟩:=hv7.form;have gW:=H5.1.call b7;obtain⟨z0,z1,xe,xo,mq⟩:=aI gW.r;have MQ:=hid (mq (U (uQ G y (eh r) a (uQ G x r b (Y e))).isNone) (Z a7 n7 c7));have HT:=hid (And.intro (hv7.put gW.r (U (uQ G y (eh r) a (uQ G x r b (Y e))).isNone) (Z a7 n7 c7)) ((gW.b.setCell (p:=⟨kV,0,M⟩) gW.l12 (U (uQ G y (eh r) a (uQ G x r b (Y e))).isNone)).setCell (p:=⟨kV,1,M⟩) gW.l12 (Z a7 n7 c7)));clear mq gW hv7 b7 H5 Tx s0 s1 x0 x1 y0 y1 n2;rw[<-EB.out]at MQ HT⊢;generalize (Ac G r x y a b e).isNone=nb at*;go_wp2_with fail;exact Ç (v:=J #[U nb,Z a7 n7 c7]) (by simp[results,results97,go_sem,MQ.1,MQ.2]) rfl ⟨_,rfl,HT.1,HT.2⟩
end
end RG
end
section
namespace RG
open Go.RowKit W
variable {E: Bool}
section
variable{g cap k6 k8 k9 b k:Nat}
variable{ns:List aK}
variable{w W W':Wd}
variable{a0 a1 a:Value}
variable{F F':jg}
structure u7(C:Rc E)(g cap:Nat)(ns:List aK)(w:Wd)(k6 k8 k9:Nat)(a0 a1:Value)(F:jg)(W:Wd):Prop where
 ra:bE C F W
 look:dC C.pb g cap ns W
 box:W.heap[k6]?=Y (L #[a0,a1] 56)
 r8:W.heap[k8]?=Y (L #[U false,Z M 0 0] 56)
 r9:W.heap[k9]?=Y (L #[U false,Z M 0 0] 56)
 bH:RK C w W
 old:C.gf<w.heap.size/\C.gs<w.heap.size
 l6:w.heap.size<=k6
 l8:w.heap.size<=k8
 l9:w.heap.size<=k9
 n89:k8≠k9
 n68:k6≠k8
 n69:k6≠k9
theorem u7.step{C:Rc E}(π:Gd C g)(h:u7 C g cap ns w k6 k8 k9 a0 a1 F W)(hR:bE C F' W')(k:RK C W W'):u7 C g cap ns w k6 k8 k9 a0 a1 F' W':=by obtain⟨o1,o2⟩:=h.old;have l6:=h.l6;have l8:=h.l8;have l9:=h.l9;exact⟨hR,RG.look π h.look k,(k.others _ (ah h.box) À À).trans h.box,(k.others _ (ah h.r8) À À).trans h.r8,(k.others _ (ah h.r9) À À).trans h.r9,h.bH.trans k,h.old,l6,l8,l9,h.n89,h.n68,h.n69⟩
theorem u7.call{C:Rc E}(π:Gd C g)(h:u7 C g cap ns w k6 k8 k9 a0 a1 F W)(k:ω W W'):u7 C g cap ns w k6 k8 k9 a0 a1 F W':=h.step π (h.ra.call k) (RK.aF k h.ra.le)
theorem u7.bf{C:Rc E}(h:u7 C g cap ns w k6 k8 k9 a0 a1 F W)(k:RK C W W'){o:Obj}(hb:w.heap.size<=b)(ho:W.heap[b]?=Y o):W'.heap[b]?=Y o:=by obtain⟨o1,o2⟩:=h.old;exact(k.others b (ah ho) À À).trans ho
theorem Fa{C:Rc E}{w:Wd}(a0 a1:Value)(π:Gd C g)(hR:bE C F w)(hL:dC C.pb g cap ns w):u7 C g cap ns w w.heap.size (w.heap.size+1) (w.heap.size+1+1) a0 a1 F (((w.alloc (L #[a0,a1] 56)).alloc (L #[U false,Z M 0 0] 56)).alloc (L #[U false,Z M 0 0] 56)):=by obtain⟨h1,h2,h3,kb⟩:=bQ (w:=w) (o1:=L #[a0,a1] 56) (o2:=L #[U false,Z M 0 0] 56) (o3:=L #[U false,Z M 0 0] 56) Å;obtain⟨c1,q1,_⟩:=hR.gf;obtain⟨c2,q2,_⟩:=hR.gs;have hk:=RK.aF kb hR.le;exact⟨hR.call kb,RG.look π hL hk,h1,h2,h3,hk,⟨ah q1,ah q2⟩,È,À,À,À,À,À⟩
theorem bE.Mm{C:Rc E}(h:bE C F W){b:Value}(hk:Bk W k #[a,b] 56)(hf:k≠C.gf)(u v:Value):bE C F ((W.setCell ⟨k,0,M⟩ u).setCell ⟨k,1,M⟩ v):=
 h.own (k:=k) (λq=>by have:=h.aV;rw[<-q,hk]at this;cases this) hf (λq=>by obtain⟨c,hc,_⟩:=h.gs;rw[<-q,hk]at hc;cases hc) (λe q=>by rw[hk]at q;cases q) (λj hj=>by rw[Æ _ _ _ _ hj,Æ _ _ _ _ hj])
theorem u7.ret{C:Rc E}(h:u7 C g cap ns w k6 k8 k9 a0 a1 F W)(u0 u1 v0 v1:Value):bE C F ((((W.setCell ⟨k8,0,M⟩ u0).setCell ⟨k8,1,M⟩ u1).setCell ⟨k9,0,M⟩ v0).setCell ⟨k9,1,M⟩ v1)/\RK C w ((((W.setCell ⟨k8,0,M⟩ u0).setCell ⟨k8,1,M⟩ u1).setCell ⟨k9,0,M⟩ v0).setCell ⟨k9,1,M⟩ v1) /\
  (((((W.setCell ⟨k8,0,M⟩ u0).setCell ⟨k8,1,M⟩ u1).setCell ⟨k9,0,M⟩ v0).setCell ⟨k9,1,M⟩ v1).cell? ⟨k8,0,M⟩=Y u0/\((((W.setCell ⟨k8,0,M⟩ u0).setCell ⟨k8,1,M⟩ u1).setCell ⟨k9,0,M⟩ v0).setCell ⟨k9,1,M⟩ v1).cell? ⟨k8,1,M⟩=Y u1/\((((W.setCell ⟨k8,0,M⟩ u0).setCell ⟨k8,1,M⟩ u1).setCell ⟨k9,0,M⟩ v0).setCell ⟨k9,1,M⟩ v1).cell? ⟨k9,0,M⟩=Y v0/\((((W.setCell ⟨k8,0,M⟩ u0).setCell ⟨k8,1,M⟩ u1).setCell ⟨k9,0,M⟩ v0).setCell ⟨k9,1,M⟩ v1).cell? ⟨k9,1,M⟩=Y v1) /\
  (∀v s,dL W v s->dL ((((W.setCell ⟨k8,0,M⟩ u0).setCell ⟨k8,1,M⟩ u1).setCell ⟨k9,0,M⟩ v0).setCell ⟨k9,1,M⟩ v1) v s)/\((W.setCell ⟨k8,0,M⟩ u0).setCell ⟨k8,1,M⟩ u1).heap[k9]?=Y (L #[U false,Z M 0 0] 56) /\
  ∀j o,j≠k8->j≠k9->((W.setCell ⟨k8,0,M⟩ u0).setCell ⟨k8,1,M⟩ u1).cell? ⟨j,o,M⟩=W.cell? ⟨j,o,M⟩/\((((W.setCell ⟨k8,0,M⟩ u0).setCell ⟨k8,1,M⟩ u1).setCell ⟨k9,0,M⟩ v0).setCell ⟨k9,1,M⟩ v1).cell? ⟨j,o,M⟩=W.cell? ⟨j,o,M⟩:=by
 obtain⟨o1,o2⟩:=h.old;have l8:=h.l8;have l9:=h.l9;have hle:C.base<=w.heap.size:=Nat.le_trans h.ra.lf À;have e8:=ai (ai h.r8 0 u0) 1 u1;have e9:((W.setCell ⟨k8,0,M⟩ u0).setCell ⟨k8,1,M⟩ u1).heap[k9]?=Y (L #[U false,Z M 0 0] 56):=by rw[Æ _ _ _ _ h.n89.symm,Æ _ _ _ _ h.n89.symm];exact h.r9
 have f9:=ai (ai e9 0 v0) 1 v1;have f8:((((W.setCell ⟨k8,0,M⟩ u0).setCell ⟨k8,1,M⟩ u1).setCell ⟨k9,0,M⟩ v0).setCell ⟨k9,1,M⟩ v1).heap[k8]?=Y (L #[u0,u1] 56):=by rw[Æ _ _ _ _ h.n89,Æ _ _ _ _ h.n89,e8];rfl
 refine⟨(h.ra.Mm h.r8 À u0 u1).Mm e9 À v0 v1,(((h.bH.own l8 hle _ _).own l8 hle _ _).own l9 hle _ _).own l9 hle _ _,⟨cell_of f8 0 rfl,cell_of f8 1 rfl,cell_of f9 0 rfl,cell_of f9 1 rfl⟩,λv s hs=>(hs.put h.r8 u0 u1).put e9 v0 v1,e9,λj o h1 h2=>?_⟩;have q:((W.setCell ⟨k8,0,M⟩ u0).setCell ⟨k8,1,M⟩ u1).cell? ⟨j,o,M⟩=W.cell? ⟨j,o,M⟩:=by rw[cK (.inl h1),cK (.inl h1)]
 exact⟨q,by rw[cK (.inl h2),cK (.inl h2)];exact q⟩
def dK(G:aw E)(k:Nat)(x y:Sm)(ct:Ct)(s:dT):List (fG T)×dT×dT:=Sp.dK (Dm G) k x y ct s
theorem TJ(G:aw E)(k:Nat)(x y:Sm)(ct:Ct)(e:di){es:List (fG T)}(h:dJ G x ct e=(es,M)):dK G k x y ct (Y e)=(es,M,M):=by have q:Sp.dJ (Dm G) x ct e=(es,M):=h;unfold dK Sp.dK;simp only;rw[q];rfl
theorem TG(G:aw E)(k:Nat)(x y:Sm)(ct:Ct)(e:di){es dU:List (fG T)}{a:T}(h:dJ G x ct e=(es,Y a))(h2:dJ G y (Sp.cS x ct) e=(dU,M)):dK G k x y ct (Y e)=(es++dU,M,M):=by have q:Sp.dJ (Dm G) x ct e=(es,Y a):=h;have q2:Sp.dJ (Dm G) y (Sp.cS x ct) e=(dU,M):=h2;unfold dK Sp.dK;simp only;rw[q];simp only;rw[q2];rfl
theorem TK(G:aw E)(k:Nat)(x y:Sm)(ct:Ct)(e:di){es dU:List (fG T)}{a b:T}(h:dJ G x ct e=(es,Y a))(h2:dJ G y (Sp.cS x ct) e=(dU,Y b)):dK G k x y ct (Y e)=(es++dU,Ac G k x y a b e,Ac G (yZ k) x y a b e):=by have q:Sp.dJ (Dm G) x ct e=(es,Y a):=h;have q2:Sp.dJ (Dm G) y (Sp.cS x ct) e=(dU,Y b):=h2;unfold dK Sp.dK;simp only;rw[q];simp only;rw[q2];rfl
def Ĺ(C:Rc E)(G:aw E)(g cap:Nat)(ns:List aK)(rel:Nat)(x y:Sm)(k:Nat)(ct:Ct):Prop:=∀(F:jg) (s:dT) (sv:Value) (rec:Bool) (w:Wd),bE C F w->dC C.pb g cap ns w->eR E s->dL w sv s->dk rec F (dK G rel x y ct s).1 ->
 Calls prog 61 #[ρ (Y ⟨C.b,0,M⟩),I O (k:Nat),sv,U rec] w λr w'=>∃v1 v2,r=υ (φ #[v1,v2])/\bE C (told G rec F (dK G rel x y ct s).1) w'/\RK C w w'/\dL w' v1 (dK G rel x y ct s).2.1/\dL w' v2 (dK G rel x y ct s).2.2
theorem Qk(G:aw E){C:Rc E}(π:Gd C g)(k:Nat)(F:jg)(rec:Bool)(w:Wd)(hR:bE C F w)(hL:dC C.pb g cap ns w) :
  Calls prog 61 #[ρ (Y ⟨C.b,0,M⟩),I O (k:Nat),J #[U true,Z M 0 0],U rec] w λr w'=>∃v1 v2,r=υ (φ #[v1,v2])/\bE C (told G rec F []) w'/\RK C w w'/\dL w' v1 M/\dL w' v2 M:=by
 rw[eI];have HW:=Fa (U true) (Z M 0 0) (ns:=ns) π hR hL;obtain⟨W,hW⟩:∃W,((w.alloc (L #[U true,Z M 0 0] 56)).alloc (L #[U false,Z M 0 0] 56)).alloc (L #[U false,Z M 0 0] 56)=W:=⟨_,rfl⟩;rw[hW]at HW;have H:=hid HW;clear hR hL HW;go_enter func61,ntmps61;go_upto_region 1 with fail;try rw[hW]
 obtain⟨k6,e6⟩:∃k,k=w.heap.size:=⟨_,rfl⟩;obtain⟨k8,e8⟩:∃k,k=w.heap.size+1:=⟨_,rfl⟩;obtain⟨k9,e9⟩:∃k,k=w.heap.size+1+1:=⟨_,rfl⟩;rw[<-e9,<-e8,<-e6];rw[<-e9,<-e8,<-e6]at H;clear hW e6 e8 e9;have b0:=cell_of H.box 0 (v:=U true) rfl;have HG:=hid π;clear π;go_wp2_with fail;have hS:u7 C g cap ns w k6 k8 k9 (U true) (Z M 0 0) F W.drew:=H.call HG.out (Å).drew;obtain⟨QT,Qs⟩:k6≠k8/\k6≠k9:=⟨hS.n68,hS.n69⟩;obtain⟨Qx,QR⟩:k6≠k8/\k6≠k9:=⟨hS.n68,hS.n69⟩;have hA:W.drew.cell? ⟨k6,0,M⟩=Y (U true)/\W.drew.cell? ⟨k6,1,M⟩=Y (Z M 0 0):=⟨cell_of hS.box 0 rfl,cell_of hS.box 1 rfl⟩;have hB:=hA;have HT:=hid (hS.ret (U true) (Z M 0 0) (U true) (Z M 0 0));obtain⟨z0,z1,xe,xo,_⟩:=aI hS.r8;obtain⟨y0,y1,wE,wH,_⟩:=aI HT.2.2.2.2.1;refine wp_region_held_drew (S:=λw':Wd=>w'.cell? ⟨k6,0,M⟩=Y (U true)/\w'.cell? ⟨k6,1,M⟩=Y (Z M 0 0)/\w'.cell? ⟨k6,0,M⟩=Y (U true)/\w'.cell? ⟨k6,1,M⟩=Y (Z M 0 0)) Ã ⟨hA.1,hA.2,hB.1,hB.2⟩ (λaa=>?_);have Gs:=hid (And.intro ((HT.2.2.2.2.2 k6 0 QT Qs).1.trans hA.1) (And.intro ((HT.2.2.2.2.2 k6 1 QT Qs).1.trans hA.2) (And.intro ((HT.2.2.2.2.2 k6 0 Qx QR).1.trans hB.1) ((HT.2.2.2.2.2 k6 1 Qx QR).1.trans hB.2))));have Ty:=hid (And.intro ((HT.2.2.2.2.2 k6 0 QT Qs).2.trans hA.1) (And.intro ((HT.2.2.2.2.2 k6 1 QT Qs).2.trans hA.2) (And.intro ((HT.2.2.2.2.2 k6 0 Qx QR).2.trans hB.1) ((HT.2.2.2.2.2 k6 1 Qx QR).2.trans hB.2))));clear hA hB QT Qs Qx QR;generalize W.drew=V at*;refine tk 0 (J #[U true,Z M 0 0]) rfl (λw' h=>by have q:=h.1;have q2:=h.2.1;go_simp) aa ?_;refine tk 1 (J #[U true,Z M 0 0]) rfl (λw' h=>by have q:=h.2.2.1;have q2:=h.2.2.2;go_simp) aa ?_;refine bP 2 λK hK=>?_
 simp only[bG,gd];go_simp;refine hK.out _ _ Gs.out (λ_=>?_);clear hK K;refine bP 3 λK hK=>?_
 simp only[bG];go_simp;refine hK.out _ _ Ty.out (λ_=>?_);clear hK K;refine wpAnyH_done Ã ?_ _;go_wp2_with fail;exact Ç (v:=φ #[J #[U true,Z M 0 0],J #[U true,Z M 0 0]]) (by simp[results,results61,go_sem,HT.2.2.1.1,HT.2.2.1.2.1,HT.2.2.1.2.2.1,HT.2.2.1.2.2.2]) rfl ⟨_,_,rfl,HT.1,HT.2.1,rfl,rfl⟩
end
end RG
end
end Go.Proofs.YtiopfihjmkfdmabGreatDoor
