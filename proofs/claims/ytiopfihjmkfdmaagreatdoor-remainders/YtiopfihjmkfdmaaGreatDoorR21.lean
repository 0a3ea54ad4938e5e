import Derived.Test.YtiopfihjmkfdmaaGreatDoorR20
namespace Go.Proofs.YtiopfihjmkfdmaaGreatDoor
open Option renaming none→M,some→Y
open Go.Obj renaming cells→L
open Go.Value renaming int→I,slice→Z,agg→J,bool→U,pointer→ρ,tuple→φ,string→χ
open Go.IntKind renaming i64→O
open Go.Ending renaming returned→υ
open Go.Proofs.Tryz Sp
set_option maxRecDepth 100000
set_option maxHeartbeats 16000000
section
namespace RG
open Go.RowKit W
variable {δ : Bool}
section
variable{V w W W':Wd}
variable{v a b sv:Value}
variable{s:dw}
variable{k g cap n lo:Nat}
variable{F:jr}
variable{ns:List aH}
theorem MO{S:Wd->Prop}(hS:S V)(call:∀W W',S W->ω W W'->S W')(u v:Value)(ty:TypeId):S (V.alloc (L #[u,v] ty))/\∀w8,Below (V.alloc (L #[u,v] ty)).heap.size (V.alloc (L #[u,v] ty)) w8->S w8/\w8.heap[V.heap.size]?=Y (L #[u,v] ty)/\∀a b,S ((w8.setCell ⟨V.heap.size,0,M⟩ a).setCell ⟨V.heap.size,1,M⟩ b)/\((w8.setCell ⟨V.heap.size,0,M⟩ a).setCell ⟨V.heap.size,1,M⟩ b).heap[V.heap.size]?=Y (L #[a,b] ty):=by have ba:=below_alloc1 V (L #[u,v] ty);have hn:=heap_alloc_new V (L #[u,v] ty);refine⟨call _ _ hS ba,fun w8 b8=>?_⟩;have yR:=(b8.block _ (ad hn)).trans hn;have bb:=ba.trans (b8.mono ba.size);exact⟨call _ _ hS bb,yR,fun a b=>⟨call _ _ hS (Hv yR bb (Nat.le_refl _) a b).1,(Hv yR bb (Nat.le_refl _) a b).2⟩⟩
def ts(π:ar δ)(side:Sm)(r:Nat)(y:T)(s:dw):dw:=qn (Dm π) side r y s
theorem S6(π:ar δ)(n:Nat)(hm:n<8)(r:Nat)(hr:r<6)(e:dS)(he:∀k,Wv δ (e k)){x y:T}(wy:Wv δ y)(hc:δ=true->e ⟨n,hm⟩=x∨r≠3∨y.a≠y.b)(h2:δ=true∨r=2):ts π (.name n) r y (Y e)=(j0 δ (e ⟨n,hm⟩) (Zm δ r x y)).map (sf e n):=by
 have q:gR δ r (e ⟨n,hm⟩) y=j0 δ (e ⟨n,hm⟩) (Zm δ r x y):=by
  cases δ
  ·rcases h2 with h | rfl
   ·cases h
   ·rfl
  ·exact RL r hr (he _) wy (hc rfl)
 have q2:(Dm π).bound r (oE (Dm π) e n) y=gR δ r (e ⟨n,hm⟩) y:=congrArg (fun v=>gR δ r v y) (dif_pos hm);rw[<-q];cases hv:gR δ r (e ⟨n,hm⟩) y with
 | some v=>exact rL (Dm π) n r y e v (q2.trans hv)
 | none=>exact xo (Dm π) n r y e (q2.trans hv)
theorem P0(π:ar δ)(n:Nat)(hm:n<8)(r:Nat)(e:dS)(he:∀k,Wv δ (e k))(y:T)(h:δ=false/\r≠2):ts π (.name n) r y (Y e)=Y e:=by
 have q2:(Dm π).bound r (oE (Dm π) e n) y=Y (e ⟨n,hm⟩):=by refine(congrArg (fun v=>gR δ r v y) (dif_pos hm)).trans ?_;obtain⟨rfl,h⟩:=h;show(lq r (lN (e ⟨n,hm⟩)) (lN y)).map uw=Y (e ⟨n,hm⟩);unfold lq;rw[if_neg h];exact congrArg Y (po (he _).1)
 refine(rL (Dm π) n r y e _ q2).trans (congrArg Y (funext fun j=>?_));show(if j.val=n then e ⟨n,hm⟩ else e j)=e j;split
 ·rename_i h;subst h;rfl
 ·rfl
theorem dM.other(h:dM w v s){c:Array Value}(hk:Bk w k c 121)(i:Nat)(u:Value):dM (w.setCell ⟨k,i,M⟩ u) v s:=by
 cases s with
 | none=>exact h
 | some e =>obtain⟨g,h1,h2⟩:=h;refine⟨g,h1,?_⟩;rw[Below.heap_setCell _ _ _ _ (fun q:g=k=>by rw[q,hk]at h2;cases h2)];exact h2
theorem dM.put(h:dM w v s)(hk:Bk w k #[a,b] 121)(u1 u2:Value):dM ((w.setCell ⟨k,0,M⟩ u1).setCell ⟨k,1,M⟩ u2) v s :=
 (h.other hk 0 u1).other (ah hk 0 u1) 1 u2
structure sT(C:Rc δ)(F:jr)(g cap:Nat)(ns:List aH)(w:Wd)(k7 k9 uz jF kn ge:Nat)(e:dS)(n:Nat)(x y:T)(W:Wd):Prop where
 ls:Lc C F g cap ns w k7 k9 uz jF false (Y ⟨ge,0,M⟩) 8 8 x y W
 nd:∃c,W.heap[kn]?=Y (L c 176)/\c[4]?=Y (I O (n:Int))
 env:W.heap[ge]?=Y (L (ia e) 191)
theorem sT.call{C:Rc δ}{k7 k9 uz jF kn ge:Nat}{e:dS}{x y:T}(h:sT C F g cap ns w k7 k9 uz jF kn ge e n x y W)(k:ω W W'):sT C F g cap ns w k7 k9 uz jF kn ge e n x y W':=by obtain⟨c,h1,h2⟩:=h.nd;exact⟨h.ls.call k,⟨c,(k.block _ (ad h1)).trans h1,h2⟩,(k.block _ (ad h.env)).trans h.env⟩
theorem Dd(π:ar δ){C:Rc δ}{n:Nat}{d:aH}(hd:ns[k]?=Y d)(hk:d.kind=2)(hn:d.n=(n:Int))(hm:n<8)(e:dS)(he:∀k,Wv δ (e k))(ge:Nat){x y:T}(wx:Wv δ x)(wy:Wv δ y)(r:Nat)(hr:r<6)(hR:bK C F w)(hL:db C.pb g cap ns w)(mL:Bk w ge (ia e) 191)(hc:δ=true->e ⟨n,hm⟩=x∨r≠3∨y.a≠y.b)(h2:δ=true∨r=2) :
  Calls prog 190 #[ρ (Y ⟨C.b,0,M⟩),J #[U false,Z (Y ⟨ge,0,M⟩) 8 8],I O (k:Nat),J #[I O (pA x),I O (pB x)],χ ⟨(aL r).toArray⟩,J #[I O (pA y),I O (pB y)]] w fun q w'=>∃v,q=υ v/\dM w' v (ts π (.name n) r y (Y e))/\ω w w':=by
 obtain⟨z,hz⟩:∃z,z=e ⟨n,hm⟩:=⟨_,rfl⟩;obtain⟨t,ht⟩:∃t,t=Zm δ r x y:=⟨_,rfl⟩;obtain⟨u,hu⟩:∃u,u=QK δ z t:=⟨_,rfl⟩;have EB:Hid (ts π (.name n) r y (Y e)=(j0 δ z t).map (sf e n)):=by unfold Hid;rw[hz,ht];exact S6 π n hm r hr e he wy hc h2
 have Ra:Hid (δ=true->∀w:Wd,Calls prog 215 #[J #[I O (pA x),I O (pB x)],χ ⟨(aL r).toArray⟩,J #[I O (pA y),I O (pB y)]] w fun e w'=>e=υ (J #[I O (pA t),I O (pB t)])/\ω w w'):=fun h w=>by rw[show t=CR r x y by rw[ht,h];rfl];exact hR.bY.bound h r hr wx wy w
 have YT:=fun w:Wd=>hR.bY.meet (x:=z) (y:=t) (by rw[hz];exact he _) (by rw[ht];cases δ;exact .inr wy;exact .inl rfl) w
 rw[<-hu]at YT;obtain⟨ok,qU⟩:∃ok,(j0 δ z t).isSome=ok:=⟨_,rfl⟩;rw[qU]at YT;have Yr:=hid YT;have sr:Hid ((j0 δ z t).isSome=ok/\u=QK δ z t):=⟨qU,hu⟩;have HTY:Hid (δ=false->t=y/\aL r=[61,61]):=fun h=>by
  rw[ht,h];refine⟨rfl,?_⟩
  rcases h2 with h2 | rfl
  ·rw[h]at h2;cases h2
  ·rfl
 clear hu YT qU h2;have HZ:=hid hz;have J5:=hid mL;clear hz ht hc wx wy he mL hr;have HK:Hid (d.kind=2/\d.n=(n:Int)):=⟨hk,hn⟩;obtain⟨J2,HJ⟩:∃J2,Hid (J2=n*2):=⟨_,rfl⟩;have ZX:((n:Nat):Int)<8:=by omega
 clear hk hn;have HW:=CK false (Y ⟨ge,0,M⟩) 8 8 x y hR hL;obtain⟨W,hW⟩:∃W,lW w false (Y ⟨ge,0,M⟩) 8 8 x y=W:=⟨_,rfl⟩;rw[hW]at HW;unfold lW at hW;have H:=hid HW;have HD:Hid (ns[k]?=Y d):=hd;generalize aL r=sg at *;clear hR hL hd HW;go_enter func190,ntmps190;go_upto_region 1 with fail;try rw[hW]
 obtain⟨k7,e7⟩:∃k,k=w.heap.size:=⟨_,rfl⟩;obtain⟨k9,e9⟩:∃k,k=w.heap.size+1:=⟨_,rfl⟩;obtain⟨uz,e11⟩:∃k,k=w.heap.size+1+1:=⟨_,rfl⟩;obtain⟨jF,e12⟩:∃k,k=w.heap.size+1+1+1:=⟨_,rfl⟩;rw[<-e12,<-e11,<-e9,<-e7];rw[<-e12,<-e11,<-e9,<-e7]at H;clear hW e7 e9 e11 e12;have m0:=cell_of H.ra.aT 0 (v:=ρ (Y ⟨C.pb,0,M⟩)) rfl;have c0:=H.look.slice;obtain⟨cR,r0,r1,r2,r3,r4,r5,r6,r7,r8,r9⟩:=H.look.facts HD.out;have h1:=H.look.ow;have h2:=H.look.hmax;have h3:=H.look.hn;rw[HK.1]at r0;rw[HK.2]at r4;go_upto_region 2 with fail;have h9:=H.call (below_alloc1 W (L (nX d) 176))
 have hn:=heap_alloc_new W (L (nX d) 176);have Yx:Hid (_=_):=((H.b.trans ((below_alloc1 W (L (nX d) 176)).mono H.b.size)).block _ (ad J5.out)).trans J5.out;unfold nX at h9 hn Yx;rw[HK.1,HK.2]at h9 hn Yx;generalize W.alloc (L #[I O 2,I O d.a,I O d.b,I O d.c,I O (n:Int),I O d.next,χ ⟨d.sign.toArray⟩,I O d.site,I O d.ay,U d.els] 176)=X at *;generalize W.heap.size=kn at *;have n0:=cell_of hn 0 (v:=I O 2) rfl;have s0:=cell_of h9.s 0 (v:=U false) rfl;have x0:=cell_of h9.x 0 (v:=I O (pA x)) rfl;have x1:=cell_of h9.x 1 (v:=I O (pB x)) rfl;have y0:=cell_of h9.y 0 (v:=I O (pA y)) rfl;have y1:=cell_of h9.y 1 (v:=I O (pB y)) rfl;have hX:sT C F g cap ns w k7 k9 uz jF kn ge e n x y X:=⟨h9,⟨_,hn,rfl⟩,Yx.out⟩;have hL:=MO hX (fun _ _ h k=>h.call k) (I O (pA y)) (I O (pB y)) 191;have NH:=hid hL;have HKB:Hid (_=_):=heap_alloc_new X (L #[I O (pA y),I O (pB y)] 191);clear H m0 c0 r0 r1 r2 r3 r4 r5 r6 r7 r8 r9 h1 h2 h3 cR hn HD h9 Yx hL;go_upto_region 5 with fail;generalize X.alloc (L #[I O (pA y),I O (pB y)] 191)=κ at *
 generalize X.heap.size=kb at *;clear x0 x1 y0 y1 n0 s0 hX;have hA:=NH.1.ls;have x0:=cell_of hA.x 0 (v:=I O (pA x)) rfl;have x1:=cell_of hA.x 1 (v:=I O (pB x)) rfl;have y0:=cell_of hA.y 0 (v:=I O (pA y)) rfl;have y1:=cell_of hA.y 1 (v:=I O (pB y)) rfl;have m1:=hA.ra.cells.1;clear hA;go_upto_if 41 with fail
 go_cut [] from 40 to 49 (fun wc=>Hid (sT C F g cap ns w k7 k9 uz jF kn ge e n x y wc/\wc.heap[kb]?=Y (L #[I O (pA t),I O (pB t)] 191)))
 case first =>
  clear Yr EB sr
  rcases Hj δ with⟨hδ,q1,_⟩ | ⟨hδ,q1,_⟩
  ·rw[q1]
   clear q1;go_wp2_with fail;refine(Ra.out hδ _).mono ?_;rintro q w6⟨rfl,b6⟩;obtain⟨_,VW,hf6⟩:=NH.2 w6 b6;obtain⟨h7,hkb⟩:=hf6 (I O (pA t)) (I O (pB t));obtain⟨q0,q1,yJ,yH,_⟩:=aR VW;have H7:=hid (And.intro h7 hkb);clear NH b6 hf6 VW h7 hkb x0 x1 y0 y1 m1;go_wp2_with fail;go_meet;exact H7
  ·rw[q1]
   obtain⟨et,es⟩:=HTY.out hδ;have H7:Hid (sT C F g cap ns w k7 k9 uz jF kn ge e n x y κ/\κ.heap[kb]?=Y (L #[I O (pA t),I O (pB t)] 191)):=And.intro NH.1 (by rw[et];exact HKB.out);subst es;clear NH q1 et;go_wp2_with fail;go_meet;exact H7
 case rest =>
  have H7:=hcut;clear NH x0 x1 y0 y1 m1 Ra HTY HKB hcut;generalize wc=W7 at *;go_upto_region 9 with fail;have hS:sT C F g cap ns w k7 k9 uz jF kn ge e n x y W7.drew/\W7.drew.heap[kb]?=Y (L #[I O (pA t),I O (pB t)] 191):=⟨H7.1.call (Below.refl _ _).drew,H7.2⟩
  have OD:Hid (∀W:Wd,sT C F g cap ns w k7 k9 uz jF kn ge e n x y W->W.cell? ⟨ge,J2,M⟩=Y (I O (pA z))/\W.cell? ⟨ge,J2+1,M⟩=Y (I O (pB z))):=fun W h=>by obtain⟨a1,a2⟩:=pW e n hm;rw[HJ.out,HZ.out];exact⟨cell_of h.env _ a1,cell_of h.env _ a2⟩
  refine wp_region_held_drew (S:=fun w':Wd=>sT C F g cap ns w k7 k9 uz jF kn ge e n x y w'/\w'.heap[kb]?=Y (L #[I O (pA t),I O (pB t)] 191)) (by kernel_rfl) hS (fun aa=>?_);clear hS H7;generalize W7.drew=V at *;refine tq 0 (ρ (Y ⟨C.b,0,M⟩)) aa ?_;refine tq 1 (ρ (Y ⟨C.b,0,M⟩)) aa ?_;refine tq 2 (ρ (Y ⟨C.b,1,M⟩)) aa ?_;refine tq 3 (ρ (Y ⟨C.b,1,M⟩)) aa ?_;refine tk 4 (I O (dn δ)) rfl (fun w' h=>by have q:=h.1.ls.ra.cells.1;go_simp) aa ?_;refine tq 5 (ρ (Y ⟨k7,1,M⟩)) aa ?_;refine tk 6 (Z (Y ⟨ge,0,M⟩) 8 8) rfl (fun w' h=>by have q:=cell_of h.1.ls.s 1 (v:=Z (Y ⟨ge,0,M⟩) 8 8) rfl;go_simp) aa ?_;refine tq 7 (ρ (Y ⟨kn,4,M⟩)) aa ?_;refine tk 8 (I O (n:Int)) rfl (fun w' h=>by obtain⟨c,q1,q2⟩:=h.1.nd;have q:=cell_of q1 4 q2;go_simp) aa ?_;refine tk 9 (ρ (Y ⟨ge,J2,M⟩)) rfl (fun w' h=>by rw[HJ.out];go_simp) aa ?_;refine tk 10 (J #[I O (pA z),I O (pB z)]) rfl (fun w' h=>by have q:=(OD.out _ h.1).1;have q2:=(OD.out _ h.1).2;go_simp) aa ?_;refine tk 11 (J #[I O (pA t),I O (pB t)]) rfl (fun w' h=>by have q:=cell_of h.2 0 (v:=I O (pA t)) rfl;have q2:=cell_of h.2 1 (v:=I O (pB t)) rfl;go_simp) aa ?_;refine xX 12 16 (fun K hK=>?c1) (fun K hK=>?c2)
  case' c1 =>
    simp only[bp,fB];go_simp;refine(Yr.out _).mono ?_;rintro q w8⟨rfl,b8⟩;have hC:∀W W':Wd,(sT C F g cap ns w k7 k9 uz jF kn ge e n x y W/\W.heap[kb]?=Y (L #[I O (pA t),I O (pB t)] 191))->ω W W'->sT C F g cap ns w k7 k9 uz jF kn ge e n x y W'/\W'.heap[kb]?=Y (L #[I O (pA t),I O (pB t)] 191):=fun W W' h k=>⟨h.1.call k,(k.block _ (ad h.2)).trans h.2⟩
    have h8:=hC _ _ aa b8;have h9:∀o,sT C F g cap ns w k7 k9 uz jF kn ge e n x y (w8.alloc o)/\(w8.alloc o).heap[kb]?=Y (L #[I O (pA t),I O (pB t)] 191):=fun o=>hC _ _ aa (b8.alloc b8.size o)
    have hv:=heap_alloc_new w8 (L #[I O (pA u),I O (pB u)] 191);clear b8 hC;go_wp2_with fail;refine hK.out _ _ h8 (fun _=>?_);clear hK K;refine tk 13 (φ #[J #[I O (pA u),I O (pB u)],U ok]) rfl (fun w' h=>by go_simp) h8 ?_;refine tk 14 (J #[I O (pA u),I O (pB u)]) rfl (fun w' h=>by go_simp) h8 ?_;refine tk 15 (U ok) rfl (fun w' h=>by go_simp) h8 ?_;refine bD 16 fun K hK=>?_
    simp only[bp,fB];go_simp;refine hK.out _ _ (h9 _) (fun _=>?_);clear hK K;refine bD 17 fun K hK=>?_
    simp only[bp];go_simp;refine hK.out _ _ (h9 _) (fun _=>?_);clear hK K;refine bD 18 fun K hK=>?_
    simp only[bp];go_simp;refine hK.out _ _ (h9 _) (fun _=>?_);clear hK K;refine wpAnyH_done (by kernel_rfl) ?_ _;replace h9:=(h9 (L #[I O (pA u),I O (pB u)] 191)).1;generalize w8.alloc (L #[I O (pA u),I O (pB u)] 191)=X8 at *;generalize w8.heap.size=kv at *
  case' c2 =>
    simp only[bp,fB];go_simp;obtain⟨h8,hL⟩:=MO (S:=fun W:Wd=>sT C F g cap ns w k7 k9 uz jF kn ge e n x y W/\W.heap[kb]?=Y (L #[I O (pA t),I O (pB t)] 191)) aa (fun W W' h k=>⟨h.1.call k,(k.block _ (ad h.2)).trans h.2⟩) (I O 0) (I O 0) 191;have HL:=hid hL;clear hL;generalize V.alloc (L #[I O 0,I O 0] 191)=V1 at *;generalize V.heap.size=kv at *;refine hK.out _ _ h8 (fun _=>?_);clear hK K;refine bD 12 fun K hK=>?_
    simp only[bp];go_simp;refine(Yr.out _).mono ?_;rintro q w8⟨rfl,b8⟩;obtain⟨NP,yR,hf⟩:=HL.out w8 b8;obtain⟨h9,hv⟩:=hf (I O (pA u)) (I O (pB u));obtain⟨q0,q1,yJ,yH,_⟩:=aR yR;clear b8 hf yR;go_wp2_with fail;refine hK.out _ _ NP (fun _=>?_);clear hK K;refine tk 13 (φ #[J #[I O (pA u),I O (pB u)],U ok]) rfl (fun w' h=>by go_simp) NP ?_;refine tk 14 (J #[I O (pA u),I O (pB u)]) rfl (fun w' h=>by go_simp) NP ?_;refine tk 15 (U ok) rfl (fun w' h=>by go_simp) NP ?_;refine bD 17 fun K hK=>?_
    simp only[bp,fB];go_simp;refine hK.out _ _ h9 (fun _=>?_);clear hK K;refine bD 18 fun K hK=>?_
    simp only[bp];go_simp;refine hK.out _ _ h9 (fun _=>?_);clear hK K;refine wpAnyH_done (by kernel_rfl) ?_ _;generalize (w8.setCell ⟨kv,0,M⟩ (I O (pA u))).setCell ⟨kv,1,M⟩ (I O (pB u))=X8 at *;replace h9:=h9.1
  all_goals
   clear aa h8 Yr OD;cases ok with
   | true =>
    have Tx:Hid (ts π (.name n) r y (Y e)=Y (sf e n u)):=by unfold Hid;rw[EB.out,Mo sr.1,<-sr.2];rfl
    have HWI:=hid (vw ge e n hm u X8 h9.env);have s0:=cell_of h9.ls.s 0 (v:=U false) rfl;have s1:=cell_of h9.ls.s 1 (v:=Z (Y ⟨ge,0,M⟩) 8 8) rfl;obtain⟨c,qn1,qn2⟩:=h9.nd;have n4:=cell_of qn1 4 qn2;have v0:=cell_of hv 0 (v:=I O (pA u)) rfl;have v1:=cell_of hv 1 (v:=I O (pB u)) rfl;have H9:=hid h9;clear h9 hv qn1 qn2 EB sr;go_wp2_with fail;refine HWI.mono ?_;rintro q wf⟨v,rfl,hv,bv⟩;obtain⟨a',n',c',rfl⟩:=hv.form;have gB:=H9.call bv;obtain⟨y0,y1,Gu,Gf,mq⟩:=aR gB.ls.r;have MQ:=hid (mq (U false) (Z a' n' c'));have HT:=hid (And.intro (hv.put gB.ls.r (U false) (Z a' n' c')) ((gB.ls.b.setCell (p:=⟨jF,0,M⟩) gB.ls.l (U false)).setCell (p:=⟨jF,1,M⟩) gB.ls.l (Z a' n' c')));simp only[Option.isNone_some]at HT ⊢;clear mq gB hv bv H9 HWI;go_wp2_with fail;exact bodyPost_ret (v:=J #[U false,Z a' n' c']) (by simp[results,results190,go_sem,MQ.1,MQ.2]) rfl ⟨_,rfl,by rw[Tx.out];exact HT.1,HT.2⟩
   | false =>
    have Tx:Hid (ts π (.name n) r y (Y e)=M):=by
     unfold Hid;rw[EB.out];have q:=sr.1;cases hq:j0 δ z t with
     | none=>rfl
     | some v=>rw[hq]at q;cases q
    have H9:=hid h9;clear h9 hv EB sr;go_wp2_with fail;refine(eZ _).mono ?_;rintro q wf⟨rfl,bv⟩;have gB:=H9.call bv;obtain⟨y0,y1,Gu,Gf,mq⟩:=aR gB.ls.r;have MQ:=hid (mq (U true) (Z M 0 0));have HT:Hid (ω w _):=(gB.ls.b.setCell (p:=⟨jF,0,M⟩) gB.ls.l (U true)).setCell (p:=⟨jF,1,M⟩) gB.ls.l (Z M 0 0);clear mq gB bv H9;go_wp2_with fail;exact bodyPost_ret (v:=J #[U true,Z M 0 0]) (by simp[results,results190,go_sem,MQ.1,MQ.2]) rfl ⟨_,rfl,by rw[Tx.out];rfl,HT.out⟩
theorem rM(π:ar δ){C:Rc δ}{side:Sm}{ct aX:Ct}(hs:pZ ns lo side k ct aX){x y:T}(wx:Wv δ x)(wy:Wv δ y)(r:Nat)(hr:r<6)(hR:bK C F w)(hL:db C.pb g cap ns w)(hS:dM w sv s)(hw:ew δ s)(hc:δ=true->∀n (hm:n<8) e,side=.name n->s=Y e->e ⟨n,hm⟩=x∨r≠3∨y.a≠y.b) :
  Calls prog 190 #[ρ (Y ⟨C.b,0,M⟩),sv,I O (k:Nat),J #[I O (pA x),I O (pB x)],χ ⟨(aL r).toArray⟩,J #[I O (pA y),I O (pB y)]] w fun q w'=>∃v,q=υ v/\dM w' v (ts π side r y s)/\ω w w':=by
 cases s with
 | none =>
  obtain rfl:sv=_:=hS;obtain⟨d,hd⟩:∃d,ns[k]?=Y d:=by
   cases side with
   | num n=>exact⟨_,hs.choose_spec.1⟩
   | name n=>exact⟨_,hs.choose_spec.1⟩
   | neg x=>obtain⟨d,a,h,_⟩:=hs;exact⟨d,h⟩
   | bin op x y=>obtain⟨d,a,b,c,h,_⟩:=hs;exact⟨d,h⟩
  exact(vY hd true M 0 0 x y r hR hL hr (.inl rfl)).mono fun q w' ⟨h1,h2⟩=>⟨_,h1,rfl,h2⟩
 | some e =>
  obtain⟨ge,rfl,mL⟩:=hS;have off:∀d,ns[k]?=Y d->(d.kind≠2∨δ=false/\r≠2)->ts π side r y (Y e)=Y e->Calls prog 190 #[ρ (Y ⟨C.b,0,M⟩),J #[U false,Z (Y ⟨ge,0,M⟩) 8 8],I O (k:Nat),J #[I O (pA x),I O (pB x)],χ ⟨(aL r).toArray⟩,J #[I O (pA y),I O (pB y)]] w fun q w'=>∃v,q=υ v/\dM w' v (ts π side r y (Y e))/\ω w w':=fun d h1 h2 h3 =>
   (vY h1 false (Y ⟨ge,0,M⟩) 8 8 x y r hR hL hr (.inr h2)).mono fun q w' ⟨e1,e2⟩=>⟨_,e1,by rw[h3];exact⟨ge,rfl,(e2.block _ (ad mL)).trans mL⟩,e2⟩
  cases side with
  | num n=>obtain⟨d,h1,h2,_⟩:=hs;exact off d h1 (.inl (by omega)) rfl
  | name n =>
   obtain⟨d,h1,h2,h3,h4,_⟩:=hs;by_cases hn:δ=false/\r≠2
   ·exact off d h1 (.inr hn) (P0 π n h4 r e (hw e rfl) y hn)
   ·exact Dd π h1 h2 h3 h4 e (hw e rfl) ge wx wy r hr hR hL mL (fun h=>hc h n h4 e rfl rfl) (by cases δ;exact .inr (by simpa using hn);exact .inl rfl)
  | neg x=>obtain⟨d,a,h1,h2,_⟩:=hs;exact off d h1 (.inl (by omega)) rfl
  | bin op x y=>obtain⟨d,a,b,c,h1,h2,_⟩:=hs;exact off d h1 (.inl (by omega)) rfl
end
end RG
end
section
namespace RG
open Go.RowKit W
variable {δ : Bool}
section
variable{F:jr}
variable{g cap k7 k8 k9 D2 jF r ge:Nat}
variable{ns:List aH}
variable{w W W':Wd}
variable{a0 a1:Value}
variable{d:aH}
variable{x y side:Sm}
variable{e:dS}
structure qL(C:Rc δ)(F:jr)(g cap:Nat)(ns:List aH)(w:Wd)(k7 k8 k9 D2 jF:Nat)(a0 a1:Value)(d:aH)(x y:T)(W:Wd):Prop where
 ra:bK C F W
 look:db C.pb g cap ns W
 s:W.heap[k7]?=Y (L #[a0,a1] 121)
 nd:W.heap[k8]?=Y (L (nX d) 176)
 x:W.heap[k9]?=Y (L #[I O (pA x),I O (pB x)] 191)
 y:W.heap[D2]?=Y (L #[I O (pA y),I O (pB y)] 191)
 r:W.heap[jF]?=Y (L #[U false,Z M 0 0] 121)
 b:ω w W
 l7:w.heap.size<=k7
 l12:w.heap.size<=jF
 n7:jF≠k7
 old:C.gf<w.heap.size/\C.gs<w.heap.size
theorem qL.call{C:Rc δ}{x y:T}(h:qL C F g cap ns w k7 k8 k9 D2 jF a0 a1 d x y W)(k:ω W W'):qL C F g cap ns w k7 k8 k9 D2 jF a0 a1 d x y W' :=
 ⟨h.ra.call k,h.look.after k,(k.block _ (ad h.s)).trans h.s,(k.block _ (ad h.nd)).trans h.nd,(k.block _ (ad h.x)).trans h.x,(k.block _ (ad h.y)).trans h.y,(k.block _ (ad h.r)).trans h.r,h.b.trans (k.mono h.b.size),h.l7,h.l12,h.n7,h.old⟩
theorem qL.put{C:Rc δ}{x y:T}(G:Gd C g)(h:qL C F g cap ns w k7 k8 k9 D2 jF a0 a1 d x y W)(b0 b1:Value):qL C F g cap ns w k7 k8 k9 D2 jF b0 b1 d x y ((W.setCell ⟨k7,0,M⟩ b0).setCell ⟨k7,1,M⟩ b1):=by
 obtain⟨o1,o2⟩:=h.old;have l7:=h.l7;have hle:C.base<=w.heap.size:=Nat.le_trans h.ra.lf (by omega);have nY:∀j,j≠k7->((W.setCell ⟨k7,0,M⟩ b0).setCell ⟨k7,1,M⟩ b1).heap[j]?=W.heap[j]?:=fun j hj=>by rw[Below.heap_setCell _ _ _ _ hj,Below.heap_setCell _ _ _ _ hj]
 have hB:=h.b.setCell (p:=⟨k7,0,M⟩) l7 b0 |>.setCell (p:=⟨k7,1,M⟩) l7 b1
 refine⟨h.ra.own (k:=k7) (fun q=>by have:=h.ra.aT;rw[<-q,h.s]at this;cases this) (by omega) (by omega) (fun e q=>by rw[h.s]at q;cases q) nY,CQ G h.look (((Below.refl _ _).setCell (p:=⟨k7,0,M⟩) (Nat.le_trans hle l7) _).setCell (p:=⟨k7,1,M⟩) (Nat.le_trans hle l7) _),by rw[ah (ah h.s 0 b0) 1 b1];rfl,(nY _ (fun q=>?_)).trans h.nd,(nY _ (fun q=>?_)).trans h.x,(nY _ (fun q=>?_)).trans h.y,(nY _ h.n7).trans h.r,hB,l7,h.l12,h.n7,h.old⟩
 ·have:=h.nd;rw[q,h.s]at this;cases this
 ·have:=h.x;rw[q,h.s]at this;cases this
 ·have:=h.y;rw[q,h.s]at this;cases this
def bW(w:Wd)(a0 a1:Value)(d:aH)(x y:T):Wd:=((((w.alloc (L #[a0,a1] 121)).alloc (L #[I O d.kind,I O d.a,I O d.b,I O d.c,I O d.n,I O d.next,χ ⟨d.sign.toArray⟩,I O d.site,I O d.ay,U d.els] 176)).alloc (L #[I O (pA x),I O (pB x)] 191)).alloc (L #[I O (pA y),I O (pB y)] 191)).alloc (L #[U false,Z M 0 0] 121)
theorem Mq{C:Rc δ}(a0 a1:Value)(d:aH)(x y:T)(hR:bK C F w)(hL:db C.pb g cap ns w):qL C F g cap ns w w.heap.size (w.heap.size+1) (w.heap.size+1+1) (w.heap.size+1+1+1) (w.heap.size+1+1+1+1) a0 a1 d x y (bW w a0 a1 d x y):=by obtain⟨b',h5⟩:=gO (Below.refl (bW w a0 a1 d x y).heap.size (bW w a0 a1 d x y));obtain⟨h1,h2,h3,h4,kb⟩:=bB b';obtain⟨c1,q1,_⟩:=hR.gf;obtain⟨c2,q2,_⟩:=hR.gs;exact⟨hR.call kb,hL.after kb,h1,h2,h3,h4,by simpa using h5,kb,Nat.le_refl _,by omega,by omega,⟨ad q1,ad q2⟩⟩
def xZ(π:ar δ)(r:Nat)(x y:Sm)(a b:T)(e:dS):dw:=fH (Dm π) r x y a b e
theorem RT(π:ar δ){a b:T}(h:lZ δ r a b=false):xZ π r x y a b e=M:=uf (Dm π) r x y a b e h
theorem OU(π:ar δ){a b:T}(h:lZ δ r a b=true):xZ π r x y a b e=ts π y (dO r) a (ts π x r b (Y e)):=if_pos h
theorem S8(π:ar δ){side:Sm}{r:Nat}{y:T}{s:dw}(wy:Wv δ y)(h:ew δ s):ew δ (ts π side r y s):=vm (K:=Kr π) (side:=side) (r:=r) (s:=s) h wy
theorem Hc(h:r<6):dO r<6/\(dO r=3->r=3):=by rcases(show r=0∨r=1∨r=2∨r=3∨r=4∨r=5 from by omega) with rfl | rfl | rfl | rfl | rfl | rfl<;>simp[dO]
theorem ND(π:ar δ)(hr:r<6){a b:T}(hx:∀n (hm:n<8),x=.name n->e ⟨n,hm⟩=a)(hy:∀n (hm:n<8),y=.name n->e ⟨n,hm⟩=b)(hδ:δ=true)(tA:lZ δ r a b=true)(n:Nat)(hm:n<8)(e':dS)(hn:y=.name n)(hs:ts π x r b (Y e)=Y e'):e' ⟨n,hm⟩=b∨dO r≠3∨a.a≠a.b:=by
 have Uz:=hy n hm hn;have same:e'=e->e' ⟨n,hm⟩=b:=fun q=>by rw[q];exact Uz
 cases x with
 | num m=>exact .inl (same (by have q:Y e=Y e':=hs;cases q;rfl))
 | neg m=>exact .inl (same (by have q:Y e=Y e':=hs;cases q;rfl))
 | bin o u v=>exact .inl (same (by have q:Y e=Y e':=hs;cases q;rfl))
 | name m =>
  by_cases hmn:m=n
  ·subst hmn
   have hab:a=b:=(hx m hm rfl).symm.trans Uz;by_cases h3:dO r=3
   ·have r3:=(Hc hr).2 h3
    refine .inr (.inr fun q=>?_);subst r3;subst hab;subst hδ;replace tA:GS 3 a a=true:=tA;simp[GS,q]at tA
   ·exact .inr (.inl h3)
  ·refine .inl ?_
   cases hq:(Dm π).bound r (oE (Dm π) e m) b with
   | none =>have:=xo (Dm π) m r b e hq;rw[show ts π (.name m) r b (Y e)=M from this]at hs;cases hs
   | some v =>
    have:=rL (Dm π) m r b e v hq;rw[show ts π (.name m) r b (Y e)=Y (sf e m v) from this]at hs;cases hs
    exact(if_neg (α:=T) (c:=n=m) (t:=v) (e:=e ⟨n,hm⟩) (fun q=>hmn q.symm)).trans Uz
theorem Ss{a b:T}(wa:Wv false a)(wb:Wv false b):lZ false r a b=(!(pA a == 0 && pA b == 0 && !Sp.holds r (pB a) (pB b)) && !(decide (r=2) && !(j0 false a b).isSome)):=by
 have e:∀{x:T},Wv false x->decide ((lN x).m=0)=(pA x == 0):=fun {x} h=>by
  have h0:0<=x.a:=h.1;by_cases q:x.a=0
  ·rw[decide_eq_true (show(lN x).m=0 by show x.a.toNat=0;omega),beq_iff_eq.2 (show pA x=0 from q)]
  ·rw[decide_eq_false (show ¬ (lN x).m=0 by show ¬ x.a.toNat=0;omega),beq_eq_false_iff_ne.2 (show pA x≠0 from q)]
 show rF r (lN a) (lN b)=_;unfold rF j0;rw[e wa,e wb];simp only[cond_false];cases bf (lN a) (lN b)<;>rfl
theorem jI(π:ar δ){C:Rc δ}{lo i j:Nat}{ct1 ct2 mJ tB:Ct}(G:Gd C g)(ha:d.a=(i:Int))(hb:d.b=(j:Int))(fx:pZ ns lo x i ct1 ct2)(fy:pZ ns lo y j mJ tB)(he:∀k,Wv δ (e k)){a b:T}(wa:Wv δ a)(wb:Wv δ b)(hx:∀n (hm:n<8),x=.name n->e ⟨n,hm⟩=a)(hy:∀n (hm:n<8),y=.name n->e ⟨n,hm⟩=b)(r:Nat)(hr:r<6)(hR:bK C F w)(hL:db C.pb g cap ns w)(mL:Bk w ge (ia e) 191) :
  Calls prog 147 #[ρ (Y ⟨C.b,0,M⟩),J #[U false,Z (Y ⟨ge,0,M⟩) 8 8],J (nX d),J #[I O (pA a),I O (pB a)],J #[I O (pA b),I O (pB b)],χ ⟨(aL r).toArray⟩] w fun q w'=>∃v,q=υ v/\dM w' v (xZ π r x y a b e)/\ω w w':=by
 have HW:=Mq (U false) (Z (Y ⟨ge,0,M⟩) 8 8) d a b hR hL;obtain⟨W,hW⟩:∃W,bW w (U false) (Z (Y ⟨ge,0,M⟩) 8 8) d a b=W:=⟨_,rfl⟩;rw[hW]at HW;unfold bW at hW;have J5:Hid (W.heap[ge]?=Y (L (ia e) 191)):=(HW.b.block _ (ad mL)).trans mL;have H:=hid HW;have XI:Hid (δ=true->∀w:Wd,Calls _ _ _ _ _):=fun h w=>hR.bY.apart h r hr wa wb w
 have UR:Hid (∀w:Wd,Calls _ _ _ _ _):=fun w=>AE r hr (pB a) (pB b) w
 have Ru:Hid (∀w:Wd,Calls _ _ _ _ _):=fun w=>hR.bY.meet wa (.inr wb) w
 have Yg:Hid (δ=false->lZ δ r a b=(!(pA a == 0 && pA b == 0 && !Sp.holds r (pB a) (pB b)) && !(decide (r=2) && !(j0 δ a b).isSome))):=fun h=>by subst h;exact Ss wa wb
 have Gn:Hid ((aL r == [61,61])=decide (r=2)):=by rcases(show r=0∨r=1∨r=2∨r=3∨r=4∨r=5 from by omega) with rfl | rfl | rfl | rfl | rfl | rfl<;>rfl
 have Y2:Hid (∀(W:Wd),bK C F W->db C.pb g cap ns W->W.heap[ge]?=Y (L (ia e) 191)->Calls _ _ _ _ _):=fun W h1 h2 h3=>rM π fx wa wb r hr (s:=Y e) (sv:=J #[U false,Z (Y ⟨ge,0,M⟩) 8 8]) h1 h2 ⟨ge,rfl,h3⟩ (fun e' q k=>by cases q;exact he k) (fun _ n hm e' h q=>by cases q;exact .inl (hx n hm h))
 have Ql:Hid (lZ δ r a b=true->∀(W:Wd) (sv:Value),bK C F W->db C.pb g cap ns W->dM W sv (ts π x r b (Y e))->Calls _ _ _ _ _):=fun tA W sv h1 h2 h3=>rM π fy wb wa (dO r) (Hc hr).1 h1 h2 h3 (S8 π wb (fun e' q k=>by cases q;exact he k)) (fun hδ n hm e' h q=>ND π hr hx hy hδ tA n hm e' h q)
 have HTU:Hid (∀w:Wd,Calls _ _ _ _ _):=fun w=>AK r hr w
 have HAB:Hid (d.a=(i:Int)/\d.b=(j:Int)):=⟨ha,hb⟩;have HG:=hid G;have Rn:nX d=#[I O d.kind,I O d.a,I O d.b,I O d.c,I O d.n,I O d.next,χ ⟨d.sign.toArray⟩,I O d.site,I O d.ay,U d.els]:=rfl;rw[Rn];clear hR hL mL HW ha hb hx hy he wa wb fx fy G Rn hr;obtain⟨sg,oy⟩:∃sg,sg=aL r:=⟨_,rfl⟩;obtain⟨sb,hsb⟩:∃sb,sb=aL (dO r):=⟨_,rfl⟩;rw[<-oy];rw[<-oy]at XI Y2 UR Gn;rw[<-hsb]at Ql;rw[<-oy,<-hsb]at HTU;clear oy hsb;go_enter func147,ntmps147;go_upto_region 1 with fail;try rw[hW]
 obtain⟨k7,e7⟩:∃k,k=w.heap.size:=⟨_,rfl⟩;obtain⟨k8,e8⟩:∃k,k=w.heap.size+1:=⟨_,rfl⟩;obtain⟨k9,e9⟩:∃k,k=w.heap.size+1+1:=⟨_,rfl⟩;obtain⟨D2,e10⟩:∃k,k=w.heap.size+1+1+1:=⟨_,rfl⟩;obtain⟨jF,e12⟩:∃k,k=w.heap.size+1+1+1+1:=⟨_,rfl⟩;rw[<-e12,<-e10,<-e9,<-e8,<-e7];rw[<-e12,<-e10,<-e9,<-e8,<-e7]at H;clear hW e7 e8 e9 e10 e12;have m1:=H.ra.cells.1;have x0:=cell_of H.x 0 (v:=I O (pA a)) rfl;have x1:=cell_of H.x 1 (v:=I O (pB a)) rfl;have y0:=cell_of H.y 0 (v:=I O (pA b)) rfl;have y1:=cell_of H.y 1 (v:=I O (pB b)) rfl;go_upto_if 23 with fail
 go_cut [] from 13 to 66 (fun wc=>Hid (lZ δ r a b=true/\qL C F g cap ns w k7 k8 k9 D2 jF (U false) (Z (Y ⟨ge,0,M⟩) 8 8) d a b wc/\wc.heap[ge]?=Y (L (ia e) 191)))
 case first =>
  clear Y2 Ql HTU;have EB:Hid (lZ δ r a b=false->xZ π r x y a b e=M):=fun h=>RT π h
  rcases Hj δ with⟨hδ,q1,_⟩ | ⟨hδ,q1,_⟩
  case' inl =>
   rw[q1];clear m1 UR Ru Yg Gn q1;have HA:=XI.out hδ;obtain⟨may,tA⟩:∃m,lZ δ r a b=m:=⟨_,rfl⟩;rw[tA]at HA;have HM:=hid tA;clear tA XI;go_wp2_with fail;refine(HA _).mono ?_;rintro q w2⟨rfl,b2⟩;have H2:Hid (qL _ _ _ _ _ _ _ _ _ _ _ _ _ _ _ _ w2):=H.call b2;have Oe:Hid (w2.heap[ge]?=_):=(b2.block _ (ad J5.out)).trans J5.out;clear H x0 x1 y0 y1 b2 J5 HA;cases may
   case true =>
    go_wp2_with fail;go_meet;exact⟨HM.out,H2.out,Oe.out⟩
   have Tx:Hid (xZ π r x y a b e=M):=EB.out HM.out;clear Oe EB
  case' inr =>
   rw[q1];obtain⟨ho,hho⟩:∃h,Sp.holds r (pB a) (pB b)=h:=⟨_,rfl⟩;obtain⟨ok,qU⟩:∃ok,(j0 δ a b).isSome=ok:=⟨_,rfl⟩;obtain⟨u,hu⟩:∃u,QK δ a b=u:=⟨_,rfl⟩;have HM:=Yg.out hδ;rw[hho,qU]at HM;rw[hho]at UR;rw[qU,hu]at Ru;have HM:=hid HM;have HG:=hid J5.out;clear XI Yg q1 hho qU hu hδ J5;go_wp2_with fail;refine(UR.out _).mono ?_;rintro q w2⟨rfl,rfl⟩;clear UR;go_upto_region 6 with fail
   go_cut [47] from 36 to 46 (fun v47 wc=>v47=U (pA a == 0 && pA b == 0 && !ho)/\wc=w2)
   case first =>
    clear H HG EB HM Ru Gn;cases d1:pA a == 0<;>cases d2:pA b == 0<;>cases ho<;>(go_wp2_with fail;go_meet;exact⟨by rw[d1,d2];rfl,rfl⟩)
   case' rest =>
    obtain⟨rfl,rfl⟩:=hcut;generalize (pA a == 0 && pA b == 0 && !ho)=zz at *;clear x0 x1 y0 y1 m1;cases zz
    case' true =>
     have Tx:Hid (xZ π r x y a b e=M):=EB.out (by rw[HM.out];rfl);have H2:Hid (qL _ _ _ _ _ _ _ _ _ _ _ _ _ _ _ _ wc):=H.out;clear Ru HM HG Gn H EB
    case' false =>
     have h2:=H.out;clear H;go_upto_region 8 with fail;refine wp_region_held_drew (S:=fun w':Wd=>qL C F g cap ns w k7 k8 k9 D2 jF (U false) (Z (Y ⟨ge,0,M⟩) 8 8) d a b w'/\w'.heap[ge]?=Y (L (ia e) 191)) (by kernel_rfl) ⟨h2.call (Below.refl _ _).drew,HG.out⟩ (fun aa=>?_)
     clear h2 HG;have hC:∀W W':Wd,(qL C F g cap ns w k7 k8 k9 D2 jF (U false) (Z (Y ⟨ge,0,M⟩) 8 8) d a b W/\W.heap[ge]?=Y (L (ia e) 191))->ω W W'->qL C F g cap ns w k7 k8 k9 D2 jF (U false) (Z (Y ⟨ge,0,M⟩) 8 8) d a b W'/\W'.heap[ge]?=Y (L (ia e) 191):=fun W W' h k=>⟨h.1.call k,(k.block _ (ad h.2)).trans h.2⟩
     have HC:Hid (∀W W':Wd,_):=hC;clear hC;generalize wc.drew=V at *;refine tq 0 (ρ (Y ⟨C.b,0,M⟩)) aa ?_;refine tq 1 (ρ (Y ⟨C.b,0,M⟩)) aa ?_;refine tq 2 (ρ (Y ⟨C.b,1,M⟩)) aa ?_;refine tq 3 (ρ (Y ⟨C.b,1,M⟩)) aa ?_;refine tk 4 (I O (dn δ)) rfl (fun w' h=>by have q:=h.1.ra.cells.1;go_simp) aa ?_;refine tk 5 (J #[I O (pA a),I O (pB a)]) rfl (fun w' h=>by have q:=cell_of h.1.x 0 (v:=I O (pA a)) rfl;have q2:=cell_of h.1.x 1 (v:=I O (pB a)) rfl;go_simp) aa ?_;refine tk 6 (J #[I O (pA b),I O (pB b)]) rfl (fun w' h=>by have q:=cell_of h.1.y 0 (v:=I O (pA b)) rfl;have q2:=cell_of h.1.y 1 (v:=I O (pB b)) rfl;go_simp) aa ?_;refine xX 7 11 (fun K hK=>?c1) (fun K hK=>?c2)
     case' c1 =>
      simp only[bp,fB];go_simp;refine(Ru.out _).mono ?_;rintro q w8⟨rfl,b8⟩;have h8:=HC.out _ _ aa b8;have h9:∀o,_:=fun o=>HC.out _ _ aa (b8.alloc b8.size o)
      clear b8;go_wp2_with fail;refine hK.out _ _ h8 (fun _=>?_);clear hK K;refine tk 8 (φ #[J #[I O (pA u),I O (pB u)],U ok]) rfl (fun w' h=>by go_simp) h8 ?_;refine tk 9 (J #[I O (pA u),I O (pB u)]) rfl (fun w' h=>by go_simp) h8 ?_;refine tk 10 (U ok) rfl (fun w' h=>by go_simp) h8 ?_;refine bD 11 fun K hK=>?_
      simp only[bp,fB];go_simp;refine hK.out _ _ (h9 _) (fun _=>?_);clear hK K;refine bD 12 fun K hK=>?_
      simp only[bp];go_simp;refine hK.out _ _ (h9 _) (fun _=>?_);clear hK K;refine bD 13 fun K hK=>?_
      simp only[bp];go_simp;refine hK.out _ _ (h9 _) (fun _=>?_);clear hK K;refine wpAnyH_done (by kernel_rfl) ?_ _;replace h9:=h9 (L #[I O (pA u),I O (pB u)] 191);generalize w8.alloc (L #[I O (pA u),I O (pB u)] 191)=X8 at *;generalize w8.heap.size=kv at *
     case' c2 =>
      simp only[bp,fB];go_simp;obtain⟨h8,hL⟩:=MO aa HC.out (I O 0) (I O 0) 191;have HL:=hid hL;clear hL;generalize V.alloc (L #[I O 0,I O 0] 191)=V1 at *;generalize V.heap.size=kv at *;refine hK.out _ _ h8 (fun _=>?_);clear hK K;refine bD 7 fun K hK=>?_
      simp only[bp];go_simp;refine(Ru.out _).mono ?_;rintro q w8⟨rfl,b8⟩;obtain⟨NP,yR,hf⟩:=HL.out w8 b8;obtain⟨h9,hv⟩:=hf (I O (pA u)) (I O (pB u));obtain⟨q0,q1,yJ,yH,_⟩:=aR yR;clear b8 hf yR;go_wp2_with fail;refine hK.out _ _ NP (fun _=>?_);clear hK K;refine tk 8 (φ #[J #[I O (pA u),I O (pB u)],U ok]) rfl (fun w' h=>by go_simp) NP ?_;refine tk 9 (J #[I O (pA u),I O (pB u)]) rfl (fun w' h=>by go_simp) NP ?_;refine tk 10 (U ok) rfl (fun w' h=>by go_simp) NP ?_;refine bD 12 fun K hK=>?_
      simp only[bp,fB];go_simp;refine hK.out _ _ h9 (fun _=>?_);clear hK K;refine bD 13 fun K hK=>?_
      simp only[bp];go_simp;refine hK.out _ _ h9 (fun _=>?_);clear hK K;refine wpAnyH_done (by kernel_rfl) ?_ _;generalize (w8.setCell ⟨kv,0,M⟩ (I O (pA u))).setCell ⟨kv,1,M⟩ (I O (pB u))=X8 at *
     all_goals
      clear aa h8 Ru HC;have H2:Hid (qL _ _ _ _ _ _ _ _ _ _ _ _ _ _ _ _ X8):=h9.1;have Oe:=hid h9.2;clear h9;have XA:=Gn.out;by_cases od:r=2
      case' neg =>
       rw[decide_eq_false od]at XA;have HMY:Hid (lZ δ r a b=true):=by unfold Hid;rw[HM.out,decide_eq_false od];rfl
      case' pos =>
       rw[decide_eq_true od]at XA;cases ok
       case' true=>have HMY:Hid (lZ δ r a b=true):=by unfold Hid;rw[HM.out];simp
       case' false=>have Tx:Hid (xZ π r x y a b e=M):=EB.out (by rw[HM.out,decide_eq_true od];rfl)
      all_goals
       clear HM Gn EB;try
        go_wp2_with fail;go_meet;exact⟨HMY.out,H2.out,Oe.out⟩
  all_goals
   go_wp2_with fail;refine(eZ _).mono ?_;rintro q wf⟨rfl,bv⟩;have gB:=H2.call bv;obtain⟨z0,z1,yV,yO,mq⟩:=aR gB.r;have MQ:=hid (mq (U true) (Z M 0 0));have HT:Hid (ω w _):=(gB.b.setCell (p:=⟨jF,0,M⟩) gB.l12 (U true)).setCell (p:=⟨jF,1,M⟩) gB.l12 (Z M 0 0);clear mq gB bv H2;go_wp2_with fail;exact bodyPost_ret (v:=J #[U true,Z M 0 0]) (by simp[results,results147,go_sem,MQ.1,MQ.2]) rfl ⟨_,rfl,by rw[Tx.out];rfl,HT.out⟩
 case rest =>
  obtain⟨tA,h2,yK⟩:=hcut.out;have Oe:=hid yK;replace Ql:=Ql.out tA;have EB:Hid (xZ π r x y a b e=ts π y (dO r) a (ts π x r b (Y e))):=OU π tA;clear hcut tA yK m1 x0 x1 y0 y1 H J5 XI UR Ru Yg Gn;generalize wc=w2 at *;have s0:=cell_of h2.s 0 (v:=U false) rfl;have s1:=cell_of h2.s 1 (v:=Z (Y ⟨ge,0,M⟩) 8 8) rfl;have x0:=cell_of h2.x 0 (v:=I O (pA a)) rfl;have x1:=cell_of h2.x 1 (v:=I O (pB a)) rfl;have y0:=cell_of h2.y 0 (v:=I O (pA b)) rfl;have y1:=cell_of h2.y 1 (v:=I O (pB b)) rfl;have n1:=cell_of h2.nd 1 (v:=I O (i:Int)) (by rw[<-HAB.1];rfl);have H2:Hid (qL _ _ _ _ _ _ _ _ _ _ _ _ _ _ _ _ w2):=h2;clear h2;go_wp2_with fail;refine(Y2.out w2 H2.ra H2.look Oe.out).mono ?_;rintro q w4⟨v4,rfl,Yk,b4⟩;obtain⟨a',n',c',rfl⟩:=Yk.form;have h4:=H2.call b4;have h5:=h4.put HG.out (U (ts π x r b (Y e)).isNone) (Z a' n' c');have QC:=Yk.put h4.s (U (ts π x r b (Y e)).isNone) (Z a' n' c');obtain⟨q0,q1,yJ,yH,_⟩:=aR h4.s;have H5:=hid (And.intro h5 QC);clear s0 s1 x0 x1 y0 y1 n1 H2 Yk h4 b4 h5 QC Y2 Oe;generalize (ts π x r b (Y e)).isNone=nn at *;go_upto_region 12 with fail;generalize (w4.setCell ⟨k7,0,M⟩ (U nn)).setCell ⟨k7,1,M⟩ (Z a' n' c')=W5 at *
  clear q0 q1 yJ yH;go_wp2_with fail;refine(HTU.out _).mono ?_;rintro q w6⟨rfl,rfl⟩;have h5:=H5.1;have s0:=cell_of h5.s 0 (v:=U nn) rfl;have s1:=cell_of h5.s 1 (v:=Z a' n' c') rfl;have x0:=cell_of h5.x 0 (v:=I O (pA a)) rfl;have x1:=cell_of h5.x 1 (v:=I O (pB a)) rfl;have y0:=cell_of h5.y 0 (v:=I O (pA b)) rfl;have y1:=cell_of h5.y 1 (v:=I O (pB b)) rfl;have n2:=cell_of h5.nd 2 (v:=I O (j:Int)) (by rw[<-HAB.2];rfl);clear h5;go_wp2_with fail;refine(Ql _ _ H5.1.ra H5.1.look H5.2).mono ?_;rintro q w7⟨v7,rfl,XK,b7⟩;obtain⟨a7,n7,c7,rfl⟩:=XK.form;have gB:=H5.1.call b7;obtain⟨z0,z1,yV,yO,mq⟩:=aR gB.r;have MQ:=hid (mq (U (ts π y (dO r) a (ts π x r b (Y e))).isNone) (Z a7 n7 c7));have HT:=hid (And.intro (XK.put gB.r (U (ts π y (dO r) a (ts π x r b (Y e))).isNone) (Z a7 n7 c7)) ((gB.b.setCell (p:=⟨jF,0,M⟩) gB.l12 (U (ts π y (dO r) a (ts π x r b (Y e))).isNone)).setCell (p:=⟨jF,1,M⟩) gB.l12 (Z a7 n7 c7)));clear mq gB XK b7 H5 Ql s0 s1 x0 x1 y0 y1 n2;rw[<-EB.out]at MQ HT ⊢;generalize (xZ π r x y a b e).isNone=nb at *;go_wp2_with fail;exact bodyPost_ret (v:=J #[U nb,Z a7 n7 c7]) (by simp[results,results147,go_sem,MQ.1,MQ.2]) rfl ⟨_,rfl,HT.1,HT.2⟩
end
end RG
end
section
namespace RG
open Go.RowKit W
variable {δ : Bool}
section
variable{g cap k6 k8 k9 b k:Nat}
variable{ns:List aH}
variable{w W W':Wd}
variable{a0 a1 a:Value}
variable{F F':jr}
structure tw(C:Rc δ)(g cap:Nat)(ns:List aH)(w:Wd)(k6 k8 k9:Nat)(a0 a1:Value)(F:jr)(W:Wd):Prop where
 ra:bK C F W
 look:db C.pb g cap ns W
 box:W.heap[k6]?=Y (L #[a0,a1] 121)
 r8:W.heap[k8]?=Y (L #[U false,Z M 0 0] 121)
 r9:W.heap[k9]?=Y (L #[U false,Z M 0 0] 121)
 bF:RK C w W
 old:C.gf<w.heap.size/\C.gs<w.heap.size
 l6:w.heap.size<=k6
 l8:w.heap.size<=k8
 l9:w.heap.size<=k9
 n89:k8≠k9
 n68:k6≠k8
 n69:k6≠k9
theorem tw.step{C:Rc δ}(G:Gd C g)(h:tw C g cap ns w k6 k8 k9 a0 a1 F W)(hR:bK C F' W')(k:RK C W W'):tw C g cap ns w k6 k8 k9 a0 a1 F' W':=by obtain⟨o1,o2⟩:=h.old;have l6:=h.l6;have l8:=h.l8;have l9:=h.l9;exact⟨hR,RG.look G h.look k,(k.others _ (ad h.box) (by omega) (by omega)).trans h.box,(k.others _ (ad h.r8) (by omega) (by omega)).trans h.r8,(k.others _ (ad h.r9) (by omega) (by omega)).trans h.r9,h.bF.trans k,h.old,l6,l8,l9,h.n89,h.n68,h.n69⟩
theorem tw.call{C:Rc δ}(G:Gd C g)(h:tw C g cap ns w k6 k8 k9 a0 a1 F W)(k:ω W W'):tw C g cap ns w k6 k8 k9 a0 a1 F W':=h.step G (h.ra.call k) (RK.aB k h.ra.le)
theorem tw.aU{C:Rc δ}(h:tw C g cap ns w k6 k8 k9 a0 a1 F W)(k:RK C W W'){o:Obj}(hb:w.heap.size<=b)(ho:W.heap[b]?=Y o):W'.heap[b]?=Y o:=by obtain⟨o1,o2⟩:=h.old;exact(k.others b (ad ho) (by omega) (by omega)).trans ho
theorem Dv{C:Rc δ}{w:Wd}(a0 a1:Value)(G:Gd C g)(hR:bK C F w)(hL:db C.pb g cap ns w):tw C g cap ns w w.heap.size (w.heap.size+1) (w.heap.size+1+1) a0 a1 F (((w.alloc (L #[a0,a1] 121)).alloc (L #[U false,Z M 0 0] 121)).alloc (L #[U false,Z M 0 0] 121)):=by obtain⟨h1,h2,h3,kb⟩:=cH (w:=w) (o1:=L #[a0,a1] 121) (o2:=L #[U false,Z M 0 0] 121) (o3:=L #[U false,Z M 0 0] 121) (Below.refl _ _);obtain⟨c1,q1,_⟩:=hR.gf;obtain⟨c2,q2,_⟩:=hR.gs;have hk:=RK.aB kb hR.le;exact⟨hR.call kb,RG.look G hL hk,h1,h2,h3,hk,⟨ad q1,ad q2⟩,Nat.le_refl _,by omega,by omega,by omega,by omega,by omega⟩
theorem bK.LD{C:Rc δ}(h:bK C F W){b:Value}(hk:Bk W k #[a,b] 121)(hf:k≠C.gf)(u v:Value):bK C F ((W.setCell ⟨k,0,M⟩ u).setCell ⟨k,1,M⟩ v) :=
 h.own (k:=k) (fun q=>by have:=h.aT;rw[<-q,hk]at this;cases this) hf (fun q=>by obtain⟨c,hc,_⟩:=h.gs;rw[<-q,hk]at hc;cases hc) (fun e q=>by rw[hk]at q;cases q) (fun j hj=>by rw[Below.heap_setCell _ _ _ _ hj,Below.heap_setCell _ _ _ _ hj])
theorem tw.ret{C:Rc δ}(h:tw C g cap ns w k6 k8 k9 a0 a1 F W)(u0 u1 v0 v1:Value):bK C F ((((W.setCell ⟨k8,0,M⟩ u0).setCell ⟨k8,1,M⟩ u1).setCell ⟨k9,0,M⟩ v0).setCell ⟨k9,1,M⟩ v1)/\RK C w ((((W.setCell ⟨k8,0,M⟩ u0).setCell ⟨k8,1,M⟩ u1).setCell ⟨k9,0,M⟩ v0).setCell ⟨k9,1,M⟩ v1) /\
  (((((W.setCell ⟨k8,0,M⟩ u0).setCell ⟨k8,1,M⟩ u1).setCell ⟨k9,0,M⟩ v0).setCell ⟨k9,1,M⟩ v1).cell? ⟨k8,0,M⟩=Y u0/\((((W.setCell ⟨k8,0,M⟩ u0).setCell ⟨k8,1,M⟩ u1).setCell ⟨k9,0,M⟩ v0).setCell ⟨k9,1,M⟩ v1).cell? ⟨k8,1,M⟩=Y u1/\((((W.setCell ⟨k8,0,M⟩ u0).setCell ⟨k8,1,M⟩ u1).setCell ⟨k9,0,M⟩ v0).setCell ⟨k9,1,M⟩ v1).cell? ⟨k9,0,M⟩=Y v0/\((((W.setCell ⟨k8,0,M⟩ u0).setCell ⟨k8,1,M⟩ u1).setCell ⟨k9,0,M⟩ v0).setCell ⟨k9,1,M⟩ v1).cell? ⟨k9,1,M⟩=Y v1) /\
  (∀v s,dM W v s->dM ((((W.setCell ⟨k8,0,M⟩ u0).setCell ⟨k8,1,M⟩ u1).setCell ⟨k9,0,M⟩ v0).setCell ⟨k9,1,M⟩ v1) v s)/\((W.setCell ⟨k8,0,M⟩ u0).setCell ⟨k8,1,M⟩ u1).heap[k9]?=Y (L #[U false,Z M 0 0] 121) /\
  ∀j o,j≠k8->j≠k9->((W.setCell ⟨k8,0,M⟩ u0).setCell ⟨k8,1,M⟩ u1).cell? ⟨j,o,M⟩=W.cell? ⟨j,o,M⟩/\((((W.setCell ⟨k8,0,M⟩ u0).setCell ⟨k8,1,M⟩ u1).setCell ⟨k9,0,M⟩ v0).setCell ⟨k9,1,M⟩ v1).cell? ⟨j,o,M⟩=W.cell? ⟨j,o,M⟩:=by
 obtain⟨o1,o2⟩:=h.old;have l8:=h.l8;have l9:=h.l9;have hle:C.base<=w.heap.size:=Nat.le_trans h.ra.lf (by omega);have e8:=ah (ah h.r8 0 u0) 1 u1;have e9:((W.setCell ⟨k8,0,M⟩ u0).setCell ⟨k8,1,M⟩ u1).heap[k9]?=Y (L #[U false,Z M 0 0] 121):=by rw[Below.heap_setCell _ _ _ _ h.n89.symm,Below.heap_setCell _ _ _ _ h.n89.symm];exact h.r9
 have f9:=ah (ah e9 0 v0) 1 v1;have f8:((((W.setCell ⟨k8,0,M⟩ u0).setCell ⟨k8,1,M⟩ u1).setCell ⟨k9,0,M⟩ v0).setCell ⟨k9,1,M⟩ v1).heap[k8]?=Y (L #[u0,u1] 121):=by rw[Below.heap_setCell _ _ _ _ h.n89,Below.heap_setCell _ _ _ _ h.n89,e8];rfl
 refine⟨(h.ra.LD h.r8 (by omega) u0 u1).LD e9 (by omega) v0 v1,(((h.bF.own l8 hle _ _).own l8 hle _ _).own l9 hle _ _).own l9 hle _ _,⟨cell_of f8 0 rfl,cell_of f8 1 rfl,cell_of f9 0 rfl,cell_of f9 1 rfl⟩,fun v s hs=>(hs.put h.r8 u0 u1).put e9 v0 v1,e9,fun j o h1 h2=>?_⟩;have q:((W.setCell ⟨k8,0,M⟩ u0).setCell ⟨k8,1,M⟩ u1).cell? ⟨j,o,M⟩=W.cell? ⟨j,o,M⟩:=by rw[cC (.inl h1),cC (.inl h1)]
 exact⟨q,by rw[cC (.inl h2),cC (.inl h2)];exact q⟩
def dq(π:ar δ)(k:Nat)(x y:Sm)(ct:Ct)(s:dw):List (eU T) × dw × dw:=Sp.dq (Dm π) k x y ct s
theorem QI(π:ar δ)(k:Nat)(x y:Sm)(ct:Ct)(e:dS){es:List (eU T)}(h:dt π x ct e=(es,M)):dq π k x y ct (Y e)=(es,M,M):=by have q:Sp.dt (Dm π) x ct e=(es,M):=h;unfold dq Sp.dq;simp only;rw[q];rfl
theorem QS(π:ar δ)(k:Nat)(x y:Sm)(ct:Ct)(e:dS){es dp:List (eU T)}{a:T}(h:dt π x ct e=(es,Y a))(h2:dt π y (Sp.cS x ct) e=(dp,M)):dq π k x y ct (Y e)=(es ++ dp,M,M):=by have q:Sp.dt (Dm π) x ct e=(es,Y a):=h;have q2:Sp.dt (Dm π) y (Sp.cS x ct) e=(dp,M):=h2;unfold dq Sp.dq;simp only;rw[q];simp only;rw[q2];rfl
theorem QN(π:ar δ)(k:Nat)(x y:Sm)(ct:Ct)(e:dS){es dp:List (eU T)}{a b:T}(h:dt π x ct e=(es,Y a))(h2:dt π y (Sp.cS x ct) e=(dp,Y b)):dq π k x y ct (Y e)=(es ++ dp,xZ π k x y a b e,xZ π (xE k) x y a b e):=by have q:Sp.dt (Dm π) x ct e=(es,Y a):=h;have q2:Sp.dt (Dm π) y (Sp.cS x ct) e=(dp,Y b):=h2;unfold dq Sp.dq;simp only;rw[q];simp only;rw[q2];rfl
def Zc(C:Rc δ)(π:ar δ)(g cap:Nat)(ns:List aH)(rel:Nat)(x y:Sm)(k:Nat)(ct:Ct):Prop:=∀(F:jr) (s:dw) (sv:Value) (rec:Bool) (w:Wd),bK C F w->db C.pb g cap ns w->ew δ s->dM w sv s->cV rec F (dq π rel x y ct s).1 ->
 Calls prog 108 #[ρ (Y ⟨C.b,0,M⟩),I O (k:Nat),sv,U rec] w fun r w'=>∃v1 v2,r=υ (φ #[v1,v2])/\bK C (told π rec F (dq π rel x y ct s).1) w'/\RK C w w'/\dM w' v1 (dq π rel x y ct s).2.1/\dM w' v2 (dq π rel x y ct s).2.2
theorem Lw(π:ar δ){C:Rc δ}(G:Gd C g)(k:Nat)(F:jr)(rec:Bool)(w:Wd)(hR:bK C F w)(hL:db C.pb g cap ns w) :
  Calls prog 108 #[ρ (Y ⟨C.b,0,M⟩),I O (k:Nat),J #[U true,Z M 0 0],U rec] w fun r w'=>∃v1 v2,r=υ (φ #[v1,v2])/\bK C (told π rec F []) w'/\RK C w w'/\dM w' v1 M/\dM w' v2 M:=by
 rw[dV];have HW:=Dv (U true) (Z M 0 0) (ns:=ns) G hR hL;obtain⟨W,hW⟩:∃W,((w.alloc (L #[U true,Z M 0 0] 121)).alloc (L #[U false,Z M 0 0] 121)).alloc (L #[U false,Z M 0 0] 121)=W:=⟨_,rfl⟩;rw[hW]at HW;have H:=hid HW;clear hR hL HW;go_enter func108,ntmps108;go_upto_region 1 with fail;try rw[hW]
 obtain⟨k6,e6⟩:∃k,k=w.heap.size:=⟨_,rfl⟩;obtain⟨k8,e8⟩:∃k,k=w.heap.size+1:=⟨_,rfl⟩;obtain⟨k9,e9⟩:∃k,k=w.heap.size+1+1:=⟨_,rfl⟩;rw[<-e9,<-e8,<-e6];rw[<-e9,<-e8,<-e6]at H;clear hW e6 e8 e9;have b0:=cell_of H.box 0 (v:=U true) rfl;have HG:=hid G;clear G;go_wp2_with fail;have hS:tw C g cap ns w k6 k8 k9 (U true) (Z M 0 0) F W.drew:=H.call HG.out (Below.refl _ _).drew;obtain⟨Oj,NN⟩:k6≠k8/\k6≠k9:=⟨hS.n68,hS.n69⟩;obtain⟨Oh,Ob⟩:k6≠k8/\k6≠k9:=⟨hS.n68,hS.n69⟩;have hA:W.drew.cell? ⟨k6,0,M⟩=Y (U true)/\W.drew.cell? ⟨k6,1,M⟩=Y (Z M 0 0):=⟨cell_of hS.box 0 rfl,cell_of hS.box 1 rfl⟩;have hB:=hA;have HT:=hid (hS.ret (U true) (Z M 0 0) (U true) (Z M 0 0));obtain⟨z0,z1,yV,yO,_⟩:=aR hS.r8;obtain⟨y0,y1,Gu,Gf,_⟩:=aR HT.2.2.2.2.1;refine wp_region_held_drew (S:=fun w':Wd=>w'.cell? ⟨k6,0,M⟩=Y (U true)/\w'.cell? ⟨k6,1,M⟩=Y (Z M 0 0)/\w'.cell? ⟨k6,0,M⟩=Y (U true)/\w'.cell? ⟨k6,1,M⟩=Y (Z M 0 0)) (by kernel_rfl) ⟨hA.1,hA.2,hB.1,hB.2⟩ (fun aa=>?_);have Kk:=hid (And.intro ((HT.2.2.2.2.2 k6 0 Oj NN).1.trans hA.1) (And.intro ((HT.2.2.2.2.2 k6 1 Oj NN).1.trans hA.2) (And.intro ((HT.2.2.2.2.2 k6 0 Oh Ob).1.trans hB.1) ((HT.2.2.2.2.2 k6 1 Oh Ob).1.trans hB.2))));have KG:=hid (And.intro ((HT.2.2.2.2.2 k6 0 Oj NN).2.trans hA.1) (And.intro ((HT.2.2.2.2.2 k6 1 Oj NN).2.trans hA.2) (And.intro ((HT.2.2.2.2.2 k6 0 Oh Ob).2.trans hB.1) ((HT.2.2.2.2.2 k6 1 Oh Ob).2.trans hB.2))));clear hA hB Oj NN Oh Ob;generalize W.drew=V at *;refine tk 0 (J #[U true,Z M 0 0]) rfl (fun w' h=>by have q:=h.1;have q2:=h.2.1;go_simp) aa ?_;refine tk 1 (J #[U true,Z M 0 0]) rfl (fun w' h=>by have q:=h.2.2.1;have q2:=h.2.2.2;go_simp) aa ?_;refine bD 2 fun K hK=>?_
 simp only[bp,fB];go_simp;refine hK.out _ _ Kk.out (fun _=>?_);clear hK K;refine bD 3 fun K hK=>?_
 simp only[bp];go_simp;refine hK.out _ _ KG.out (fun _=>?_);clear hK K;refine wpAnyH_done (by kernel_rfl) ?_ _;go_wp2_with fail;exact bodyPost_ret (v:=φ #[J #[U true,Z M 0 0],J #[U true,Z M 0 0]]) (by simp[results,results108,go_sem,HT.2.2.1.1,HT.2.2.1.2.1,HT.2.2.1.2.2.1,HT.2.2.1.2.2.2]) rfl ⟨_,_,rfl,HT.1,HT.2.1,rfl,rfl⟩
end
end RG
end
section
namespace RG
open Go.RowKit W
variable {δ : Bool}
section
variable{g cap n k ge a:Nat}
variable{ns:List aH}
variable{d:aH}
theorem Fy{C:Rc δ}(π:ar δ){n:Nat}(G:Gd C g)(ct:Ct)(hd:ns[k]?=Y d)(hk:d.kind=2)(hn:d.n=(n:Int))(hm:n<8):jv C π g cap ns (.name n) k ct:=by
 intro F e ge rec w hR hL he mL hr;have HW:=re G hR hL mL d;obtain⟨W,hW⟩:∃W,wW w ge d=W:=⟨_,rfl⟩;rw[hW]at HW;unfold wW at hW;rw[hk]at hW;have m0:=cell_of hR.aT 0 (v:=ρ (Y ⟨C.pb,0,M⟩)) rfl;have c0:=hL.slice;obtain⟨cR,r0,r1,r2,r3,r4,r5,r6,r7,r8,r9⟩:=hL.facts hd;have h1:=hL.ow;have h2:=hL.hmax;have h3:=hL.hn;have lp:=hL.ltp;have lg:=hL.ltg;have lb:C.b<w.heap.size:=ad hR.aT;rw[hk]at r0;have H:=hid HW;have HE:=hid he;have HG:=hid G;have HK:Hid (d.kind=2/\d.n=(n:Int)):=⟨hk,hn⟩;clear hR hL mL he hr hd HW G hk hn;go_enter func105,ntmps105;go_upto_region 2 with fail;try rw[hW]
 obtain⟨k6,e6⟩:∃k6,k6=w.heap.size:=⟨_,rfl⟩;obtain⟨k8,e8⟩:∃k8,k8=w.heap.size+1:=⟨_,rfl⟩;obtain⟨kn,en⟩:∃kn,kn=w.heap.size+1+1:=⟨_,rfl⟩;rw[<-en,<-e8,<-e6];rw[<-en,<-e8,<-e6]at H;clear hW m0 c0 r0 r1 r2 r3 r4 r5 r6 r7 r8 r9 h1 h2 h3 lp lg lb cR e6 e8 en;have n0:=cell_of H.nd 0 (v:=I O 2) (by rw[<-HK.1];rfl);have n4:=cell_of H.nd 4 (v:=I O (n:Int)) (by rw[<-HK.2];rfl);have b1:=cell_of H.box 1 (v:=Z (Y ⟨ge,0,M⟩) 8 8) rfl;obtain⟨va,vb⟩:=pW e n hm;have z0:=cell_of H.env _ va;have z1:=cell_of H.env _ vb;have HX:Hid (told π rec F (dt π (.name n) ct e).1=F/\PA δ (pA (e ⟨n,hm⟩)) (pB (e ⟨n,hm⟩)) true (dt π (.name n) ct e).2):=⟨dV π rec F,by show PA δ _ _ _ (Y (oE (Dm π) e n));have q:oE (Dm π) e n=e ⟨n,hm⟩:=dif_pos hm;rw[q];exact⟨rfl,rfl,rfl,HE.out _⟩⟩
 have ZX:((n:Nat):Int)<8:=by omega
 clear va vb;generalize pA (e ⟨n,hm⟩)=xa at *;generalize pB (e ⟨n,hm⟩)=xb at *;have h9:=H.out;obtain⟨y0,y1,Gu,Gf,mq⟩:=aR h9.res;have MQ:=hid (mq (I O xa) (I O xb));have HT:=hid (h9.ret (I O xa) (I O xb));clear h9 mq H;go_wp2_with fail;exact bodyPost_ret (v:=φ #[J #[I O xa,I O xb],U true]) (by simp[results,results105,go_sem,MQ.1,MQ.2]) rfl ⟨xa,xb,true,rfl,by rw[HX.1];exact HT.1,HT.2,HX.2⟩
theorem ji.fill{C:Rc δ}{e:dS}{w:Wd}{k6 k8 kn:Nat}{F:jr}{W:Wd}(G:Gd C g)(h:ji C g cap ns e ge d w k6 k8 kn F W){u v:Value}(hk:Bk W k #[u,v] 191)(hl:w.heap.size<=k)(n8:k≠k8)(a b:Value) :
  ji C g cap ns e ge d w k6 k8 kn F ((W.setCell ⟨k,0,M⟩ a).setCell ⟨k,1,M⟩ b)/\((W.setCell ⟨k,0,M⟩ a).setCell ⟨k,1,M⟩ b).heap[k]?=Y (L #[a,b] 191):=by
 obtain⟨l1,l2⟩:=h.lt;have hb:k≠C.b:=fun q=>by have:=h.ra.aT;rw[<-q,hk]at this;cases this
 have hle:C.base<=w.heap.size:=Nat.le_trans h.ra.lf (by omega);have h6:k6≠k:=fun q=>by have:=h.box;rw[q,hk]at this;cases this
 have hn:kn≠k:=fun q=>by have:=h.nd;rw[q,hk]at this;cases this
 have he:ge≠k:=fun q=>by have:=h.env;rw[q,hk]at this;exact Mc _ rfl _ _ this
 have nY:∀j,j≠k->((W.setCell ⟨k,0,M⟩ a).setCell ⟨k,1,M⟩ b).heap[j]?=W.heap[j]?:=fun j hj=>by rw[Below.heap_setCell _ _ _ _ hj,Below.heap_setCell _ _ _ _ hj]
 exact⟨⟨h.ra.own (k:=k) hb (by omega) (by omega) (fun e=>by rw[hk];exact Mc _ rfl _ _) nY,CQ G h.look (((Below.refl _ _).setCell (p:=⟨k,0,M⟩) (Nat.le_trans hle hl) _).setCell (p:=⟨k,1,M⟩) (Nat.le_trans hle hl) _),(nY _ he).trans h.env,(nY _ h6).trans h.box,(nY _ n8.symm).trans h.res,(nY _ hn).trans h.nd,(h.bF.own hl hle _ _).own hl hle _ _,.inr ⟨l1,l2⟩,h.l6,h.l8,h.ln⟩,by rw[ah (ah hk 0 a) 1 b];rfl⟩
theorem Jl{C:Rc δ}(π:ar δ){x:Sm}{a:Nat}(G:Gd C g){ct:Ct}(hd:ns[k]?=Y d)(hk:d.kind=3)(ha:d.a=(a:Int))(IH:jv C π g cap ns x a ct):jv C π g cap ns (.neg x) k ct:=by
 intro F e ge rec w hR hL he mL hr;have HW:=re G hR hL mL d;obtain⟨W,hW⟩:∃W,wW w ge d=W:=⟨_,rfl⟩;rw[hW]at HW;unfold wW at hW;rw[hk]at hW;have m0:=cell_of hR.aT 0 (v:=ρ (Y ⟨C.pb,0,M⟩)) rfl;have c0:=hL.slice;obtain⟨cR,r0,r1,r2,r3,r4,r5,r6,r7,r8,r9⟩:=hL.facts hd;have h1:=hL.ow;have h2:=hL.hmax;have h3:=hL.hn;have lp:=hL.ltp;have lg:=hL.ltg;have lb:C.b<w.heap.size:=ad hR.aT;rw[hk]at r0;have H:=hid HW;have HE:=hid he;have HG:=hid G;have HC:=hid (IH F e ge rec W HW.ra HW.look he HW.env hr);have HK:Hid (d.kind=3/\d.a=(a:Int)):=⟨hk,ha⟩;clear hR hL mL he hr hd HW G hk ha IH;go_enter func105,ntmps105;go_upto_region 2 with fail;try rw[hW]
 obtain⟨k6,e6⟩:∃k6,k6=w.heap.size:=⟨_,rfl⟩;obtain⟨k8,e8⟩:∃k8,k8=w.heap.size+1:=⟨_,rfl⟩;obtain⟨kn,en⟩:∃kn,kn=w.heap.size+1+1:=⟨_,rfl⟩;rw[<-en,<-e8,<-e6];rw[<-en,<-e8,<-e6]at H;clear hW m0 c0 r0 r1 r2 r3 r4 r5 r6 r7 r8 r9 h1 h2 h3 lp lg lb cR e6 e8 en;have n0:=cell_of H.nd 0 (v:=I O 3) (by rw[<-HK.1];rfl);have n1:=cell_of H.nd 1 (v:=I O (a:Int)) (by rw[<-HK.2];rfl);have b0:=cell_of H.box 0 (v:=U false) rfl;have b1:=cell_of H.box 1 (v:=Z (Y ⟨ge,0,M⟩) 8 8) rfl;go_wp2_with fail;refine HC.mono ?_;rintro r w2⟨xa,xb,ok,rfl,r2,k2,o2⟩;have h2:=H.step HG.out r2 k2;have h3:=h2.call HG.out (below_alloc1 w2 (L #[I O xa,I O xb] 191));have hv:=heap_alloc_new w2 (L #[I O xa,I O xb] 191);have XB:w.heap.size<=w2.heap.size/\w2.heap.size≠k8:=⟨h2.bF.below.size,by have:=ad h2.res;omega⟩;clear HC H n0 n1 b0 b1 r2 k2 h2;go_upto_region 10 with fail;have HL:=hid XB
 clear XB;generalize w2.alloc (L #[I O xa,I O xb] 191)=X at *;generalize w2.heap.size=kv at *;cases hx:(dt π x ct e).2 with
 | none =>
  rw[hx]at o2;obtain rfl:ok=false:=o2;have HX:Hid (PA δ xa xb false (dt π (.neg x) ct e).2):=by have q:(dt π (.neg x) ct e).2=(dt π x ct e).2.map (Dm π).neg:=rfl;unfold Hid;rw[q,hx];rfl
  clear hx;obtain⟨v0,v1,_,_,_⟩:=aR hv;have h9:=h3;clear h3 hv;obtain⟨y0,y1,Gu,Gf,mq⟩:=aR h9.res;have MQ:=hid (mq (I O xa) (I O xb));have HT:=hid (h9.ret (I O xa) (I O xb));clear h9 mq;go_wp2_with fail;exact bodyPost_ret (v:=φ #[J #[I O xa,I O xb],U false]) (by simp[results,results105,go_sem,MQ.1,MQ.2]) rfl ⟨xa,xb,false,rfl,HT.1,HT.2,HX.out⟩
 | some x0 =>
  rw[hx]at o2;obtain⟨rfl,rfl,rfl,wx⟩:=o2;have HX:Hid (PA δ (pA (jd δ x0)) (pB (jd δ x0)) true (dt π (.neg x) ct e).2):=by have q:(dt π (.neg x) ct e).2=(dt π x ct e).2.map (Dm π).neg:=rfl;unfold Hid;rw[q,hx];exact⟨rfl,rfl,rfl,(Kr π).wneg _ wx⟩
  have HM:Hid (∀w:Wd,Calls _ _ _ _ _):=fun w=>h3.ra.bY.minus wx w
  generalize pA (jd δ x0)=ya at *;generalize pB (jd δ x0)=yb at *;clear hx wx;have HS:=hid (And.intro h3 hv);obtain⟨v0,v1,_,_,_⟩:=aR hv;clear h3 hv;go_wp2_with fail;have hS:ji C g cap ns e ge d w k6 k8 kn (told π rec F (dt π x ct e).1) X.drew/\X.drew.heap[kv]?=Y (L #[I O (pA x0),I O (pB x0)] 191):=⟨HS.1.call HG.out (Below.refl _ _).drew,HS.2⟩;refine wp_region_held_drew (S:=fun w':Wd=>ji C g cap ns e ge d w k6 k8 kn (told π rec F (dt π x ct e).1) w'/\∃u v,w'.heap[kv]?=Y (L #[u,v] 191)) (by kernel_rfl) ⟨hS.1,_,_,hS.2⟩ (fun aa=>?_);generalize X.drew=V at *;refine tq 0 (ρ (Y ⟨C.b,0,M⟩)) aa ?_;refine tq 1 (ρ (Y ⟨C.b,0,M⟩)) aa ?_;refine tq 2 (ρ (Y ⟨C.b,1,M⟩)) aa ?_;refine tq 3 (ρ (Y ⟨C.b,1,M⟩)) aa ?_;refine tk 4 (I O (dn δ)) rfl (fun w' h=>by have q:=h.1.ra.cells.1;go_simp) aa ?_;obtain⟨v0',v1',_,_,_⟩:=aR hS.2;refine bD 5 fun K hK=>?_
  simp only[bp,fB];go_simp;refine hK.out _ _ aa (fun _=>?_);clear hK K;refine bD 6 fun K hK=>?_
  simp only[bp];go_simp;refine(HM.out _).mono ?_;rintro r w8⟨rfl,b8⟩;have yR:=(b8.block _ (ad hS.2)).trans hS.2;have h8:=hS.1.call HG.out b8;obtain⟨q0,q1,yJ,yH,_⟩:=aR yR;have h9:=h8.fill HG.out yR HL.1 HL.2 (I O ya) (I O yb);clear b8 v0' v1' v0 v1;go_wp2_with fail;refine hK.out _ _ ⟨h8,_,_,yR⟩ (fun _=>?_);clear hK K;refine bD 7 fun K hK=>?_
  simp only[bp];go_simp;refine hK.out _ _ ⟨h9.1,_,_,h9.2⟩ (fun _=>?_);clear hK K;refine wpAnyH_done (by kernel_rfl) ?_ _;obtain⟨h9,hv⟩:=h9;obtain⟨v0,v1,_,_,_⟩:=aR hv;clear q0 q1 yJ yH yR h8 aa hS HS;generalize (w8.setCell ⟨kv,0,M⟩ (I O ya)).setCell ⟨kv,1,M⟩ (I O yb)=κ at *;obtain⟨y0,y1,Gu,Gf,mq⟩:=aR h9.res;have MQ:=hid (mq (I O ya) (I O yb));have HT:=hid (h9.ret (I O ya) (I O yb));clear h9 mq;go_wp2_with fail;exact bodyPost_ret (v:=φ #[J #[I O ya,I O yb],U true]) (by simp[results,results105,go_sem,MQ.1,MQ.2]) rfl ⟨ya,yb,true,rfl,HT.1,HT.2,HX.out⟩
end
end RG
end
section
namespace RG
open Go.RowKit W
variable {δ : Bool}
section
variable{g cap op lo:Nat}
variable{ns:List aH}
def pV(op:Nat)(q:Int)(bad:Bool):List (eU T):=if 3<=op then [.site q bad] else []
theorem vz(π:ar δ)(k:Nat)(x y:Sm)(ct:Ct)(s:dS)(es:List (eU T))(h:dt π x ct s=(es,M)):dt π (.bin k x y) ct s=(es,M):=Sp.vz (Dm π) k x y ct s es h
theorem sR(π:ar δ)(k:Nat)(x y:Sm)(ct:Ct)(s:dS)(es:List (eU T))(a:T)(dp:List (eU T))(h:dt π x ct s=(es,Y a))(h2:dt π y (if 3<=k then Sp.aJ (Sp.cS x ct) else Sp.cS x ct) s=(dp,M)):dt π (.bin k x y) ct s=(es ++ dp,M):=Sp.sR (Dm π) k x y ct s es a dp h h2
theorem MV(π:ar δ)(k:Nat)(x y:Sm)(ct:Ct)(s:dS)(es:List (eU T))(a:T)(dp:List (eU T))(c:T)(h:dt π x ct s=(es,Y a))(h2:dt π y (if 3<=k then Sp.aJ (Sp.cS x ct) else Sp.cS x ct) s=(dp,Y c)):dt π (.bin k x y) ct s=(es ++ dp ++ pV k (Sp.cS x ct).2 ((Dm π).nought c),nR δ k a c):=by
 by_cases h3:3<=k
 ·rw[pV,if_pos h3];exact LV (Dm π) k x y ct s es a dp c h h2 h3
 ·rw[pV,if_neg h3,List.append_nil];exact MJ (Dm π) k x y ct s es a dp c h h2 h3
theorem yW{C:Rc δ}(π:ar δ){F:jr}(op:Nat)(q:Int)(bad rec:Bool){w:Wd}(h:bK C F w)(hr:cV rec F (pV op q bad)) :
  Calls prog 109 #[ρ (Y ⟨C.b,0,M⟩),I O (if 3<=op then q else -1),U bad,U rec] w fun r w'=>r=υ (φ #[])/\bK C (told π rec F (pV op q bad)) w'/\RK C w w':=by
 unfold pV at hr ⊢;cases rec with
 | false=>exact(JG C.b _ bad w).mono fun r w' ⟨h1,h2⟩=>⟨h1,by rw[h2];exact h,by rw[h2];exact RK.refl _ _⟩
 | true =>
  by_cases h3:3<=op
  ·simp only[if_pos h3]at hr ⊢
   obtain⟨q0,q1⟩:=hr rfl _ (List.mem_cons_self ..);obtain⟨n,rfl⟩:=Int.eq_ofNat_of_zero_le q0;exact L8 C π F n bad w h (by simpa using q1)
  ·simp only[if_neg h3]
   exact(Jx C.b (-1) bad w (by omega)).mono fun r w' ⟨h1,h2⟩=>⟨h1,by rw[h2];exact h,by rw[h2];exact RK.refl _ _⟩
theorem I7{C:Rc δ}(π:ar δ){x y:Sm}{a b k:Nat}{d:aH}(G:Gd C g){ct:Ct}(hd:ns[k]?=Y d)(hk:d.kind=4)(ha:d.a=(a:Int))(hb:d.b=(b:Int))(hs:d.sign=bo op)(ie:op<5)(Il:d.site=if 3<=op then(Sp.cS x ct).2 else -1)
  (IHx:jv C π g cap ns x a ct) (IHy:jv C π g cap ns y b (if 3<=op then Sp.aJ (Sp.cS x ct) else Sp.cS x ct)):jv C π g cap ns (.bin op x y) k ct:=by
 intro F e ge rec w hR hL he mL hr;have HW:=re G hR hL mL d;obtain⟨W,hW⟩:∃W,wW w ge d=W:=⟨_,rfl⟩;rw[hW]at HW;unfold wW at hW;rw[hk]at hW;have m0:=cell_of hR.aT 0 (v:=ρ (Y ⟨C.pb,0,M⟩)) rfl;have c0:=hL.slice;obtain⟨cR,r0,r1,r2,r3,r4,r5,r6,r7,r8,r9⟩:=hL.facts hd;have h1:=hL.ow;have h2:=hL.hmax;have h3:=hL.hn;have lp:=hL.ltp;have lg:=hL.ltg;have lb:C.b<w.heap.size:=ad hR.aT;rw[hk]at r0;have H:=hid HW;have HE:=hid he;have HG:=hid G;obtain⟨es,vx,ex⟩:∃(es:List (eU T)) (vx:Option T),dt π x ct e=(es,vx):=⟨_,_,rfl⟩;obtain⟨dp,vy,ey⟩:∃(dp:List (eU T)) (vy:Option T),dt π y (if 3<=op then Sp.aJ (Sp.cS x ct) else Sp.cS x ct) e=(dp,vy):=⟨_,_,rfl⟩;have HR:=hid hr;have EX:=hid ex;have EY:=hid ey;have hrx:cV rec F es:=by
  cases vx with
  | none=>rw[vz π op x y ct e es ex]at hr;exact hr
  | some x0 =>
   cases vy with
   | none =>rw[sR π op x y ct e es x0 dp ex ey]at hr;exact cV.left (es':=dp) hr
   | some y0 =>rw[MV π op x y ct e es x0 dp y0 ex ey]at hr;exact cV.left (es':=dp) (cV.left (es':=pV op (Sp.cS x ct).2 ((Dm π).nought y0)) hr)
 have Xb:=hid IHy;have HC:=IHx F e ge rec W HW.ra HW.look he HW.env (by rw[ex];exact hrx);rw[ex]at HC;have Ej:=hid HC;have HK:Hid (d.kind=4/\d.a=(a:Int)/\d.b=(b:Int)/\d.sign=bo op/\d.site=if 3<=op then(Sp.cS x ct).2 else -1):=⟨hk,ha,hb,hs,Il⟩;clear hR hL mL he hr hd HW G hk ha hb hs Il IHx IHy HC hrx ex ey;go_enter func105,ntmps105;go_upto_region 2 with fail;try rw[hW]
 obtain⟨k6,e6⟩:∃k6,k6=w.heap.size:=⟨_,rfl⟩;obtain⟨k8,e8⟩:∃k8,k8=w.heap.size+1:=⟨_,rfl⟩;obtain⟨kn,en⟩:∃kn,kn=w.heap.size+1+1:=⟨_,rfl⟩;rw[<-en,<-e8,<-e6];rw[<-en,<-e8,<-e6]at H;clear hW m0 c0 r0 r1 r2 r3 r4 r5 r6 r7 r8 r9 h1 h2 h3 lp lg lb cR e6 e8 en;have n0:=cell_of H.nd 0 (v:=I O 4) (by rw[<-HK.1];rfl);have n1:=cell_of H.nd 1 (v:=I O (a:Int)) (by rw[<-HK.2.1];rfl);have b0:=cell_of H.box 0 (v:=U false) rfl;have b1:=cell_of H.box 1 (v:=Z (Y ⟨ge,0,M⟩) 8 8) rfl;go_wp2_with fail;refine Ej.mono ?_;rintro r w2⟨xa,xb,ok,rfl,r2,k2,o2⟩;have h2:=H.step HG.out r2 k2;have h3:=h2.call HG.out (below_alloc1 w2 (L #[I O xa,I O xb] 191));have hv:=heap_alloc_new w2 (L #[I O xa,I O xb] 191);have XB:w.heap.size<=w2.heap.size/\w2.heap.size≠k8:=⟨h2.bF.below.size,by have:=ad h2.res;omega⟩;clear Ej H n0 n1 b0 b1 r2 k2 h2;go_upto_region 15 with fail;have HL:=hid XB
 clear XB;generalize w2.alloc (L #[I O xa,I O xb] 191)=X at *;generalize w2.heap.size=kx at *;cases vx with
 | none =>
  obtain rfl:ok=false:=o2;have HX:Hid (dt π (.bin op x y) ct e=(es,M)):=by exact vz π op x y ct e es EX.out
  obtain⟨v0,v1,_,_,_⟩:=aR hv;have h9:=h3;clear h3 hv;obtain⟨y0,y1,Gu,Gf,mq⟩:=aR h9.res;have MQ:=hid (mq (I O xa) (I O xb));have HT:=hid (h9.ret (I O xa) (I O xb));clear h9 mq;go_wp2_with fail;exact bodyPost_ret (v:=φ #[J #[I O xa,I O xb],U false]) (by simp[results,results105,go_sem,MQ.1,MQ.2]) rfl ⟨xa,xb,false,rfl,by rw[HX.out];exact HT.1,HT.2,by rw[HX.out];rfl⟩
 | some x0 =>
  obtain⟨rfl,rfl,rfl,wx⟩:=o2;have hry:cV rec (told π rec F es) dp:=by
   have q:=HR.out;cases vy with
   | none =>rw[sR π op x y ct e es x0 dp EX.out EY.out]at q;exact cV.right (es:=es) (es':=dp) q
   | some y0 =>rw[MV π op x y ct e es x0 dp y0 EX.out EY.out]at q;exact cV.right (es:=es) (es':=dp) (cV.left (es':=pV op (Sp.cS x ct).2 ((Dm π).nought y0)) q)
  have HC:=Xb.out (told π rec F es) e ge rec X h3.ra h3.look HE.out h3.env (by rw[EY.out];exact hry);rw[EY.out]at HC;have Ej:=hid HC;have n2:=cell_of h3.nd 2 (v:=I O (b:Int)) (by rw[<-HK.2.2.1];rfl);have b0:=cell_of h3.box 0 (v:=U false) rfl;have b1:=cell_of h3.box 1 (v:=Z (Y ⟨ge,0,M⟩) 8 8) rfl;have H:=hid (And.intro h3 hv);have YX:=hid wx;clear HC hry h3 hv wx;go_wp2_with fail;refine Ej.mono ?_;rintro r w4⟨ya,yb,ok,rfl,r4,k4,o4⟩;have h4:=H.1.step HG.out r4 k4;have hvx:w4.heap[kx]?=Y (L #[I O (pA x0),I O (pB x0)] 191):=by obtain⟨l1,l2⟩:=H.1.lt;have:=HL.1;exact(k4.others kx (ad H.2) (by omega) (by omega)).trans H.2
  have bw:=below_alloc1 w4 (L #[I O ya,I O yb] 191);have h5:=h4.call HG.out bw;have TW:=(bw.block _ (ad hvx)).trans hvx;have zX:=heap_alloc_new w4 (L #[I O ya,I O yb] 191);have HLY:=hid h4.bF.below.size;clear Ej H n2 b0 b1 r4 k4 h4 hvx bw;go_upto_region 18 with fail;generalize w4.alloc (L #[I O ya,I O yb] 191)=κ at *
  generalize w4.heap.size=ky at *;cases vy with
  | none =>
   obtain rfl:ok=false:=o4;have HX:Hid (dt π (.bin op x y) ct e=(es ++ dp,M)):=by exact sR π op x y ct e es x0 dp EX.out EY.out
   obtain⟨v0,v1,_,_,_⟩:=aR zX;have h9:=h5;clear h5 zX TW;obtain⟨y0,y1,Gu,Gf,mq⟩:=aR h9.res;have MQ:=hid (mq (I O ya) (I O yb));have HT:=hid (h9.ret (I O ya) (I O yb));clear h9 mq;go_wp2_with fail;exact bodyPost_ret (v:=φ #[J #[I O ya,I O yb],U false]) (by simp[results,results105,go_sem,MQ.1,MQ.2]) rfl ⟨ya,yb,false,rfl,by rw[HX.out];exact(aF π rec F es dp).symm ▸ HT.1,HT.2,by rw[HX.out];rfl⟩
  | some y0 =>
   obtain⟨rfl,rfl,rfl,wy⟩:=o4;have HX:Hid (dt π (.bin op x y) ct e=(es ++ dp ++ pV op (Sp.cS x ct).2 ((Dm π).nought y0),nR δ op x0 y0)):=MV π op x y ct e es x0 dp y0 EX.out EY.out;have hrs:cV rec (told π rec (told π rec F es) dp) (pV op (Sp.cS x ct).2 ((Dm π).nought y0)):=by have q:=HR.out;rw[HX.out]at q;rw[<-aF];exact cV.right (es:=es ++ dp) q
   have yL:=hid hrs;have aan:Hid (∀w:Wd,Calls _ _ _ _ _):=fun w=>h5.ra.bY.has wy w
   have WH:Hid (∀w:Wd,Calls _ _ _ _ _):=fun w=>h5.ra.bY.work op ie YX.out wy w
   have HS:=hid (And.intro h5 (And.intro TW zX));clear hrs wy h5 TW zX;go_wp2_with fail;have hS:ji C g cap ns e ge d w k6 k8 kn (told π rec (told π rec F es) dp) κ.drew/\κ.drew.heap[kx]?=Y (L #[I O (pA x0),I O (pB x0)] 191)/\κ.drew.heap[ky]?=Y (L #[I O (pA y0),I O (pB y0)] 191):=⟨HS.1.call HG.out (Below.refl _ _).drew,HS.2⟩;clear HS;refine wp_region_held_drew (S:=fun w':Wd=>ji C g cap ns e ge d w k6 k8 kn (told π rec (told π rec F es) dp) w'/\w'.heap[kx]?=Y (L #[I O (pA x0),I O (pB x0)] 191)/\w'.heap[ky]?=Y (L #[I O (pA y0),I O (pB y0)] 191)) (by kernel_rfl) hS (fun aa=>?_);clear hS;generalize κ.drew=V at *;refine tk 0 (J #[I O (pA y0),I O (pB y0)]) rfl (fun w' h=>by have q:=cell_of h.2.2 0 (v:=I O (pA y0)) rfl;have q2:=cell_of h.2.2 1 (v:=I O (pB y0)) rfl;go_simp) aa ?_;refine tq 1 (ρ (Y ⟨C.b,0,M⟩)) aa ?_;refine tq 2 (ρ (Y ⟨C.b,0,M⟩)) aa ?_;refine tq 3 (ρ (Y ⟨C.b,1,M⟩)) aa ?_;refine tq 4 (ρ (Y ⟨C.b,1,M⟩)) aa ?_;refine tk 5 (I O (dn δ)) rfl (fun w' h=>by have q:=h.1.ra.cells.1;go_simp) aa ?_;refine bD 6 fun K hK=>?_
   simp only[bp,fB];go_simp;refine(aan.out _).mono ?_;rintro r w8⟨rfl,b8⟩;have h8:ji C g cap ns e ge d w k6 k8 kn (told π rec (told π rec F es) dp) w8/\w8.heap[kx]?=Y (L #[I O (pA x0),I O (pB x0)] 191)/\w8.heap[ky]?=Y (L #[I O (pA y0),I O (pB y0)] 191):=⟨aa.1.call HG.out b8,(b8.block _ (ad aa.2.1)).trans aa.2.1,(b8.block _ (ad aa.2.2)).trans aa.2.2⟩;clear aa b8;have HKN:=hid (yW π op (Sp.cS x ct).2 ((Dm π).nought y0) rec h8.1.ra yL.out);generalize KH:iX δ y0=bd;rw[show(Dm π).nought y0=bd from KH]at HKN HX;have n7:=cell_of h8.1.nd 7 (v:=I O (if 3<=op then(Sp.cS x ct).2 else -1)) (by rw[<-HK.2.2.2.2];rfl);clear KH;generalize (if 3<=op then(Sp.cS x ct).2 else -1)=sq at *;go_wp2_with fail;refine hK.out _ _ h8 (fun _=>?_);clear hK K;refine bD 7 fun K hK=>?_
   simp only[bp];go_simp;refine hK.out _ _ h8 (fun _=>?_);clear hK K;refine wpAnyH_done (by kernel_rfl) ?_ _;have H8:=hid h8;clear h8;go_wp2_with fail;refine HKN.mono ?_;rintro r wk⟨rfl,rk,kk⟩;have kM:=H8.1.step HG.out rk kk;obtain⟨l1,l2⟩:=H8.1.lt;have lE:wk.heap[kx]?=_:=(kk.others kx (ad H8.2.1) (by have:=HL.1;omega) (by have:=HL.1;omega)).trans H8.2.1;have mM:wk.heap[ky]?=_:=(kk.others ky (ad H8.2.2) (by have:=HLY.out;omega) (by have:=HLY.out;omega)).trans H8.2.2;have m1:=kM.ra.cells.1;obtain⟨WL,Xm,_,_,_⟩:=aR lE;obtain⟨VZ,WN,_,_,_⟩:=aR mM;have n6:=cell_of kM.nd 6 (v:=χ ⟨(bo op).toArray⟩) (by rw[<-HK.2.2.2.1];rfl);have H9:=hid kM;clear HKN H8 rk kk kM l1 l2 lE mM n7
   rcases Hj δ with⟨_,q1,q2⟩ | ⟨_,q1,q2⟩
   all_goals
    rw[q1]at m1;rw[q2]at WH;clear q1 q2;go_wp2_with fail;refine(WH.out _).mono ?_;rintro r wz⟨za,zb,zo,rfl,oz,bz⟩;have h9:=H9.call HG.out bz;have HO:=hid oz;clear m1 WL Xm VZ WN n6 bz oz H9;obtain⟨y0,y1,Gu,Gf,mq⟩:=aR h9.res;have MQ:=hid (mq (I O za) (I O zb));have HT:=hid (h9.ret (I O za) (I O zb));clear h9 mq;go_wp2_with fail;exact bodyPost_ret (v:=φ #[J #[I O za,I O zb],U zo]) (by simp[results,results105,go_sem,MQ.1,MQ.2]) rfl ⟨za,zb,zo,rfl,by rw[HX.out];have q:=HT.1;rw[<-aF,<-aF,<-List.append_assoc]at q;exact q,HT.2,by rw[HX.out];exact HO.out⟩
theorem pZ.cS:∀{x:Sm} {k:Nat} {ct aX:Ct},pZ ns lo x k ct aX->aX=Sp.cS x ct
 | .num _,_,_,_,⟨_,_,_,_,_,_,h⟩=>h
 | .name _,_,_,_,⟨_,_,_,_,_,_,h⟩=>h
 | .neg x,_,_,_,⟨_,_,_,_,_,_,h⟩=>pZ.cS (x:=x) h
 | .bin op x y,_,_,_,⟨_,_,_,_,_,_,_,_,_,_,_,_,h1,_,h2⟩=>by have e1:=pZ.cS h1;have e2:=pZ.cS h2;rw[e1]at e2;exact e2
theorem gV{C:Rc δ}(π:ar δ)(G:Gd C g):∀{x:Sm} {k:Nat} {ct aX:Ct},pZ ns lo x k ct aX->jv C π g cap ns x k ct
 | .num _,_,ct,_,⟨_,h1,h2,h3,h4,_⟩=>JT π G ct h1 h2 h3 h4
 | .name _,_,ct,_,⟨_,h1,h2,h3,h4,_⟩=>Fy π G ct h1 h2 h3 h4
 | .neg x,_,_,_,⟨_,_,h1,h2,h3,_,h5⟩=>Jl π G h1 h2 h3 (gV π G h5)
 | .bin op x y,_,ct,_,⟨d,a,bb,ct1,h1,h2,h3,h4,h5,h6,_,_,h9,gB,uC⟩=>by have e:=pZ.cS h9;subst e;exact I7 π G h1 h2 h3 h4 h5 h6 gB (gV π G h9) (gV π G uC)
end
end RG
end
end Go.Proofs.YtiopfihjmkfdmaaGreatDoor
