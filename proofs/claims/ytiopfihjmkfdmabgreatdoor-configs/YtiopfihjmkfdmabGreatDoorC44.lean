import Derived.Test.YtiopfihjmkfdmabGreatDoorC18
import Derived.Deep.CutRange
namespace Go.Proofs.YtiopfihjmkfdmabGreatDoor
open Go.Value renaming int->I,agg->J,slice->Z,bool->U,pointer->ρ,tuple->φ
open Go.IntKind renaming i64->O
open Option renaming some->Y,none->M
open Go.Obj renaming cells->L
open Go.Ending renaming returned->υ
open Go.Proofs.Tryz Sp
open Go.RowKit
set_option maxRecDepth 100000
set_option maxHeartbeats 16000000
section
variable{w W W':Wd}
variable{a b c d:Int}
structure Kc(w:Wd)(a b c d:Int)(W:Wd):Prop where
 o:W.heap[w.heap.size]?=Y (L #[] 87)
 x:W.heap[w.heap.size+1]?=Y (L #[I O a,I O b] 85)
 y:W.heap[w.heap.size+1+1]?=Y (L #[I O c,I O d] 85)
 z:∃p q,W.heap[w.heap.size+1+1+1]?=Y (L #[p,q] 85)
 b:ω w W
theorem Kc.call(h:Kc w a b c d W)(k:ω W W'):Kc w a b c d W':=by obtain⟨p,q,hz⟩:=h.z;exact⟨(k.block _ (ah h.o)).trans h.o,(k.block _ (ah h.x)).trans h.x,(k.block _ (ah h.y)).trans h.y,⟨p,q,(k.block _ (ah hz)).trans hz⟩,h.b.trans (k.mono h.b.size)⟩
theorem Kc.cells(h:Kc w a b c d W):W.cell? ⟨w.heap.size+1,0,M⟩=Y (I O a)/\W.cell? ⟨w.heap.size+1,1,M⟩=Y (I O b)/\W.cell? ⟨w.heap.size+1+1,0,M⟩=Y (I O c)/\W.cell? ⟨w.heap.size+1+1,1,M⟩=Y (I O d):=⟨cell_of h.x 0 rfl,cell_of h.x 1 rfl,cell_of h.y 0 rfl,cell_of h.y 1 rfl⟩
theorem Kc.put(h:Kc w a b c d W)(p q:Value):Kc w a b c d ((W.setCell ⟨w.heap.size+1+1+1,0,M⟩ p).setCell ⟨w.heap.size+1+1+1,1,M⟩ q):=by
 obtain⟨u,v,hz⟩:=h.z;have iO:∀j,j≠w.heap.size+1+1+1->((W.setCell ⟨w.heap.size+1+1+1,0,M⟩ p).setCell ⟨w.heap.size+1+1+1,1,M⟩ q).heap[j]?=W.heap[j]?:=λj hj=>by rw[Æ _ _ _ _ hj,Æ _ _ _ _ hj]
 exact⟨(iO _ À).trans h.o,(iO _ À).trans h.x,(iO _ À).trans h.y,⟨_,_,ai (ai hz 0 p) 1 q⟩,(h.b.setCell (p:=⟨w.heap.size+1+1+1,0,M⟩) (by show w.heap.size<=w.heap.size+1+1+1;omega) _).setCell (p:=⟨w.heap.size+1+1+1,1,M⟩) (by show w.heap.size<=w.heap.size+1+1+1;omega) _⟩
theorem J3(w:Wd)(a b c d:Int):Kc w a b c d ((((w.alloc (L #[] 87)).alloc (L #[I O a,I O b] 85)).alloc (L #[I O c,I O d] 85)).alloc (L #[I O 0,I O 0] 85)):=by obtain⟨h1,h2,h3,h4,hb⟩:=cN (w:=w) (o1:=L #[] 87) (o2:=L #[I O a,I O b] 85) (o3:=L #[I O c,I O d] 85) (o4:=L #[I O 0,I O 0] 85) Å;exact⟨h1,h2,h3,⟨_,_,h4⟩,hb⟩
theorem PY(y:Sp.Cg)(w:Wd) :
  Calls prog 288 #[J #[I O 0,I O 0],J #[I O (y.m:Nat),I O y.r]] w λe w'=>e=υ (J #[I O 0,I O 0])/\ω w w':=by
 generalize y.r=d;generalize ((y.m:Nat):Int)=c;have eX:∀w,(Op.equalIn 10000 85 (J #[I O 0,I O 0]) (J #[I O 0,I O 0])).run prog w=.ok true w:=λw=>by rw[Vg];rfl
 go_enter func288,ntmps288;go_wp2_with fail;go_returns;exact⟨rfl,by go_grown⟩
theorem Qe(x:Sp.Cg)(w:Wd)(hx:¬ (x.m=0/\x.r=0)) :
  Calls prog 288 #[J #[I O (x.m:Nat),I O x.r],J #[I O 0,I O 0]] w λe w'=>e=υ (J #[I O 0,I O 0])/\ω w w':=by
 have QZ:¬(((x.m:Nat):Int)=0/\x.r=0):=À;clear hx;generalize x.r=b at*;generalize ((x.m:Nat):Int)=a at*;have eX:∀w,(Op.equalIn 10000 85 (J #[I O a,I O b]) (J #[I O 0,I O 0])).run prog w=.ok false w:=λw=>by rw[Vg,decide_eq_false QZ]
 have eY:∀w,(Op.equalIn 10000 85 (J #[I O 0,I O 0]) (J #[I O 0,I O 0])).run prog w=.ok true w:=λw=>by rw[Vg];rfl
 clear QZ;go_enter func288,ntmps288;go_wp2_with fail;go_returns;exact⟨rfl,by go_grown⟩
def AX(x y:Sp.Cg):Sp.Cg:=if(x.m=0/\x.r=0)∨(y.m=0/\y.r=0) then⟨0,0⟩ else dR (Nat.gcd (Nat.gcd (x.m*y.m) ((x.m:Int)*y.r).natAbs) ((y.m:Int)*x.r).natAbs) (x.r*y.r)
theorem VF(x y:Sp.Cg)(w:Wd)(tW:x.m<=65536)(py:x.r.natAbs<=65536)(wG:y.m<=65536)(xU:y.r.natAbs<=65536) :
  Calls prog 288 #[J #[I O (x.m:Nat),I O x.r],J #[I O (y.m:Nat),I O y.r]] w λe w'=>e=υ (J #[I O ((AX x y).m:Nat),I O (AX x y).r])/\ω w w':=by
 unfold AX;by_cases hx:x.m=0/\x.r=0
 .rw[Á (.inl hx),hx.1,hx.2]
  exact PY y w
 .by_cases hy:y.m=0/\y.r=0
  .rw[Á (.inr hy),hy.1,hy.2]
   exact Qe x w hx
  .rw[Â (λh=>h.elim hx hy)]
   exact Er x y w tW py wG xU hx hy
theorem jQ{x:Sp.Cg}(h:cV x):x.m<=65536/\x.r.natAbs<=65536:=by rcases h with⟨h1,h2,h3⟩|⟨h1,h2,h3,h4⟩<;>omega
theorem AA(k:Nat)(hk:k<5)(x y:Sp.Cg)(w:Wd)(hx:cV x)(hy:cV y)(hn:¬ (x.m=0/\y.m=0)) :
  Calls prog 283 #[J #[],I O (k:Nat),J #[I O (x.m:Nat),I O x.r],J #[I O (y.m:Nat),I O y.r]] w λe w'=>e=υ (ni (dI k x y))/\ω w w':=by
 obtain⟨tW,py⟩:=jQ hx;obtain⟨wG,xU⟩:=jQ hy;have xQ:Nat.gcd x.m y.m<=65536:=by
  rcases Nat.eq_zero_or_pos x.m with h|h
  .rw[h,Nat.gcd_zero_left];exact wG
  .exact Nat.le_trans (Nat.gcd_le_left _ h) tW
 have HX:Hid (∀W:Wd,_):=ib x.m x.r;have HY:Hid (∀W:Wd,_):=ib y.m y.r;have HG:Hid (∀(W:Wd) (k:Nat),k=W.heap.size->Calls prog 286 #[Z (Y ⟨k,0,M⟩) 2 2] (W.alloc (L #[I O (x.m:Nat),I O (y.m:Nat)] 2)) λe w'=>e=υ (I O (Nat.gcd x.m y.m:Nat))/\ω W w'):=λW k hk=>by rw[hk];exact yL _ _ W À À
 have HC:Hid (∀(n:Int) (W:Wd),_):=λn W=>rR (Nat.gcd x.m y.m) n W À
 have HM:Hid (∀W:Wd,_):=λW=>VF x y W tW py wG xU
 have HN:Hid (∀W:Wd,_):=λW=>qO 0 W À À
 have HR:Hid (∀W:Wd,_):=λW=>CE x y W tW wG xU
 have EW:Hid (dI k x y=if 3<=k/\y.m=0/\y.r=0 then M else if k=0 then Y (dR (Nat.gcd x.m y.m) (x.r+y.r)) else if k=1 then Y (dR (Nat.gcd x.m y.m) (x.r-y.r)) else if k=2 then Y (AX x y) else if k=3 then Y ⟨1,0⟩ else Y (cF (Nat.gcd (Nat.gcd x.m y.m) y.r.natAbs) x.r)):=by
  unfold Hid
  conv=>lhs;unfold dI
  rw[Â hn];have e:cF (Nat.gcd (Nat.gcd x.m y.m) y.r.natAbs) x.r=kI (Nat.gcd (Nat.gcd x.m y.m) y.r.natAbs) x.r:=by unfold cF;exact Â (λh=>hn (Nat.gcd_eq_zero_iff.1 (Nat.gcd_eq_zero_iff.1 h).1))
  rw[e];unfold AX;split<;>(try rfl);split<;>(try rfl);split<;>(try rfl);split<;>(try rfl);split<;>rfl
 generalize zM:dI k x y=cw at*;have hnz:(x.m=0/\¬y.m=0)∨¬x.m=0:=À;have Zl:(¬(3<=k/\y.m=0/\y.r=0))∨(3<=k/\y.m=0/\y.r=0):=À;have hzy:(y.m=0/\y.r=0)↔(((y.m:Nat):Int)=0/\y.r=0):=À;obtain⟨t4,ht4⟩:∃t4,Hid (t4=cF (Nat.gcd (Nat.gcd x.m y.m) y.r.natAbs) x.r):=⟨_,rfl⟩;rw[<-ht4.out]at EW HR;obtain⟨π,hG⟩:∃π,Hid (π=Nat.gcd x.m y.m):=⟨_,rfl⟩;rw[<-hG.out]at EW HG HC;generalize AX x y=t2 at*;clear hx hy hn xQ zM ht4 hG;have HZ:=hid Zl;have TE:=hid hzy;have HNZ:=hid hnz;obtain⟨a,hA⟩:∃a:Int,a=((x.m:Nat):Int):=⟨_,rfl⟩;obtain⟨c,hC⟩:∃c:Int,c=((y.m:Nat):Int):=⟨_,rfl⟩;rw[<-hA]at HX HG HM HR;rw[<-hC]at HY HG HM HR TE;rw[<-hA,<-hC];have ha:a.natAbs<=65536:=À;have hc:c.natAbs<=65536:=À;clear hA hC Zl hzy hnz tW wG;generalize x.r=b at*;generalize y.r=d at*;generalize x.m=xm at*;generalize y.m=ym at*;obtain⟨kk,DG⟩:∃kk:Int,Hid (kk=((k:Nat):Int)):=⟨_,rfl⟩;rw[<-DG.out];have HK:=hid hk;have h0:=J3 w a b c d;clear hk;go_enter func283,ntmps283;go_upto_region 1 with fail;generalize ((((w.alloc (L #[] 87)).alloc (L #[I O a,I O b] 85)).alloc (L #[I O c,I O d] 85)).alloc (L #[I O 0,I O 0] 85))=W at*
 go_cut [17] from 12 to 16 (λoO wc=>oO=U false/\Hid (Kc w a b c d wc))
 case first=>
  obtain⟨x0,x1,y0,y1⟩:=h0.cells;clear HG HC HM HN HR EW HZ TE
  rcases HNZ.out with⟨q1,q2⟩|q1
  .rw[decide_eq_true q1]at HX
   rw[decide_eq_false q2]at HY;go_wp2_with fail;refine(HX.out W).mono ?_;rintro e w1⟨rfl,b1⟩;have h1:=h0.call b1;clear x0 x1 y0 y1;obtain⟨x0,x1,y0,y1⟩:=h1.cells;go_wp2_with fail;refine(HY.out w1).mono ?_;rintro e w2⟨rfl,b2⟩;have H2:Hid (Kc w a b c d w2):=h1.call b2;clear x0 x1 y0 y1 h1 b1 b2;go_wp2_with fail;go_meet;exact⟨rfl,H2⟩
  .rw[decide_eq_false q1]at HX
   go_wp2_with fail;refine(HX.out W).mono ?_;rintro e w1⟨rfl,b1⟩;have H1:Hid (Kc w a b c d w1):=h0.call b1;clear x0 x1 y0 y1 b1;go_wp2_with fail;go_meet;exact⟨rfl,H1⟩
 case rest=>
  obtain⟨rfl,hcut⟩:=hcut;have h1:=hcut.out;clear h0 hcut HX HY HNZ;have e0:IntKind.i64.wrap (b+d)=b+d:=by rw[IntWalk.i64_in]<;>omega
  have e1:IntKind.i64.wrap (b-d)=b-d:=by rw[IntWalk.i64_in]<;>omega
  rcases(show k=0∨k=1∨k=2∨3<=k from by have:=HK.out;omega) with rfl|rfl|rfl|h3
  rotate_left 2
  .obtain rfl:kk=2:=DG.out
   have δ:Hid (cw=Y t2):=by have q:=EW.out;rwa[Â À,Â À,Â À,Á rfl]at q
   obtain⟨x0,x1,y0,y1⟩:=h1.cells;clear HG HC HN HR EW HZ TE DG HK;go_wp2_with fail;refine(HM.out _).mono ?_;rintro e w1⟨rfl,b1⟩;have HH:=h1.call b1;clear x0 x1 y0 y1 h1 b1 HM;obtain⟨u0,v0,hr⟩:=HH.z;obtain⟨m0,m1,jo,jH,mq⟩:=aI hr;have MQ:=hid (mq (I O (t2.m:Nat)) (I O t2.r));have BQ:Hid (ω w _):=(HH.put (I O (t2.m:Nat)) (I O t2.r)).b;clear hr HH mq;go_wp2_with fail;exact Ç (v:=φ #[J #[I O (t2.m:Nat),I O t2.r],U true]) (by simp[results,results283,go_sem,MQ.1,MQ.2]) rfl ⟨ð δ.out,BQ.out⟩
  .have hk0:¬kk=0:=by have:=DG.out;omega
   have sG:¬kk=1:=by have:=DG.out;omega
   have kM:¬kk=2:=by have:=DG.out;omega
   go_wp2_with fail;refine wp_region_held_drew (S:=λw':Wd=>Kc w a b c d w') Ã (h1.call (Å).drew) (λaa=>?_);generalize wc.drew=V at*;refine tk 0 (J #[I O c,I O d]) rfl (λw' h=>by have q:=h.cells.2.2.1;have q2:=h.cells.2.2.2;go_simp) aa ?_;refine tk 1 (J #[]) rfl (λw' h=>by have q:=h.o;go_simp) aa ?_;refine bP 2 λK hK=>?_
   simp only[bG,gd];go_simp;refine(HN.out _).mono ?_;rintro e w1⟨rfl,b1⟩;replace aa:=aa.call b1;clear b1;go_wp2_with fail;refine hK.out _ _ aa (λ_=>?_);clear hK K;obtain⟨bb,hbb⟩:∃bb,Hid (bb=decide (c=0/\d=0)):=⟨_,rfl⟩;have eY:∀w,(Op.equalIn 10000 85 (J #[I O c,I O d]) (J #[I O 0,I O 0])).run prog w=.ok bb w:=λw=>by rw[hbb.out];exact Vg c d 0 0 w
   refine bP 3 λK hK=>?_
   simp only[bG];go_simp;refine hK.out _ _ aa (λ_=>?_);clear hK K;refine bP 4 λK hK=>?_
   simp only[bG];go_simp;refine hK.out _ _ aa (λ_=>?_);clear hK K eY;refine wpAnyH_done Ã ?_ _;have qo:=aa.o;obtain⟨x0,x1,y0,y1⟩:=aa.cells;clear h1
   rcases HZ.out with hz|hz
   .obtain rfl:bb=false:=hbb.trans (decide_eq_false (λh=>hz ⟨h3,TE.2 h⟩))
    by_cases h4:k=3
    .subst h4
     obtain rfl:kk=3:=DG.out;have δ:Hid (cw=Y ⟨1,0⟩):=by have q:=EW.out;rwa[Â hz,Â À,Â À,Â À,Á rfl]at q
     clear HG HC HN HR EW HZ TE DG HK hz HM;go_wp2_with fail;refine(FA _).mono ?_;rintro e w2⟨rfl,b1⟩;have HH:=aa.call b1;clear b1 aa qo x0 x1 y0 y1;obtain⟨u0,v0,hr⟩:=HH.z;obtain⟨m0,m1,jo,jH,mq⟩:=aI hr;have MQ:=hid (mq (I O 1) (I O 0));have BQ:Hid (ω w _):=(HH.put (I O 1) (I O 0)).b;clear hr HH mq;go_wp2_with fail;exact Ç (v:=φ #[J #[I O 1,I O 0],U true]) (by simp[results,results283,go_sem,MQ.1,MQ.2]) rfl ⟨ð (a:=1) δ.out,BQ.out⟩
    .have h5:¬kk=3:=by have:=DG.out;omega
     have δ:Hid (cw=Y t4):=by have q:=EW.out;rwa[Â hz,Â À,Â À,Â À,Â h4]at q
     clear HG HC HN EW HZ TE DG HK hz HM;go_wp2_with fail;refine(HR.out _).mono ?_;rintro e w2⟨rfl,b1⟩;have HH:=aa.call b1;clear b1 aa qo x0 x1 y0 y1 HR;obtain⟨u0,v0,hr⟩:=HH.z;obtain⟨m0,m1,jo,jH,mq⟩:=aI hr;have MQ:=hid (mq (I O (t4.m:Nat)) (I O t4.r));have BQ:Hid (ω w _):=(HH.put (I O (t4.m:Nat)) (I O t4.r)).b;clear hr HH mq;go_wp2_with fail;exact Ç (v:=φ #[J #[I O (t4.m:Nat),I O t4.r],U true]) (by simp[results,results283,go_sem,MQ.1,MQ.2]) rfl ⟨ð δ.out,BQ.out⟩
   .obtain rfl:bb=true:=hbb.trans (decide_eq_true (TE.1 hz.2))
    have δ:Hid (cw=M):=by have q:=EW.out;rwa[Á hz]at q
    obtain⟨u0,v0,hr⟩:=aa.z;obtain⟨m0,m1,jo,jH,mq⟩:=aI hr;have MQ:=hid (mq (I O 0) (I O 0));have BQ:Hid (ω w _):=(aa.put (I O 0) (I O 0)).b;clear hr mq aa HG HC HN HR EW HZ TE DG HK hz HM qo x0 x1 y0 y1;go_wp2_with fail;exact Ç (v:=φ #[J #[I O 0,I O 0],U false]) (by simp[results,results283,go_sem,MQ.1,MQ.2]) rfl ⟨qQ δ.out,BQ.out⟩
  all_goals
   have δ:=EW.out;rw[Â À]at δ
   first|rw[Â (show ¬(1:Nat)=0 by decide),Á rfl]at δ|rw[Á rfl]at δ
   have HE:=hid δ
   first|obtain rfl:kk=0:=DG.out|obtain rfl:kk=1:=DG.out
   clear δ EW HN HR HZ TE HM DG HK;go_wp2_with fail;refine wp_region_held_drew (S:=λw':Wd=>Kc w a b c d w') Ã (h1.call (Å).drew) (λaa=>?_);generalize wc.drew=V at*;refine tq 0 (ρ (Y ⟨w.heap.size+1,0,M⟩)) aa ?_;refine tk 1 (I O a) rfl (λw' h=>by have q:=h.cells.1;go_simp) aa ?_;refine tq 2 (ρ (Y ⟨w.heap.size+1+1,0,M⟩)) aa ?_;refine tk 3 (I O c) rfl (λw' h=>by have q:=h.cells.2.2.1;go_simp) aa ?_;refine tq 6 (ρ (Y ⟨w.heap.size+1,1,M⟩)) aa ?_;refine tk 7 (I O b) rfl (λw' h=>by have q:=h.cells.2.1;go_simp) aa ?_;refine tq 8 (ρ (Y ⟨w.heap.size+1+1,1,M⟩)) aa ?_;refine tk 9 (I O d) rfl (λw' h=>by have q:=h.cells.2.2.2;go_simp) aa ?_
   first
    |(refine tk 10 (I O (b+d)) rfl (λw' h=>?g) aa ?_;case g=>go_simp)
    |(refine tk 10 (I O (b-d)) rfl (λw' h=>?g) aa ?_;case g=>go_simp)
   try simp only[Act.put]
   refine bP 4 λK hK=>?_
   simp only[bG,gd];go_simp;refine hK.out _ _ (aa.call (below_alloc1 _ _)) (λ_=>?_);clear hK K;refine bP 5 λK hK=>?_
   simp only[bG];go_simp;refine(HG.out _ _ (by first|rfl|simp)).mono ?_;rintro e w1⟨rfl,b1⟩;replace aa:=aa.call b1;clear b1;go_wp2_with fail;refine hK.out _ _ aa (λ_=>?_);clear hK K;refine bP 11 λK hK=>?_
   simp only[bG];go_simp;refine(HC.out _ _).mono ?_;rintro e w2⟨rfl,b1⟩;have Ra:=HE;obtain⟨t,ht⟩:∃t,cw=Y t:=⟨_,HE.out⟩;rw[ht]at Ra;have HT:=Ï Ra.out;rw[<-HT];have HE:=hid ht;clear Ra HT ht;replace aa:=aa.call b1;clear b1;go_wp2_with fail;refine hK.out _ _ aa (λ_=>?_);clear hK K;obtain⟨u0,v0,hr⟩:=aa.z;obtain⟨m0,m1,jo,jH,mq⟩:=aI hr;have MQ:=mq (I O (t.m:Nat)) (I O t.r);have BQ:=(aa.put (I O (t.m:Nat)) (I O t.r)).b;clear hr mq;refine bP 12 λK hK=>?_
   simp only[bG];go_simp;refine hK.out _ _ (aa.put _ _) (λaa=>?_);clear hK K;refine bP 13 λK hK=>?_
   simp only[bG];go_simp;refine hK.out _ _ aa (λ_=>?_);clear hK K;refine wpAnyH_done Ã ?_ _;go_wp2_with fail;exact Ç (v:=φ #[J #[I O (t.m:Nat),I O t.r],U true]) (by simp[results,results283,go_sem,MQ.1,MQ.2]) rfl ⟨ð HE.out,BQ⟩
end
end Go.Proofs.YtiopfihjmkfdmabGreatDoor
