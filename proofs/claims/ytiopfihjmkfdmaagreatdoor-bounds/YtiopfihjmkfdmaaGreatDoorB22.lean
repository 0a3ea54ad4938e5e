import Derived.Test.YtiopfihjmkfdmaaGreatDoorB13
import Derived.Deep.CutRange
namespace Go.Proofs.YtiopfihjmkfdmaaGreatDoor
open Go.Proofs.Tryz Sp
open Go.RowKit
set_option maxRecDepth 100000
set_option maxHeartbeats 16000000
section
variable{a b c d p q:Int}
variable{w W w2 W2:Wd}
variable{kx kr k base:Nat}
variable{v v':Value}
variable{zs:List Int}
def qj:Option Sp.Iv->Value
 | some x=>.tuple #[.agg #[.int .i64 x.a,.int .i64 x.b],.bool true]
 | none=>.tuple #[.agg #[.int .i64 0,.int .i64 0],.bool false]
theorem lZ{r:Option Sp.Iv}(h:r=some ⟨a,b⟩):Ending.returned (.tuple #[.agg #[.int .i64 a,.int .i64 b],.bool true])=.returned (qj r):=by rw[h];rfl
theorem oU(a b:Int)(w:Wd) :
  Calls prog 180 #[.int .i64 a,.int .i64 b] w fun e w'=>e=.returned (.agg #[.int .i64 (cJ a b).a,.int .i64 (cJ a b).b])/\Below w.heap.size w w':=by
 by_cases h1:a < -32768
 ·have E:Hid (cJ a b=⟨-32768,32767⟩):=by unfold Hid cJ;rw[if_pos (.inl h1)];rfl
  go_enter func180,ntmps180;go_wp2_with fail;go_returns;exact⟨by rw[E.out],by go_grown⟩
 ·have nM:decide (a < -32768)=false:=by simpa using h1
  by_cases h2:32767<b
  ·have E:Hid (cJ a b=⟨-32768,32767⟩):=by unfold Hid cJ;rw[if_pos (.inr h2)];rfl
   go_enter func180,ntmps180;go_wp2_with fail;go_returns;exact⟨by rw[E.out],by go_grown⟩
  ·have Hj:decide (32767<b)=false:=by simpa using h2
   have E:Hid (cJ a b=⟨a,b⟩):=by unfold Hid cJ;rw[if_neg (by omega)]
   go_enter func180,ntmps180;go_wp2_with fail;go_returns;exact⟨by rw[E.out],by go_grown⟩
theorem On(n:Int)(w:Wd) :
  Calls prog 142 #[.int .i64 0,.int .i64 n] w fun e w'=>e=.returned (.agg #[.int .i64 n,.int .i64 n])/\Below w.heap.size w w':=by
 go_enter func142,ntmps142;go_wp2_with fail;go_returns;exact⟨rfl,by go_grown⟩
theorem Mf(w:Wd) :
  Calls prog 107 #[.int .i64 0] w fun e w'=>e=.returned (.agg #[.int .i64 (-32768),.int .i64 32767])/\Below w.heap.size w w':=by
 go_enter func107,ntmps107;go_wp2_with fail;go_returns;exact⟨rfl,by go_grown⟩
theorem Rw(a b:Int)(w:Wd) :
  Calls prog 144 #[.agg #[.int .i64 a,.int .i64 b],.int .i64 0,.int .i64 0] w fun e w'=>e=.returned (.bool (decide (a<=0) && decide (0<=b)))/\Below w.heap.size w w':=by
 by_cases h:a<=0
 ·go_enter func144,ntmps144
  go_wp2_with fail;go_returns;exact⟨bA (by simp[h]),by go_grown⟩
 ·have h0:decide (a<=0)=false:=by simpa using h
  go_enter func144,ntmps144;go_wp2_with fail;go_returns;exact⟨rfl,by go_grown⟩
theorem L2(a b:Int)(w:Wd)(h1:-32768<=a)(h2:a<=b)(h3:b<=32767) :
  Calls prog 143 #[.int .i64 0,.agg #[.int .i64 a,.int .i64 b]] w fun e w'=>e=.returned (.agg #[.int .i64 (cJ (-b) (-a)).a,.int .i64 (cJ (-b) (-a)).b])/\Below w.heap.size w w':=by
 have HW:Hid (∀W:Wd,Calls prog 180 #[.int .i64 (-b),.int .i64 (-a)] W fun e w'=>e=.returned (.agg #[.int .i64 (cJ (-b) (-a)).a,.int .i64 (cJ (-b) (-a)).b])/\Below W.heap.size W w'):=fun W=>oU _ _ W
 generalize cJ (-b) (-a)=t at *;go_enter func143,ntmps143;go_wp2_with fail;refine(HW.out _).mono ?_;rintro e w1⟨rfl,b1⟩;obtain⟨hx,hz,bw⟩:=eY b1;obtain⟨m0,m1,kh,kj,mq⟩:=aH hz;have MQ:=hid (mq (.int .i64 t.a) (.int .i64 t.b));have BW:=hid bw;clear mq b1 hx hz bw HW;go_wp2_with fail;exact bodyPost_ret (v:=.agg #[.int .i64 t.a,.int .i64 t.b]) (by simp[results,results143,go_sem,MQ.1,MQ.2]) rfl ⟨rfl,(BW.setCell (p:=⟨w.heap.size+1,0,none⟩) (Nat.le_succ _) _).setCell (p:=⟨w.heap.size+1,1,none⟩) (Nat.le_succ _) _⟩
theorem IV(zs:List Int)(j:Nat)(z:Int)(hj:0<j)(h:zs[j]?=some z):nP (zs.take (j+1))=min (nP (zs.take j)) z/\nT (zs.take (j+1))=max (nT (zs.take j)) z:=by
 obtain⟨h1,h2⟩:=List.getElem?_eq_some_iff.1 h;rw[List.take_succ_eq_append_getElem h1,h2];cases zs with
 | nil=>simp at h
 | cons x xs =>obtain⟨j,rfl⟩:∃i,j=i+1:=⟨j - 1,by omega⟩;simp[nP,nT,List.foldl_append]
theorem G7(g cap:Nat)(zs:List Int)(w:Wd)(hg:g<w.heap.size)(hn:0<zs.length)(hbig:zs.length<=1000)(hc:∀(j:Nat) (z:Int),zs[j]?=some z->w.cell? ⟨g,j,none⟩=some (.int .i64 z)) :
  Calls prog 182 #[.slice (some ⟨g,0,none⟩) zs.length cap] w fun e w'=>e=.returned (.agg #[.int .i64 (cu zs).a,.int .i64 (cu zs).b])/\Below w.heap.size w w':=by
 obtain⟨x,hx⟩:∃x,zs[0]?=some x:=⟨_,List.getElem?_eq_getElem hn⟩;have HW:Hid (∀(p q:Int) (W:Wd),p=nP zs->q=nT zs->Calls prog 180 #[.int .i64 p,.int .i64 q] W fun e w'=>e=.returned (.agg #[.int .i64 (cu zs).a,.int .i64 (cu zs).b])/\Below W.heap.size W w'):=fun p q W h1 h2=>by rw[h1,h2];exact oU _ _ W
 generalize cu zs=t at *;have HC:Hid (∀(W:Wd),Below w.heap.size w W->∀(j:Nat) (z:Int),zs[j]?=some z->W.cell? ⟨g,j,none⟩=some (.int .i64 z)):=fun W hW j z hz=>by rw[hW.cell (p:=⟨g,j,none⟩) hg];exact hc j z hz
 have gT:Hid (nP (zs.take 1)=x/\nT (zs.take 1)=x):=by
  unfold Hid;cases zs with
  | nil=>simp at hx
  | cons y ys=>simp at hx;subst hx;exact⟨rfl,rfl⟩
 have B0:Hid (Below w.heap.size w (w.alloc (.cells #[.int .i64 0,.int .i64 0] 191))):=below_alloc1 _ _;have Z0:Hid (_=_):=heap_alloc_new w (.cells #[.int .i64 0,.int .i64 0] 191);have c0:=HC.out _ B0.out 0 x hx;have DX:(0:Int)<((zs.length:Nat):Int):=by omega
 have xG:((zs.length:Nat):Int)<=1000:=by omega
 clear hc hx;go_enter func182,ntmps182;go_wp2_with fail;generalize w.alloc (.cells #[.int .i64 0,.int .i64 0] 191)=W0 at *;obtain⟨k2,hk⟩:∃k2,k2=w.heap.size:=⟨_,rfl⟩;rw[<-hk]at Z0;rw[<-hk];have HK:=hid hk;clear hk
 go_loopw [3,4,5] (fun v3 v4 v5 wr=>∃(j:Nat) (p q:Int),0<j/\j<=zs.length/\v5=.int .i64 j/\v3=.int .i64 p/\v4=.int .i64 q/\Hid (p=nP (zs.take j)/\q=nT (zs.take j))/\wr=W0) (fun _ _ v5 _=>zs.length - (intOf v5).toNat)
 case atStart=>exact⟨1,x,x,by omega,hn,rfl,rfl,rfl,⟨gT.1.symm,gT.2.symm⟩,rfl⟩
 case round =>
  obtain⟨j,p,q,hj0,hj,rfl,rfl,rfl,Gc,rfl⟩:=hrel;by_cases DH:j<zs.length
  ·have uq:((j:Nat):Int)<((zs.length:Nat):Int):=by omega
   obtain⟨z,hz⟩:∃z,zs[j]?=some z:=⟨_,List.getElem?_eq_getElem DH⟩;have cz:=HC.out _ B0.out j z hz;obtain⟨e1,e2⟩:=IV zs j z hj0 hz;have HP:Hid (min p z=nP (zs.take (j+1))/\max q z=nT (zs.take (j+1))):=by unfold Hid;rw[e1,e2,Gc.1,Gc.2];exact⟨rfl,rfl⟩
   clear e1 e2 hz Gc c0;by_cases hp:z<p
   ·by_cases hq:q<z
    ·have HQ:Hid (z=nP (zs.take (j+1))/\z=nT (zs.take (j+1))):=by unfold Hid;rw[<-HP.1,<-HP.2];omega
     clear HP;go_wp2_with fail;exact⟨⟨j+1,z,z,by omega,by omega,by go_num,rfl,rfl,HQ,trivial⟩,by simp[intOf];omega⟩
    ·have HQ:Hid (z=nP (zs.take (j+1))/\q=nT (zs.take (j+1))):=by unfold Hid;rw[<-HP.1,<-HP.2];omega
     clear HP;go_wp2_with fail;exact⟨⟨j+1,z,q,by omega,by omega,by go_num,rfl,rfl,HQ,trivial⟩,by simp[intOf];omega⟩
   ·by_cases hq:q<z
    ·have HQ:Hid (p=nP (zs.take (j+1))/\z=nT (zs.take (j+1))):=by unfold Hid;rw[<-HP.1,<-HP.2];omega
     clear HP;go_wp2_with fail;exact⟨⟨j+1,p,z,by omega,by omega,by go_num,rfl,rfl,HQ,trivial⟩,by simp[intOf];omega⟩
    ·have HQ:Hid (p=nP (zs.take (j+1))/\q=nT (zs.take (j+1))):=by unfold Hid;rw[<-HP.1,<-HP.2];omega
     clear HP;go_wp2_with fail;exact⟨⟨j+1,p,q,by omega,by omega,by go_num,rfl,rfl,HQ,trivial⟩,by simp[intOf];omega⟩
  ·obtain rfl:j=zs.length:=by omega
   have h1:=Gc.out;rw[List.take_length]at h1;have HWW:=hid (HW.out p q wr h1.1 h1.2);clear h1 Gc HW c0;go_wp2_with fail;refine HWW.mono ?_;rintro e w1⟨rfl,b1⟩;have hz:=(b1.block _ (ah Z0.out)).trans Z0.out;obtain⟨m0,m1,kh,kj,mq⟩:=aH hz;have MQ:=hid (mq (.int .i64 t.a) (.int .i64 t.b));have BW:Hid (Below w.heap.size w w1):=B0.trans (b1.mono B0.size);clear mq b1 hz HWW;go_wp2_with fail;exact bodyPost_ret (v:=.agg #[.int .i64 t.a,.int .i64 t.b]) (by simp[results,results182,go_sem,MQ.1,MQ.2]) rfl ⟨rfl,(BW.setCell (p:=⟨k2,0,none⟩) (Nat.le_of_eq HK.symm) _).setCell (p:=⟨k2,1,none⟩) (Nat.le_of_eq HK.symm) _⟩
theorem yy(p q r s:Int)(W:Wd)(k:Nat)(hk:k=W.heap.size) :
  Calls prog 182 #[.slice (some ⟨k,0,none⟩) 4 4] (W.alloc (.cells #[.int .i64 p,.int .i64 q,.int .i64 r,.int .i64 s] 3)) fun e w'=>e=.returned (.agg #[.int .i64 (cu [p,q,r,s]).a,.int .i64 (cu [p,q,r,s]).b])/\Below W.heap.size W w':=by
 subst hk;have hn:=heap_alloc_new W (.cells #[.int .i64 p,.int .i64 q,.int .i64 r,.int .i64 s] 3);refine(G7 W.heap.size 4 [p,q,r,s] (W.alloc (.cells #[.int .i64 p,.int .i64 q,.int .i64 r,.int .i64 s] 3)) (by simp) (by simp) (by simp) (fun j z hz=>by
  match j,hz with
  | 0,hz=>cases hz;exact cell_of hn 0 rfl
  | 1,hz=>cases hz;exact cell_of hn 1 rfl
  | 2,hz=>cases hz;exact cell_of hn 2 rfl
  | 3,hz=>cases hz;exact cell_of hn 3 rfl)).mono ?_
 rintro e w'⟨rfl,b⟩;exact⟨rfl,(jW b).1⟩
theorem IG(h1:-32768<=a)(h2:a<=b)(h3:b<=32767)(h4:-32768<=c)(h5:c<=d)(h6:d<=32767):cu [a,b,c,d]=⟨min a c,max b d⟩:=by
 have e1:nP [a,b,c,d]=min a c:=by show min (min (min a b) c) d=_;omega
 have e2:nT [a,b,c,d]=max b d:=by show max (max (max a b) c) d=_;omega
 unfold cu cJ;rw[e1,e2,if_neg (by omega)]
theorem Ow(a b c d:Int)(w:Wd)(h1:-32768<=a)(h2:a<=b)(h3:b<=32767)(h4:-32768<=c)(h5:c<=d)(h6:d<=32767) :
  Calls prog 149 #[.int .i64 0,.agg #[.int .i64 a,.int .i64 b],.agg #[.int .i64 c,.int .i64 d]] w fun e w'=>e=.returned (.agg #[.int .i64 (min a c),.int .i64 (max b d)])/\Below w.heap.size w w':=by
 have HS:Hid (∀(W:Wd) (k:Nat),k=W.heap.size->Calls prog 182 #[.slice (some ⟨k,0,none⟩) 4 4] (W.alloc (.cells #[.int .i64 a,.int .i64 b,.int .i64 c,.int .i64 d] 3)) fun e w'=>e=.returned (.agg #[.int .i64 (min a c),.int .i64 (max b d)])/\Below W.heap.size W w'):=fun W k hk=>by have:=yy a b c d W k hk;rw[IG h1 h2 h3 h4 h5 h6]at this;exact this
 generalize min a c=p at *;generalize max b d=q at *;go_enter func149,ntmps149;go_wp2_with fail;refine(HS.out _ _ (by simp)).mono ?_;rintro e w1⟨rfl,b1⟩;obtain⟨_,_,hz,bw⟩:=bY b1;obtain⟨m0,m1,kh,kj,mq⟩:=aH hz;have MQ:=hid (mq (.int .i64 p) (.int .i64 q));have BW:=hid bw;clear mq b1 hz bw HS;go_wp2_with fail;exact bodyPost_ret (v:=.agg #[.int .i64 p,.int .i64 q]) (by simp[results,results149,go_sem,MQ.1,MQ.2]) rfl ⟨rfl,(BW.setCell (p:=⟨w.heap.size+1+1,0,none⟩) (by show w.heap.size<=w.heap.size+1+1;omega) _).setCell (p:=⟨w.heap.size+1+1,1,none⟩) (by show w.heap.size<=w.heap.size+1+1;omega) _⟩
theorem MY(n:Int)(w:Wd)(h1:-100000<=n)(h2:n<=100000) :
  Calls prog 214 #[.int .i64 n] w fun e w'=>e=.returned (.int .i64 (max n (-n)))/\w'=w:=by
 by_cases h:n<0
 ·go_enter func214,ntmps214
  go_wp2_with fail;go_ret;exact⟨congrArg (fun z:Int=>Ending.returned (.int .i64 z)) (show -n=max n (-n) by omega),rfl⟩
 ·go_enter func214,ntmps214
  go_wp2_with fail;go_ret;exact⟨congrArg (fun z:Int=>Ending.returned (.int .i64 z)) (show n=max n (-n) by omega),rfl⟩
structure nR(w:Wd)(kx kr:Nat)(p q:Int)(W:Wd):Prop where
 x:W.heap[kx]?=some (.cells #[.int .i64 p,.int .i64 q] 191)
 r:∃u v,W.heap[kr]?=some (.cells #[u,v] 191)
 b:Below w.heap.size w W
theorem nR.cells(h:nR w kx kr p q W):W.cell? ⟨kx,0,none⟩=some (.int .i64 p)/\W.cell? ⟨kx,1,none⟩=some (.int .i64 q):=⟨cell_of h.x 0 rfl,cell_of h.x 1 rfl⟩
theorem nR.put{p:Int}(h:nR w kx kr p q W)(h1:kx≠kr)(h3:w.heap.size<=kr)(y z:Value):nR w kx kr p q ((W.setCell ⟨kr,0,none⟩ y).setCell ⟨kr,1,none⟩ z):=by obtain⟨u,v,hr⟩:=h.r;have e1:=ai (ai hr 0 y) 1 z;exact⟨by rw[Below.heap_setCell _ _ _ _ h1,Below.heap_setCell _ _ _ _ h1];exact h.x,⟨_,_,e1⟩,(h.b.setCell (p:=⟨kr,0,none⟩) h3 _).setCell (p:=⟨kr,1,none⟩) h3 _⟩
theorem nR.there(h:nR w kx kr p q W)(y z:Value):((W.setCell ⟨kr,0,none⟩ y).setCell ⟨kr,1,none⟩ z).cell? ⟨kr,0,none⟩=some y/\((W.setCell ⟨kr,0,none⟩ y).setCell ⟨kr,1,none⟩ z).cell? ⟨kr,1,none⟩=some z:=by obtain⟨u,v,hr⟩:=h.r;exact(aH hr).2.2.2.2 y z
theorem OJ(a b c d:Int)(w:Wd) :
  Calls prog 189 #[.int .i64 0,.agg #[.int .i64 a,.int .i64 b],.agg #[.int .i64 c,.int .i64 d]] w fun e w'=>e=.returned (.tuple #[.agg #[.int .i64 (max a c),.int .i64 (min b d)],.bool (decide (max a c<=min b d))])/\Below w.heap.size w w':=by
 obtain⟨p,hp⟩:∃p,Hid (p=max a c):=⟨_,rfl⟩;obtain⟨q,hq⟩:∃q,Hid (q=min b d):=⟨_,rfl⟩;rw[<-hp.out,<-hq.out];obtain⟨k0,k1,k2,kb⟩:=bY (w:=w) (o1:=.cells #[.int .i64 a,.int .i64 b] 191) (o2:=.cells #[.int .i64 c,.int .i64 d] 191) (o3:=.cells #[.int .i64 0,.int .i64 0] 191) (Below.refl _ _);have HX:Hid (nR w w.heap.size (w.heap.size+1+1) a b _):=⟨k0,⟨_,_,k2⟩,kb⟩;have HY:Hid (nR w (w.heap.size+1) (w.heap.size+1+1) c d _):=⟨k1,⟨_,_,k2⟩,kb⟩;clear k0 k1 k2 kb;go_enter func189,ntmps189;go_upto_if 20 with fail;generalize ((w.alloc (.cells #[.int .i64 a,.int .i64 b] 191)).alloc (.cells #[.int .i64 c,.int .i64 d] 191)).alloc (.cells #[.int .i64 0,.int .i64 0] 191)=W at *
 obtain⟨kx,hkx⟩:∃kx,kx=w.heap.size:=⟨_,rfl⟩;obtain⟨ky,hky⟩:∃ky,ky=w.heap.size+1:=⟨_,rfl⟩;obtain⟨kr,hkr⟩:∃kr,kr=w.heap.size+1+1:=⟨_,rfl⟩;have n1:kx≠kr:=by omega
 have n2:ky≠kx:=by omega
 have n3:kr≠kx:=by omega
 have l1:w.heap.size<=kx:=by omega
 have l3:w.heap.size<=kr:=by omega
 rw[<-hkr,<-hky,<-hkx];rw[<-hkr,<-hkx]at HX;rw[<-hkr,<-hky]at HY;clear hkx hky hkr
 go_cut [] from 21 to 23 (fun wc=>Hid (nR w kx kr p b wc/\nR w ky kr c d wc))
 case first =>
  obtain⟨x0,x1⟩:=HX.cells;obtain⟨y0,y1⟩:=HY.cells;have xf:=aw HX.x 0;by_cases h1:a<c
  ·have H1:Hid (nR w kx kr p b (W.setCell ⟨kx,0,none⟩ (.int .i64 c))/\nR w ky kr c d (W.setCell ⟨kx,0,none⟩ (.int .i64 c))):=by
    unfold Hid;obtain⟨u,v,hr⟩:=HX.r;have e:p=c:=by rw[hp.out];omega
    have Ht:(W.setCell ⟨kx,0,none⟩ (.int .i64 c)).heap[kr]?=some (.cells #[u,v] 191):=by rw[Below.heap_setCell _ _ _ _ n3];exact hr
    have hb:=HX.b.setCell (p:=⟨kx,0,none⟩) l1 (.int .i64 c);exact⟨⟨by rw[e];exact ai HX.x 0 (.int .i64 c),⟨u,v,Ht⟩,hb⟩,⟨by rw[Below.heap_setCell _ _ _ _ n2];exact HY.x,⟨u,v,Ht⟩,hb⟩⟩
   clear HX HY;go_wp2_with fail;go_meet
   case rel=>exact H1
  ·have e:p=a:=by rw[hp.out];omega
   have H1:Hid (nR w kx kr p b W/\nR w ky kr c d W):=by unfold Hid;rw[e];exact⟨HX.out,HY.out⟩
   clear HX HY e;go_wp2_with fail;go_meet
   case rel=>exact H1
 case rest =>
  have xt:=hid hcut.1;have DJ:=hid hcut.2;clear HX HY hcut;obtain⟨x0,x1⟩:=xt.cells;obtain⟨y0,y1⟩:=DJ.cells;go_upto_if 28 with fail
  go_cut [] from 29 to 31 (fun wd=>Hid (nR w kx kr p q wd))
  case first =>
   have xf:=aw xt.x 1;by_cases h1:d<b
   ·have H1:Hid (nR w kx kr p q (wc.setCell ⟨kx,1,none⟩ (.int .i64 d))):=by
     unfold Hid;obtain⟨u,v,hr⟩:=xt.r;have e:q=d:=by rw[hq.out];omega
     exact⟨by rw[e];exact ai xt.x 1 (.int .i64 d),⟨u,v,by rw[Below.heap_setCell _ _ _ _ n3];exact hr⟩,xt.b.setCell (p:=⟨kx,1,none⟩) l1 _⟩
    clear xt DJ;go_wp2_with fail;go_meet
    case rel=>exact H1
   ·have e:q=b:=by rw[hq.out];omega
    have H1:Hid (nR w kx kr p q wc):=by unfold Hid;rw[e];exact xt.out
    clear xt DJ e;go_wp2_with fail;go_meet
    case rel=>exact H1
  case rest =>
   have h0:=hcut.out;clear hcut xt DJ x0 x1 y0 y1;obtain⟨x0,x1⟩:=h0.cells;obtain⟨u0,v0,hr⟩:=h0.r;obtain⟨m0,m1,kh,kj,_⟩:=aH hr;have MQ:=hid (h0.there (.int .i64 p) (.int .i64 q));have BQ:Hid (Below w.heap.size w _):=(h0.put n1 l3 (.int .i64 p) (.int .i64 q)).b.drew;have d0:∀u v:Value,((wc.setCell ⟨kr,0,none⟩ u).setCell ⟨kr,1,none⟩ v).cell? ⟨kx,0,none⟩=some (.int .i64 p):=fun u v=>(h0.put n1 l3 u v).cells.1
   have d1:∀u v:Value,((wc.setCell ⟨kr,0,none⟩ u).setCell ⟨kr,1,none⟩ v).cell? ⟨kx,1,none⟩=some (.int .i64 q):=fun u v=>(h0.put n1 l3 u v).cells.2
   clear hr h0;go_wp2_with fail
   go_region_with (fail)
   all_goals
    go_wp2_with fail;exact bodyPost_ret (v:=.tuple #[.agg #[.int .i64 p,.int .i64 q],.bool (decide (p<=q))]) (by simp[results,results189,go_sem,MQ.1,MQ.2]) rfl ⟨rfl,BQ.out⟩
theorem Ir(a b c d:Int)(w:Wd) :
  Calls prog 188 #[.agg #[.int .i64 a,.int .i64 b],.string ⟨#[60]⟩,.agg #[.int .i64 c,.int .i64 d]] w fun e w'=>e=.returned (.bool (!cT 0 ⟨a,b⟩ ⟨c,d⟩))/\Below w.heap.size w w':=by
 have E:Hid (cT 0 ⟨a,b⟩ ⟨c,d⟩=decide (a<d)):=rfl;rw[E.out];go_enter func188,ntmps188;go_wp2_with fail;go_returns;exact⟨bA (by rw[Bool.eq_iff_iff];simp;try omega),by go_grown⟩
theorem JL(a b c d:Int)(w:Wd) :
  Calls prog 188 #[.agg #[.int .i64 a,.int .i64 b],.string ⟨#[60,61]⟩,.agg #[.int .i64 c,.int .i64 d]] w fun e w'=>e=.returned (.bool (!cT 1 ⟨a,b⟩ ⟨c,d⟩))/\Below w.heap.size w w':=by
 have E:Hid (cT 1 ⟨a,b⟩ ⟨c,d⟩=decide (a<=d)):=rfl;rw[E.out];go_enter func188,ntmps188;go_wp2_with fail;go_returns;exact⟨bA (by rw[Bool.eq_iff_iff];simp;try omega),by go_grown⟩
theorem IX(a b c d:Int)(w:Wd) :
  Calls prog 188 #[.agg #[.int .i64 a,.int .i64 b],.string ⟨#[62,61]⟩,.agg #[.int .i64 c,.int .i64 d]] w fun e w'=>e=.returned (.bool (!cT 4 ⟨a,b⟩ ⟨c,d⟩))/\Below w.heap.size w w':=by
 have E:Hid (cT 4 ⟨a,b⟩ ⟨c,d⟩=decide (c<=b)):=rfl;rw[E.out];go_enter func188,ntmps188;go_wp2_with fail;go_returns;exact⟨bA (by rw[Bool.eq_iff_iff];simp;try omega),by go_grown⟩
theorem JF(a b c d:Int)(w:Wd) :
  Calls prog 188 #[.agg #[.int .i64 a,.int .i64 b],.string ⟨#[62]⟩,.agg #[.int .i64 c,.int .i64 d]] w fun e w'=>e=.returned (.bool (!cT 5 ⟨a,b⟩ ⟨c,d⟩))/\Below w.heap.size w w':=by
 have E:Hid (cT 5 ⟨a,b⟩ ⟨c,d⟩=decide (c<b)):=rfl;rw[E.out];go_enter func188,ntmps188;go_wp2_with fail;go_returns;exact⟨bA (by rw[Bool.eq_iff_iff];simp;try omega),by go_grown⟩
theorem JX(a b c d:Int)(w:Wd)(h2:a<=b)(h5:c<=d) :
  Calls prog 188 #[.agg #[.int .i64 a,.int .i64 b],.string ⟨#[61,61]⟩,.agg #[.int .i64 c,.int .i64 d]] w fun e w'=>e=.returned (.bool (!cT 2 ⟨a,b⟩ ⟨c,d⟩))/\Below w.heap.size w w':=by
 have E:Hid ((!cT 2 ⟨a,b⟩ ⟨c,d⟩)=(decide (d<a) || decide (b<c))):=by
  unfold Hid;show(!(cV ⟨a,b⟩ ⟨c,d⟩).isSome)=_;unfold cV;simp only;by_cases h:max a c<=min b d
  ·rw[if_pos h,decide_eq_false (by omega),decide_eq_false (by omega)];rfl
  ·rw[if_neg h]
   by_cases h':d<a
   ·rw[decide_eq_true h'];rfl
   ·rw[decide_eq_false h',decide_eq_true (by omega)];rfl
 rw[E.out];by_cases h:d<a
 ·go_enter func188,ntmps188
  go_wp2_with fail;go_returns;exact⟨bA (by first | rfl | (rw[decide_eq_true h];rfl)),by go_grown⟩
 ·have h':decide (d<a)=false:=by simpa using h
  go_enter func188,ntmps188;go_wp2_with fail;go_returns;exact⟨bA (by first | rfl | (rw[h'];rfl)),by go_grown⟩
theorem IM(a b c d:Int)(w:Wd) :
  Calls prog 188 #[.agg #[.int .i64 a,.int .i64 b],.string ⟨#[33,61]⟩,.agg #[.int .i64 c,.int .i64 d]] w fun e w'=>e=.returned (.bool (!cT 3 ⟨a,b⟩ ⟨c,d⟩))/\Below w.heap.size w w':=by
 have E:Hid ((!cT 3 ⟨a,b⟩ ⟨c,d⟩)=(decide (a=b) && (decide (c=d) && decide (a=c)))):=by unfold Hid;show(!!(decide ((⟨a,b⟩:Sp.Iv)=⟨c,d⟩) && decide (a=b)))=_;rw[Bool.not_not,Bool.eq_iff_iff];simp only[Bool.and_eq_true,decide_eq_true_eq,Sp.Iv.mk.injEq];omega
 rw[E.out];by_cases h:a=b
 ·subst h
  by_cases h':c=d
  ·subst h'
   go_enter func188,ntmps188;go_wp2_with fail;go_returns;exact⟨bA (by rw[Bool.eq_iff_iff];simp),by go_grown⟩
  ·have hb:(c == d)=false:=by simpa using h'
   go_enter func188,ntmps188;go_wp2_with fail;go_returns;exact⟨bA (by first | rfl | (rw[decide_eq_false h'];simp)),by go_grown⟩
 ·have hb:(a == b)=false:=by simpa using h
  go_enter func188,ntmps188;go_wp2_with fail;go_returns;exact⟨bA (by first | rfl | (rw[decide_eq_false h];rfl)),by go_grown⟩
theorem KO(k:Nat)(hk:k<6)(a b c d:Int)(w:Wd)(h2:a<=b)(h5:c<=d) :
  Calls prog 188 #[.agg #[.int .i64 a,.int .i64 b],.string ⟨(aQ k).toArray⟩,.agg #[.int .i64 c,.int .i64 d]] w fun e w'=>e=.returned (.bool (!cT k ⟨a,b⟩ ⟨c,d⟩))/\Below w.heap.size w w':=by
 rcases(show k=0∨k=1∨k=2∨k=3∨k=4∨k=5 from by omega) with rfl | rfl | rfl | rfl | rfl | rfl
 ·exact Ir a b c d w
 ·exact JL a b c d w
 ·exact JX a b c d w h2 h5
 ·exact IM a b c d w
 ·exact IX a b c d w
 ·exact JF a b c d w
def iB(k:Nat)(x y:Sp.Iv):Sp.Iv :=
 if k=0 then⟨-32768,y.b - 1⟩ else if k=1 then⟨-32768,y.b⟩ else if k=2 then y
 else if k=3 then⟨if y.a=y.b/\x.a=y.a then x.a+1 else -32768,if y.a=y.b/\x.b=y.a then x.b - 1 else 32767⟩
 else if k=4 then⟨y.a,32767⟩ else⟨y.a+1,32767⟩
theorem RZ(k:Nat)(hk:k<6){x y z:Sp.Iv}(hz:jO z)(hy:jO y)(h:z=x∨k≠3∨y.a≠y.b) :
  dy k z y=if max z.a (iB k x y).a<=min z.b (iB k x y).b then some ⟨max z.a (iB k x y).a,min z.b (iB k x y).b⟩ else none:=by
 obtain⟨z1,z2,z3⟩:=hz;obtain⟨y1,y2,y3⟩:=hy
 rcases(show k=0∨k=1∨k=2∨k=3∨k=4∨k=5 from by omega) with rfl | rfl | rfl | rfl | rfl | rfl
 ·show dY z y.b=if max z.a (-32768)<=min z.b (y.b - 1) then some ⟨max z.a (-32768),min z.b (y.b - 1)⟩ else none
  unfold dY;by_cases h0:y.b=-32768
  ·rw[if_pos h0,if_neg (by omega)]
  ·rw[if_neg h0];rfl
 ·rfl
 ·rfl
 ·show dS z y=if max z.a (if y.a=y.b/\x.a=y.a then x.a+1 else -32768)<=min z.b (if y.a=y.b/\x.b=y.a then x.b - 1 else 32767) then some ⟨max z.a (if y.a=y.b/\x.a=y.a then x.a+1 else -32768),min z.b (if y.a=y.b/\x.b=y.a then x.b - 1 else 32767)⟩ else none
  generalize hp:(if y.a=y.b/\x.a=y.a then x.a+1 else -32768:Int)=p;generalize hq:(if y.a=y.b/\x.b=y.a then x.b - 1 else 32767:Int)=q;unfold dS;by_cases he:y.a=y.b
  ·have hx:z=x:=by
    rcases h with h | h | h
    ·exact h
    ·exact absurd rfl h
    ·exact absurd he h
   subst hx;rw[if_neg (fun h=>h he)];by_cases h1:z.a=y.a
   ·have YG:p=y.a+1:=by rw[<-hp,if_pos ⟨he,h1⟩,h1]
    rw[if_pos h1];unfold ea;by_cases h2:z.b=y.a
    ·have Kd:q=y.a - 1:=by rw[<-hq,if_pos ⟨he,h2⟩,h2]
     rw[if_neg (show ¬ max z.a p<=min z.b q by omega)];split
     ·rfl
     ·unfold cV;rw[if_neg (by simp only;omega)]
    ·have Kd:q=32767:=by rw[<-hq,if_neg (fun h=>h2 h.2)]
     split
     ·rw[if_neg (by omega)]
     ·rw[YG,Kd];rfl
   ·have YG:p=-32768:=by rw[<-hp,if_neg (fun h=>h1 h.2)]
    rw[if_neg h1];by_cases h2:z.b=y.a
    ·have Kd:q=y.a - 1:=by rw[<-hq,if_pos ⟨he,h2⟩,h2]
     rw[if_pos (h2.trans he)];unfold dY;rw[if_neg (by omega),YG,Kd,he];rfl
    ·have Kd:q=32767:=by rw[<-hq,if_neg (fun h=>h2 h.2)]
     have e1:max z.a p=z.a:=by omega
     have e2:min z.b q=z.b:=by omega
     rw[if_neg (fun h=>h2 (h.trans he.symm)),e1,e2,if_pos z2]
  ·have YG:p=-32768:=by rw[<-hp,if_neg (fun h=>he h.1)]
   have Kd:q=32767:=by rw[<-hq,if_neg (fun h=>he h.1)]
   have e1:max z.a p=z.a:=by omega
   have e2:min z.b q=z.b:=by omega
   rw[if_pos he,e1,e2,if_pos z2]
 ·rfl
 ·show ea z y.a=if max z.a (y.a+1)<=min z.b 32767 then some ⟨max z.a (y.a+1),min z.b 32767⟩ else none
  unfold ea;by_cases h0:y.a=32767
  ·rw[if_pos h0,if_neg (by omega)]
  ·rw[if_neg h0];rfl
theorem I8(a b c d:Int)(w:Wd)(h4:-32768<=c)(h5:c<=d)(h6:d<=32767) :
  Calls prog 215 #[.agg #[.int .i64 a,.int .i64 b],.string ⟨#[60]⟩,.agg #[.int .i64 c,.int .i64 d]] w fun e w'=>e=.returned (.agg #[.int .i64 (iB 0 ⟨a,b⟩ ⟨c,d⟩).a,.int .i64 (iB 0 ⟨a,b⟩ ⟨c,d⟩).b])/\Below w.heap.size w w':=by
 go_enter func215,ntmps215;go_wp2_with fail;go_returns;exact⟨rfl,by go_grown⟩
theorem Ja(a b c d:Int)(w:Wd) :
  Calls prog 215 #[.agg #[.int .i64 a,.int .i64 b],.string ⟨#[60,61]⟩,.agg #[.int .i64 c,.int .i64 d]] w fun e w'=>e=.returned (.agg #[.int .i64 (iB 1 ⟨a,b⟩ ⟨c,d⟩).a,.int .i64 (iB 1 ⟨a,b⟩ ⟨c,d⟩).b])/\Below w.heap.size w w':=by
 go_enter func215,ntmps215;go_wp2_with fail;go_returns;exact⟨rfl,by go_grown⟩
theorem IU(a b c d:Int)(w:Wd) :
  Calls prog 215 #[.agg #[.int .i64 a,.int .i64 b],.string ⟨#[61,61]⟩,.agg #[.int .i64 c,.int .i64 d]] w fun e w'=>e=.returned (.agg #[.int .i64 (iB 2 ⟨a,b⟩ ⟨c,d⟩).a,.int .i64 (iB 2 ⟨a,b⟩ ⟨c,d⟩).b])/\Below w.heap.size w w':=by
 go_enter func215,ntmps215;go_wp2_with fail;go_returns;exact⟨rfl,by go_grown⟩
theorem Iu(a b c d:Int)(w:Wd) :
  Calls prog 215 #[.agg #[.int .i64 a,.int .i64 b],.string ⟨#[62,61]⟩,.agg #[.int .i64 c,.int .i64 d]] w fun e w'=>e=.returned (.agg #[.int .i64 (iB 4 ⟨a,b⟩ ⟨c,d⟩).a,.int .i64 (iB 4 ⟨a,b⟩ ⟨c,d⟩).b])/\Below w.heap.size w w':=by
 go_enter func215,ntmps215;go_wp2_with fail;go_returns;exact⟨rfl,by go_grown⟩
theorem II(a b c d:Int)(w:Wd)(h4:-32768<=c)(h5:c<=d)(h6:d<=32767) :
  Calls prog 215 #[.agg #[.int .i64 a,.int .i64 b],.string ⟨#[62]⟩,.agg #[.int .i64 c,.int .i64 d]] w fun e w'=>e=.returned (.agg #[.int .i64 (iB 5 ⟨a,b⟩ ⟨c,d⟩).a,.int .i64 (iB 5 ⟨a,b⟩ ⟨c,d⟩).b])/\Below w.heap.size w w':=by
 go_enter func215,ntmps215;go_wp2_with fail;go_returns;exact⟨rfl,by go_grown⟩
theorem Jf(a b c d:Int)(w:Wd)(_:-32768<=a)(h2:a<=b)(_:b<=32767)(h4:-32768<=c)(_:c<=d)(h6:d<=32767) :
  Calls prog 215 #[.agg #[.int .i64 a,.int .i64 b],.string ⟨#[33,61]⟩,.agg #[.int .i64 c,.int .i64 d]] w fun e w'=>e=.returned (.agg #[.int .i64 (iB 3 ⟨a,b⟩ ⟨c,d⟩).a,.int .i64 (iB 3 ⟨a,b⟩ ⟨c,d⟩).b])/\Below w.heap.size w w':=by
 have E:Hid (∀p q:Int,p=(if c=d/\a=c then a+1 else -32768)->q=(if c=d/\b=c then b - 1 else 32767)->Ending.returned (.agg #[.int .i64 p,.int .i64 q])=.returned (.agg #[.int .i64 (iB 3 ⟨a,b⟩ ⟨c,d⟩).a,.int .i64 (iB 3 ⟨a,b⟩ ⟨c,d⟩).b])):=fun p q hp hq=>by rw[hp,hq];rfl
 by_cases tN:c=d
 ·by_cases Hr:a=c
  ·by_cases NZ:b=c
   ·go_enter func215,ntmps215
    go_wp2_with fail;go_returns;exact⟨E.out _ _ (by rw[if_pos ⟨tN,Hr⟩];try omega) (by rw[if_pos ⟨tN,NZ⟩];try omega),by go_grown⟩
   ·have DS:(b == c)=false:=by simpa using NZ
    go_enter func215,ntmps215;go_wp2_with fail;go_returns;exact⟨E.out _ _ (by rw[if_pos ⟨tN,Hr⟩];try omega) (by rw[if_neg (fun h=>NZ h.2)];try omega),by go_grown⟩
  ·have Hd:(a == c)=false:=by simpa using Hr
   by_cases NZ:b=c
   ·go_enter func215,ntmps215
    go_wp2_with fail;go_returns;exact⟨E.out _ _ (by rw[if_neg (fun h=>Hr h.2)];try omega) (by rw[if_pos ⟨tN,NZ⟩];try omega),by go_grown⟩
   ·have DS:(b == c)=false:=by simpa using NZ
    go_enter func215,ntmps215;go_wp2_with fail;go_returns;exact⟨E.out _ _ (by rw[if_neg (fun h=>Hr h.2)];try omega) (by rw[if_neg (fun h=>NZ h.2)];try omega),by go_grown⟩
 ·have Wt:(c == d)=false:=by simpa using tN
  go_enter func215,ntmps215;go_wp2_with fail;go_returns;exact⟨E.out _ _ (by rw[if_neg (fun h=>tN h.1)]) (by rw[if_neg (fun h=>tN h.1)]),by go_grown⟩
theorem LC(k:Nat)(hk:k<6)(a b c d:Int)(w:Wd)(h1:-32768<=a)(h2:a<=b)(h3:b<=32767)(h4:-32768<=c)(h5:c<=d)(h6:d<=32767) :
  Calls prog 215 #[.agg #[.int .i64 a,.int .i64 b],.string ⟨(aQ k).toArray⟩,.agg #[.int .i64 c,.int .i64 d]] w fun e w'=>e=.returned (.agg #[.int .i64 (iB k ⟨a,b⟩ ⟨c,d⟩).a,.int .i64 (iB k ⟨a,b⟩ ⟨c,d⟩).b])/\Below w.heap.size w w':=by
 rcases(show k=0∨k=1∨k=2∨k=3∨k=4∨k=5 from by omega) with rfl | rfl | rfl | rfl | rfl | rfl
 ·exact I8 a b c d w h4 h5 h6
 ·exact Ja a b c d w
 ·exact IU a b c d w
 ·exact Jf a b c d w h1 h2 h3 h4 h5 h6
 ·exact Iu a b c d w
 ·exact II a b c d w h4 h5 h6
theorem OT(a b c d:Int)(w:Wd)(h1:-32768<=a)(h2:a<=b)(h3:b<=32767)(h4:-32768<=c)(h5:c<=d)(h6:d<=32767) :
  Calls prog 184 #[.agg #[.int .i64 a,.int .i64 b],.agg #[.int .i64 c,.int .i64 d]] w fun e w'=>e=.returned (qj (gz ⟨a,b⟩ ⟨c,d⟩))/\Below w.heap.size w w':=by
 by_cases hz:c=0/\d=0
 ·obtain⟨rfl,rfl⟩:=hz
  have E:Hid (gz ⟨a,b⟩ ⟨0,0⟩=none):=rfl;go_enter func184,ntmps184;go_wp2_with fail;go_returns;exact⟨by rw[E.out];rfl,by go_grown⟩
 ·have E:Hid (∀p q:Int,p=(if a<0 then max a (-(max (-c) d - 1)) else 0)->q=(if 0<b then min b (max (-c) d - 1) else 0)->gz ⟨a,b⟩ ⟨c,d⟩=some ⟨p,q⟩):=fun p q hp hq=>by
   unfold gz cJ;simp only;rw[if_neg (by omega),if_neg (by omega)];have e1:min (max a (-(max (-c) d - 1))) 0=p:=by split at hp<;>omega
   have e2:max (min b (max (-c) d - 1)) 0=q:=by split at hq<;>omega
   rw[e1,e2]
  by_cases hc:c=0
  ·subst hc
   have hd:¬ d=0:=fun h=>hz ⟨rfl,h⟩
   have Ob:(d == 0)=false:=by simpa using hd
   clear hz;go_enter func184,ntmps184;go_wp2_with (go_at_call 214;refine(MY _ _ (by omega) (by omega)).mono ?_;rintro e wN ⟨rfl,rfl⟩)
   all_goals go_returns
   all_goals exact⟨lZ (E.out _ _ (by omega) (by omega)),by go_grown⟩
  ·have rM:(c == 0)=false:=by simpa using hc
   clear hz;go_enter func184,ntmps184;go_wp2_with (go_at_call 214;refine(MY _ _ (by omega) (by omega)).mono ?_;rintro e wN ⟨rfl,rfl⟩)
   all_goals go_returns
   all_goals exact⟨lZ (E.out _ _ (by omega) (by omega)),by go_grown⟩
structure tU(w:Wd)(kx ky kr:Nat)(a b c d:Int)(v6:Value)(zs:List Int)(W:Wd):Prop where
 x:W.heap[kx]?=some (.cells #[.int .i64 a,.int .i64 b] 191)
 y:W.heap[ky]?=some (.cells #[.int .i64 c,.int .i64 d] 191)
 r:W.heap[kr]?=some (.cells #[.int .i64 0,.int .i64 0] 191)
 z:mF w.heap.size W v6 zs
 b:Below w.heap.size w W
theorem qC{o:Obj}(hg:(w.alloc o).grownBy w2 v.ownBlock){u:Obj}(h:w.heap[k]?=some u)(hn:v.ownBlock≠some k):w2.heap[k]?=some u :=
 (hg.block k (by simp;have:=ah h;omega) hn.symm).trans (heap_alloc_old h)
theorem mF.apart(h:mF base w v zs){cs:Array Value}(hk:Bk w k cs 191):v.ownBlock≠some k:=by intro e;obtain⟨_,_,c,hc⟩:=bj h k e;rw[hk]at hc;cases hc
theorem tU.more{ky:Nat}(h:tU w kx ky kr a b c d v zs W){o:Obj}(jG:W2.ownsRow w.heap.size 3 1 v' (zs.length+2) (ints zs ++ [.int .i64 p,.int .i64 q]))(hg:(W.alloc o).grownBy W2 v.ownBlock):tU w kx ky kr a b c d v' (zs ++ [p,q]) W2:=by obtain⟨r2,b2⟩:=iD (o:=o) h.b.size h.z jG hg h.b;exact⟨qC hg h.x (h.z.apart h.x),qC hg h.y (h.z.apart h.y),qC hg h.r (h.z.apart h.r),r2,b2⟩
theorem Cq(a b c d:Int)(w:Wd)(h1:-32768<=a)(h2:a<=b)(h3:b<=32767)(h4:-32768<=c)(_:c<=d)(h6:d<=32767) :
  Calls prog 183 #[.agg #[.int .i64 a,.int .i64 b],.agg #[.int .i64 c,.int .i64 d]] w fun e w'=>e=.returned (qj (dO ⟨a,b⟩ ⟨c,d⟩))/\Below w.heap.size w w':=by
 obtain⟨i64,uk,uo,um,ug⟩:=info_parts zZ;obtain⟨k0,k1,k2,kb⟩:=bY (w:=w) (o1:=.cells #[.int .i64 a,.int .i64 b] 191) (o2:=.cells #[.int .i64 c,.int .i64 d] 191) (o3:=.cells #[.int .i64 0,.int .i64 0] 191) (Below.refl _ _);have H0:Hid (tU w w.heap.size (w.heap.size+1) (w.heap.size+1+1) a b c d (.slice none 0 0) [] _):=⟨k0,k1,k2,World.ownsRow_nil _ _ _ _,kb⟩;clear k0 k1 k2 kb;go_enter func183,ntmps183;go_upto_if 14 with fail;generalize ((w.alloc (.cells #[.int .i64 a,.int .i64 b] 191)).alloc (.cells #[.int .i64 c,.int .i64 d] 191)).alloc (.cells #[.int .i64 0,.int .i64 0] 191)=W at *
 obtain⟨kx,hkx⟩:∃kx,kx=w.heap.size:=⟨_,rfl⟩;obtain⟨ky,hky⟩:∃ky,ky=w.heap.size+1:=⟨_,rfl⟩;obtain⟨kr,hkr⟩:∃kr,kr=w.heap.size+1+1:=⟨_,rfl⟩;have l3:w.heap.size<=kr:=by omega
 rw[<-hkr,<-hky,<-hkx];rw[<-hkr,<-hky,<-hkx]at H0;clear hkx hky hkr;obtain⟨z1,gT⟩:∃z1,Hid (z1=if c<0 then [c,min d (-1)] else []):=⟨_,rfl⟩;obtain⟨zs,Ra⟩:∃zs,Hid (zs=dk ⟨c,d⟩):=⟨_,rfl⟩;have ek:Hid (zs=z1 ++ if 0<d then [max c 1,d] else []):=by unfold Hid;rw[Ra.out,gT.out];rfl
 go_cut [6] from 7 to 24 (fun v6 wc=>Hid (tU w kx ky kr a b c d v6 z1 wc))
 case first =>
  have y0:=cell_of H0.y 0 (v:=.int .i64 c) rfl;have y1:=cell_of H0.y 1 (v:=.int .i64 d) rfl;have Oe:=H0.b.size;by_cases hc:c<0
  ·by_cases hd:-1<d
   ·have e1:min d (-1)=-1:=by omega
    go_wp2_with (first
    | (at_builtin;refine wpList_append_own_at _ rfl _ _ 35 rfl w.heap.size 3 i64 (.int .i64 0) 1 8 underlying35 uk uo um ug rfl (by decide) _ _ _ rfl (H0.z.alloc _) ⟨W.heap.size,0,none⟩ 2 2 [.int .i64 (c),.int .i64 (-1)] rfl rfl (World.news_of_block (cs:=#[.int .i64 (c),.int .i64 (-1)]) (t:=3) (fr:=(0,0)) (heap_alloc_new _ _)) (by intro u hu;simp at hu;rcases hu with rfl | rfl<;>rfl) (by unfold maxLen;first | omega | (simp;done) | (simp;omega)) (by first | omega | (simp;done) | (simp;omega)) (by simp;omega) ?_))
    intro v2 w2 gj dX _ _;have H2:Hid (tU w kx ky kr a b c d v2 z1 w2):=by unfold Hid;rw[gT.out,if_pos hc,e1];exact H0.more gj dX
    clear gj dX;go_wp2_with fail;go_meet
    case rel=>exact H2
   ·have e1:min d (-1)=d:=by omega
    go_wp2_with (first
    | (at_builtin;refine wpList_append_own_at _ rfl _ _ 35 rfl w.heap.size 3 i64 (.int .i64 0) 1 8 underlying35 uk uo um ug rfl (by decide) _ _ _ rfl (H0.z.alloc _) ⟨W.heap.size,0,none⟩ 2 2 [.int .i64 (c),.int .i64 (d)] rfl rfl (World.news_of_block (cs:=#[.int .i64 (c),.int .i64 (d)]) (t:=3) (fr:=(0,0)) (heap_alloc_new _ _)) (by intro u hu;simp at hu;rcases hu with rfl | rfl<;>rfl) (by unfold maxLen;first | omega | (simp;done) | (simp;omega)) (by first | omega | (simp;done) | (simp;omega)) (by simp;omega) ?_))
    intro v2 w2 gj dX _ _;have H2:Hid (tU w kx ky kr a b c d v2 z1 w2):=by unfold Hid;rw[gT.out,if_pos hc,e1];exact H0.more gj dX
    clear gj dX;go_wp2_with fail;go_meet
    case rel=>exact H2
  ·have H2:Hid (tU w kx ky kr a b c d (.slice none 0 0) z1 W):=by unfold Hid;rw[gT.out,if_neg hc];exact H0.out
   go_wp2_with fail;go_meet
   case rel=>exact H2
 case rest =>
  have H1:Hid (tU w kx ky kr a b c d u6 z1 wc):=hcut;obtain⟨a6,c6,e6⟩:=H1.z.form;subst e6;clear hcut H0;have uT:z1.length<=2:=by rw[gT.out];split<;>simp
  have y0:=cell_of H1.y 0 (v:=.int .i64 c) rfl;have y1:=cell_of H1.y 1 (v:=.int .i64 d) rfl;go_upto_if 27 with fail
  go_cut [6] from 8 to 37 (fun v6 wd=>Hid (tU w kx ky kr a b c d v6 zs wd))
  case first =>
   have Oe:=H1.b.size;by_cases hd:0<d
   ·by_cases hc:c<1
    ·have e1:max c 1=1:=by omega
     go_wp2_with (first
    | (at_builtin;refine wpList_append_own_at _ rfl _ _ 35 rfl w.heap.size 3 i64 (.int .i64 0) 1 8 underlying35 uk uo um ug rfl (by decide) _ _ _ rfl (H1.z.alloc _) ⟨wc.heap.size,0,none⟩ 2 2 [.int .i64 (1),.int .i64 (d)] rfl rfl (World.news_of_block (cs:=#[.int .i64 (1),.int .i64 (d)]) (t:=3) (fr:=(0,0)) (heap_alloc_new _ _)) (by intro u hu;simp at hu;rcases hu with rfl | rfl<;>rfl) (by unfold maxLen;first | omega | (simp;done) | (simp;omega)) (by first | omega | (simp;done) | (simp;omega)) (by simp;omega) ?_))
     intro v2 w2 gj dX _ _;have H2:Hid (tU w kx ky kr a b c d v2 zs w2):=by unfold Hid;rw[ek.out,if_pos hd,e1];exact H1.more gj dX
     clear gj dX;go_wp2_with fail;go_meet
     case rel=>exact H2
    ·have e1:max c 1=c:=by omega
     go_wp2_with (first
    | (at_builtin;refine wpList_append_own_at _ rfl _ _ 35 rfl w.heap.size 3 i64 (.int .i64 0) 1 8 underlying35 uk uo um ug rfl (by decide) _ _ _ rfl (H1.z.alloc _) ⟨wc.heap.size,0,none⟩ 2 2 [.int .i64 (c),.int .i64 (d)] rfl rfl (World.news_of_block (cs:=#[.int .i64 (c),.int .i64 (d)]) (t:=3) (fr:=(0,0)) (heap_alloc_new _ _)) (by intro u hu;simp at hu;rcases hu with rfl | rfl<;>rfl) (by unfold maxLen;first | omega | (simp;done) | (simp;omega)) (by first | omega | (simp;done) | (simp;omega)) (by simp;omega) ?_))
     intro v2 w2 gj dX _ _;have H2:Hid (tU w kx ky kr a b c d v2 zs w2):=by unfold Hid;rw[ek.out,if_pos hd,e1];exact H1.more gj dX
     clear gj dX;go_wp2_with fail;go_meet
     case rel=>exact H2
   ·have H2:Hid (tU w kx ky kr a b c d (.slice a6 z1.length c6) zs wc):=by unfold Hid;rw[ek.out,if_neg hd,List.append_nil];exact H1.out
    go_wp2_with fail;go_meet
    case rel=>exact H2
  case rest =>
   have H2:Hid (tU w kx ky kr a b c d u6 zs wc):=hcut;obtain⟨a6',c6',e6⟩:=H2.z.form;subst e6;have HNE:Hid (∀q∈zs,q≠0):=fun q hq=>vw (by rw[Ra.out]at hq;exact hq)
   have hlen:zs.length<=4:=by rw[Ra.out];unfold dk;rw[List.length_append];split<;>split<;>simp
   have hli:(zs.length:Int)<=4:=by omega
   have EQ:Hid (dO ⟨a,b⟩ ⟨c,d⟩=if zs=[] then none else some (cu (ee a b zs))):=by unfold Hid;rw[Ra.out];rfl
   clear hcut H1 gT Ra ek uT y0 y1;go_wp2_with fail
   go_loopw [9,10] (fun v9 v10 wr=>∃j:Nat,j<=zs.length/\v10=.int .i64 j/\Hid (mF wc.heap.size wr v9 (ee a b (zs.take j))/\Below wc.heap.size wc wr)) (fun _ v10 _=>zs.length - (intOf v10).toNat)
   case atStart=>exact⟨0,Nat.zero_le _,rfl,World.ownsRow_nil _ _ _ _,Below.refl _ _⟩
   case round =>
    obtain⟨j,hj,rfl,hq⟩:=hrel;obtain⟨aq,cq,rfl⟩:=hq.1.form;by_cases dW:j<zs.length
    ·have uq:((j:Nat):Int)<((zs.length:Nat):Int):=by omega
     obtain⟨z,hz⟩:∃z,zs[j]?=some z:=⟨_,List.getElem?_eq_getElem dW⟩;have db:zs≠[]:=by intro e;subst e;simp at dW
     obtain⟨g,cv',hv,xA,hg,gJ⟩:=H2.z.cell db;injection hv with e1 e2 e3
     subst e1;subst e3;clear e2;have NA:=gJ j z hz;have Tm:Hid (∀W:Wd,Below wc.heap.size wc W->W.cell? ⟨g,j,none⟩=some (.int .i64 z)/\W.cell? ⟨kx,0,none⟩=some (.int .i64 a)/\W.cell? ⟨kx,1,none⟩=some (.int .i64 b)):=fun W hW=>by
      refine⟨by rw[hW.cell (p:=⟨g,j,none⟩) hg];exact NA,?_,?_⟩
      ·rw[hW.cell (p:=⟨kx,0,none⟩) (ah H2.x)];exact cell_of H2.x 0 rfl
      ·rw[hW.cell (p:=⟨kx,1,none⟩) (ah H2.x)];exact cell_of H2.x 1 rfl
     have Hq:z≠0:=HNE.out z (List.mem_of_getElem? hz);have Oe:=hq.2.size;have AY:Hid (ee a b (zs.take (j+1))=ee a b (zs.take j) ++ [a.tdiv z,b.tdiv z]):=by have hk:=List.getElem?_eq_some_iff.1 hz;unfold Hid ee;rw[List.take_succ_eq_append_getElem hk.1,hk.2,List.flatMap_append];simp
     obtain⟨ta1,ta2⟩:=mQ (q:=z) h1 (by omega:a<=32767);obtain⟨tb1,tb2⟩:=mQ (a:=b) (q:=z) (by omega) h3;have rV:IntKind.i64.wrap (a.tdiv z)=a.tdiv z:=by rw[IntWalk.i64_in]<;>omega
     have Wp:IntKind.i64.wrap (b.tdiv z)=b.tdiv z:=by rw[IntWalk.i64_in]<;>omega
     have WO:(ee a b (zs.take j)).length<=100:=by
      have h2:(zs.take j).length<=4:=by rw[List.length_take];omega
      rw[lG];omega
     have VL:Hid (mF wc.heap.size wr.drew (.slice aq (ee a b (zs.take j)).length cq) (ee a b (zs.take j))):=aZ hq.1 (fun _ _=>rfl);have HB:=hid hq.2.drew;generalize ee a b (zs.take j)=L at *;clear hz gJ NA;go_wp2_with fail;refine wp_region_held_drew (S:=fun w':Wd=>Below wc.heap.size wc w') (by kernel_rfl) HB.out (fun aa=>?_);generalize wr.drew=V at *;refine tq 0 (.slice aq L.length cq) aa ?_;refine tq 1 (.pointer (some ⟨kx,0,none⟩)) aa ?_;refine tk 2 (.int .i64 a) rfl (fun w' h=>by have q:=(Tm.out _ h).2.1;go_simp) aa ?_;refine tq 3 (.slice (some ⟨g,0,none⟩) zs.length c6') aa ?_;refine tq 4 (.int .i64 (j:Nat)) aa ?_;refine tq 5 (.pointer (some ⟨g,j,none⟩)) aa ?_;refine tk 6 (.int .i64 z) rfl (fun w' h=>by have q:=(Tm.out _ h).1;go_simp) aa ?_;refine tq 7 (.int .i64 (a.tdiv z)) aa ?_;refine tq 8 (.pointer (some ⟨kx,1,none⟩)) aa ?_;refine tk 9 (.int .i64 b) rfl (fun w' h=>by have q:=(Tm.out _ h).2.2;go_simp) aa ?_;refine tq 10 (.slice (some ⟨g,0,none⟩) zs.length c6') aa ?_;refine tq 11 (.int .i64 (j:Nat)) aa ?_;refine tq 12 (.pointer (some ⟨g,j,none⟩)) aa ?_;refine tk 13 (.int .i64 z) rfl (fun w' h=>by have q:=(Tm.out _ h).1;go_simp) aa ?_;refine tq 14 (.int .i64 (b.tdiv z)) aa ?_;refine cH 15 fun K hK=>?_
     simp only[bT,gN];go_simp;refine hK.out _ _ (aa.alloc aa.size _) (fun _=>?_);clear hK K;refine cH 16 fun K hK=>?_
     refine step_append_lies _ (by rfl) _ _ _ (by rfl) wc.heap.size 3 i64 (.int .i64 0) 1 8 underlying35 uk uo um ug rfl (by omega) (.slice aq L.length cq) L.length (ints L) (by rfl) (VL.alloc _)
      ⟨V.heap.size,0,none⟩ 2 2 [.int .i64 (a.tdiv z),.int .i64 (b.tdiv z)] (by rfl) (by rfl) (World.news_of_block (cs:=#[.int .i64 (a.tdiv z),.int .i64 (b.tdiv z)]) (t:=3) (fr:=(0,0)) (heap_alloc_new V _)) (by simp[Value.oneCell'])
      (by omega) (by unfold maxLen;omega) (by omega) (by simp;have:=aa.size;omega) (V.heap.size+1) (by simp) ?_
     intro gg cap w3 ir eM S5 Th;have HQ:Hid (mF wc.heap.size w3 (.slice (some ⟨gg,0,none⟩) (L.length+2) cap) (ee a b (zs.take (j+1)))/\Below wc.heap.size wc w3):=by unfold Hid;rw[AY.out];exact iD (o:=.cells #[.int .i64 (a.tdiv z),.int .i64 (b.tdiv z)] 3) aa.size VL.out ir eM aa
     clear ir eM S5 Th;refine hK.out _ _ HQ.2 (fun _=>?_);clear hK K;refine cH 17 fun K hK=>?_
     simp only[bT];go_simp;refine hK.out _ _ HQ.2 (fun _=>?_);clear hK K;refine wpAnyH_done (by kernel_rfl) ?_ _;go_wp2_with fail;exact⟨⟨j+1,by omega,by go_num,HQ⟩,by simp[intOf];omega⟩
    ·have ej:zs.take j=zs:=List.take_of_length_le (by omega)
     have zp:=(hq.2.block _ (ah H2.r)).trans H2.r;have HR3:=hid zp;have B3:Hid (Below w.heap.size w wr):=H2.b.trans (hq.2.mono H2.b.size);have eN:mF wc.heap.size wr (.slice aq (ee a b (zs.take j)).length cq) (ee a b (zs.take j)):=hq.1;rw[ej]at eN ⊢;by_cases db:zs=[]
     ·subst db
      have E:Hid (dO ⟨a,b⟩ ⟨c,d⟩=none):=by unfold Hid;rw[EQ.out,if_pos rfl]
      obtain⟨m0,m1,kh,kj,mq⟩:=aH zp;have MQ:=hid (mq (.int .i64 0) (.int .i64 0));clear mq eN zp hq;have e0:(ee a b []).length=0:=rfl;rw[e0];go_wp2_with fail;exact bodyPost_ret (v:=.tuple #[.agg #[.int .i64 0,.int .i64 0],.bool false]) (by simp[results,results183,go_sem,MQ.1,MQ.2]) rfl ⟨by rw[E.out];rfl,(B3.setCell (p:=⟨kr,0,none⟩) l3 _).setCell (p:=⟨kr,1,none⟩) l3 _⟩
     ·have E:Hid (dO ⟨a,b⟩ ⟨c,d⟩=some (cu (ee a b zs))):=by unfold Hid;rw[EQ.out,if_neg db]
      have NO:ee a b zs≠[]:=by
       intro e;have h1:=lG a b zs;rw[e]at h1;have h2:zs.length=0:=by simp at h1;omega
       exact db (List.eq_nil_of_length_eq_zero h2)
      have WO:(ee a b zs).length<=100:=by rw[lG];omega
      obtain⟨g,cc,hv,xA,hg,gJ⟩:=eN.cell NO;injection hv with e1 e2 e3
      subst e1;subst e3;have TI:0<(ee a b zs).length:=List.length_pos_iff.2 NO;have HH:=hid (G7 g cq (ee a b zs) wr hg TI (by omega) gJ);generalize cu (ee a b zs)=hvv at *;generalize (ee a b zs).length=m at *;have hm0:¬ ((m:Int)=0):=by omega
      have uQ:((m:Int) == 0)=false:=by simpa using hm0
      clear eN zp hq gJ;go_wp2_with fail;refine HH.mono ?_;rintro e w4⟨rfl,b4⟩;have od:=(b4.block _ (ah HR3.out)).trans HR3.out;have B4:Hid (Below w.heap.size w (w4.alloc (.cells #[.int .i64 hvv.a,.int .i64 hvv.b] 191))):=(B3.trans (b4.mono B3.size)).alloc (B3.trans (b4.mono B3.size)).size _;have oS:(w4.alloc (.cells #[.int .i64 hvv.a,.int .i64 hvv.b] 191)).heap[kr]?=_:=heap_alloc_old od;have mr:=heap_alloc_new w4 (.cells #[.int .i64 hvv.a,.int .i64 hvv.b] 191);have n0:=cell_of mr 0 (v:=.int .i64 hvv.a) rfl;have n1:=cell_of mr 1 (v:=.int .i64 hvv.b) rfl;obtain⟨m0,m1,kh,kj,mq⟩:=aH oS;have MQ:=hid (mq (.int .i64 hvv.a) (.int .i64 hvv.b));clear mq b4 od oS mr;go_wp2_with fail;exact bodyPost_ret (v:=.tuple #[.agg #[.int .i64 hvv.a,.int .i64 hvv.b],.bool true]) (by simp[results,results183,go_sem,MQ.1,MQ.2]) rfl ⟨by rw[E.out];rfl,(B4.setCell (p:=⟨kr,0,none⟩) l3 _).setCell (p:=⟨kr,1,none⟩) l3 _⟩
theorem OA(a b c d:Int)(w:Wd)(h1:-32768<=a)(h2:a<=b)(h3:b<=32767)(h4:-32768<=c)(h5:c<=d)(h6:d<=32767) :
  Calls prog 145 #[.agg #[.int .i64 a,.int .i64 b],.string ⟨#[43]⟩,.agg #[.int .i64 c,.int .i64 d]] w fun e w'=>e=.returned (qj (cp 0 ⟨a,b⟩ ⟨c,d⟩))/\Below w.heap.size w w':=by
 obtain⟨t,ht⟩:∃t,Hid (t=cJ (a+c) (b+d)):=⟨_,rfl⟩;have E:Hid (cp 0 ⟨a,b⟩ ⟨c,d⟩=some t):=by unfold Hid;rw[ht.out];rfl
 have HW:Hid (∀W:Wd,Calls prog 180 #[.int .i64 (a+c),.int .i64 (b+d)] W fun e w'=>e=.returned (.agg #[.int .i64 t.a,.int .i64 t.b])/\Below W.heap.size W w'):=fun W=>by rw[ht.out];exact oU _ _ W
 clear ht;go_enter func145,ntmps145;go_wp2_with fail;refine(HW.out _).mono ?_;rintro e w1⟨rfl,b1⟩;obtain⟨_,_,hz,bw⟩:=bY b1;have oS:(w1.alloc (.cells #[.int .i64 t.a,.int .i64 t.b] 191)).heap[w.heap.size+1+1]?=_:=heap_alloc_old hz;have mr:=heap_alloc_new w1 (.cells #[.int .i64 t.a,.int .i64 t.b] 191);have n0:=cell_of mr 0 (v:=.int .i64 t.a) rfl;have n1:=cell_of mr 1 (v:=.int .i64 t.b) rfl;obtain⟨m0,m1,kh,kj,mq⟩:=aH oS;have MQ:=hid (mq (.int .i64 t.a) (.int .i64 t.b));have BW:Hid (Below w.heap.size w (w1.alloc (.cells #[.int .i64 t.a,.int .i64 t.b] 191))):=bw.alloc bw.size _;clear mq b1 hz oS mr bw HW;go_wp2_with fail;exact bodyPost_ret (v:=.tuple #[.agg #[.int .i64 t.a,.int .i64 t.b],.bool true]) (by simp[results,results145,go_sem,MQ.1,MQ.2]) rfl ⟨lZ (r:=cp 0 ⟨a,b⟩ ⟨c,d⟩) E.out,(BW.setCell (p:=⟨w.heap.size+1+1,0,none⟩) (by show w.heap.size<=w.heap.size+1+1;omega) _).setCell (p:=⟨w.heap.size+1+1,1,none⟩) (by show w.heap.size<=w.heap.size+1+1;omega) _⟩
theorem Pz(a b c d:Int)(w:Wd)(h1:-32768<=a)(h2:a<=b)(h3:b<=32767)(h4:-32768<=c)(h5:c<=d)(h6:d<=32767) :
  Calls prog 145 #[.agg #[.int .i64 a,.int .i64 b],.string ⟨#[45]⟩,.agg #[.int .i64 c,.int .i64 d]] w fun e w'=>e=.returned (qj (cp 1 ⟨a,b⟩ ⟨c,d⟩))/\Below w.heap.size w w':=by
 obtain⟨t,ht⟩:∃t,Hid (t=cJ (a - d) (b - c)):=⟨_,rfl⟩;have E:Hid (cp 1 ⟨a,b⟩ ⟨c,d⟩=some t):=by unfold Hid;rw[ht.out];rfl
 have HW:Hid (∀W:Wd,Calls prog 180 #[.int .i64 (a - d),.int .i64 (b - c)] W fun e w'=>e=.returned (.agg #[.int .i64 t.a,.int .i64 t.b])/\Below W.heap.size W w'):=fun W=>by rw[ht.out];exact oU _ _ W
 clear ht;go_enter func145,ntmps145;go_wp2_with fail;refine(HW.out _).mono ?_;rintro e w1⟨rfl,b1⟩;obtain⟨_,_,hz,bw⟩:=bY b1;have oS:(w1.alloc (.cells #[.int .i64 t.a,.int .i64 t.b] 191)).heap[w.heap.size+1+1]?=_:=heap_alloc_old hz;have mr:=heap_alloc_new w1 (.cells #[.int .i64 t.a,.int .i64 t.b] 191);have n0:=cell_of mr 0 (v:=.int .i64 t.a) rfl;have n1:=cell_of mr 1 (v:=.int .i64 t.b) rfl;obtain⟨m0,m1,kh,kj,mq⟩:=aH oS;have MQ:=hid (mq (.int .i64 t.a) (.int .i64 t.b));have BW:Hid (Below w.heap.size w (w1.alloc (.cells #[.int .i64 t.a,.int .i64 t.b] 191))):=bw.alloc bw.size _;clear mq b1 hz oS mr bw HW;go_wp2_with fail;exact bodyPost_ret (v:=.tuple #[.agg #[.int .i64 t.a,.int .i64 t.b],.bool true]) (by simp[results,results145,go_sem,MQ.1,MQ.2]) rfl ⟨lZ (r:=cp 1 ⟨a,b⟩ ⟨c,d⟩) E.out,(BW.setCell (p:=⟨w.heap.size+1+1,0,none⟩) (by show w.heap.size<=w.heap.size+1+1;omega) _).setCell (p:=⟨w.heap.size+1+1,1,none⟩) (by show w.heap.size<=w.heap.size+1+1;omega) _⟩
theorem OI(a b c d:Int)(w:Wd)(h1:-32768<=a)(h2:a<=b)(h3:b<=32767)(h4:-32768<=c)(h5:c<=d)(h6:d<=32767) :
  Calls prog 145 #[.agg #[.int .i64 a,.int .i64 b],.string ⟨#[42]⟩,.agg #[.int .i64 c,.int .i64 d]] w fun e w'=>e=.returned (qj (cp 2 ⟨a,b⟩ ⟨c,d⟩))/\Below w.heap.size w w':=by
 obtain⟨t,ht⟩:∃t,Hid (t=cu [a*c,a*d,b*c,b*d]):=⟨_,rfl⟩;have E:Hid (cp 2 ⟨a,b⟩ ⟨c,d⟩=some t):=by unfold Hid;rw[ht.out];rfl
 have HW:Hid (∀(W:Wd) (k:Nat),k=W.heap.size->Calls prog 182 #[.slice (some ⟨k,0,none⟩) 4 4] (W.alloc (.cells #[.int .i64 (a*c),.int .i64 (a*d),.int .i64 (b*c),.int .i64 (b*d)] 3)) fun e w'=>e=.returned (.agg #[.int .i64 t.a,.int .i64 t.b])/\Below W.heap.size W w'):=fun W k hk=>by rw[ht.out];exact yy _ _ _ _ W k hk
 clear ht;obtain⟨p1,p2⟩:=gW h1 (by omega:a<=32767) h4 (by omega:c<=32767);obtain⟨p3,p4⟩:=gW h1 (by omega:a<=32767) (by omega:-32768<=d) h6;obtain⟨p5,p6⟩:=gW (by omega:-32768<=b) h3 h4 (by omega:c<=32767);obtain⟨p7,p8⟩:=gW (by omega:-32768<=b) h3 (by omega:-32768<=d) h6;go_enter func145,ntmps145;go_wp2_with fail;refine(HW.out _ _ (by simp)).mono ?_;rintro e w1⟨rfl,b1⟩;obtain⟨_,_,hz,bw⟩:=bY b1;have oS:(w1.alloc (.cells #[.int .i64 t.a,.int .i64 t.b] 191)).heap[w.heap.size+1+1]?=_:=heap_alloc_old hz;have mr:=heap_alloc_new w1 (.cells #[.int .i64 t.a,.int .i64 t.b] 191);have n0:=cell_of mr 0 (v:=.int .i64 t.a) rfl;have n1:=cell_of mr 1 (v:=.int .i64 t.b) rfl;obtain⟨m0,m1,kh,kj,mq⟩:=aH oS;have MQ:=hid (mq (.int .i64 t.a) (.int .i64 t.b));have BW:Hid (Below w.heap.size w (w1.alloc (.cells #[.int .i64 t.a,.int .i64 t.b] 191))):=bw.alloc bw.size _;clear mq b1 hz oS mr bw HW;go_wp2_with fail;exact bodyPost_ret (v:=.tuple #[.agg #[.int .i64 t.a,.int .i64 t.b],.bool true]) (by simp[results,results145,go_sem,MQ.1,MQ.2]) rfl ⟨lZ (r:=cp 2 ⟨a,b⟩ ⟨c,d⟩) E.out,(BW.setCell (p:=⟨w.heap.size+1+1,0,none⟩) (by show w.heap.size<=w.heap.size+1+1;omega) _).setCell (p:=⟨w.heap.size+1+1,1,none⟩) (by show w.heap.size<=w.heap.size+1+1;omega) _⟩
theorem O1(a b c d:Int)(w:Wd)(h1:-32768<=a)(h2:a<=b)(h3:b<=32767)(h4:-32768<=c)(h5:c<=d)(h6:d<=32767) :
  Calls prog 145 #[.agg #[.int .i64 a,.int .i64 b],.string ⟨#[47]⟩,.agg #[.int .i64 c,.int .i64 d]] w fun e w'=>e=.returned (qj (cp 3 ⟨a,b⟩ ⟨c,d⟩))/\Below w.heap.size w w':=by
 have E:Hid (cp 3 ⟨a,b⟩ ⟨c,d⟩=dO ⟨a,b⟩ ⟨c,d⟩):=rfl;have HW:Hid (∀W:Wd,Calls prog 183 #[.agg #[.int .i64 a,.int .i64 b],.agg #[.int .i64 c,.int .i64 d]] W fun e w'=>e=.returned (qj (dO ⟨a,b⟩ ⟨c,d⟩))/\Below W.heap.size W w'):=fun W=>Cq a b c d W h1 h2 h3 h4 h5 h6
 rw[E.out];clear E;generalize dO ⟨a,b⟩ ⟨c,d⟩=res at *;go_enter func145,ntmps145;go_wp2_with fail;refine(HW.out _).mono ?_;rintro e w1⟨rfl,b1⟩;obtain⟨_,_,hz,bw⟩:=bY b1;obtain⟨m0,m1,kh,kj,mq⟩:=aH hz;have BW:=hid bw;clear b1 hz bw HW;cases res with
 | none =>have MQ:=hid (mq (.int .i64 0) (.int .i64 0));clear mq;simp only[qj];go_wp2_with fail;exact bodyPost_ret (v:=.tuple #[.agg #[.int .i64 0,.int .i64 0],.bool false]) (by simp[results,results145,go_sem,MQ.1,MQ.2]) rfl ⟨rfl,(BW.setCell (p:=⟨w.heap.size+1+1,0,none⟩) (by show w.heap.size<=w.heap.size+1+1;omega) _).setCell (p:=⟨w.heap.size+1+1,1,none⟩) (by show w.heap.size<=w.heap.size+1+1;omega) _⟩
 | some t =>have MQ:=hid (mq (.int .i64 t.a) (.int .i64 t.b));clear mq;simp only[qj];go_wp2_with fail;exact bodyPost_ret (v:=.tuple #[.agg #[.int .i64 t.a,.int .i64 t.b],.bool true]) (by simp[results,results145,go_sem,MQ.1,MQ.2]) rfl ⟨rfl,(BW.setCell (p:=⟨w.heap.size+1+1,0,none⟩) (by show w.heap.size<=w.heap.size+1+1;omega) _).setCell (p:=⟨w.heap.size+1+1,1,none⟩) (by show w.heap.size<=w.heap.size+1+1;omega) _⟩
theorem PE(a b c d:Int)(w:Wd)(h1:-32768<=a)(h2:a<=b)(h3:b<=32767)(h4:-32768<=c)(h5:c<=d)(h6:d<=32767) :
  Calls prog 145 #[.agg #[.int .i64 a,.int .i64 b],.string ⟨#[37]⟩,.agg #[.int .i64 c,.int .i64 d]] w fun e w'=>e=.returned (qj (cp 4 ⟨a,b⟩ ⟨c,d⟩))/\Below w.heap.size w w':=by
 have E:Hid (cp 4 ⟨a,b⟩ ⟨c,d⟩=gz ⟨a,b⟩ ⟨c,d⟩):=rfl;have HW:Hid (∀W:Wd,Calls prog 184 #[.agg #[.int .i64 a,.int .i64 b],.agg #[.int .i64 c,.int .i64 d]] W fun e w'=>e=.returned (qj (gz ⟨a,b⟩ ⟨c,d⟩))/\Below W.heap.size W w'):=fun W=>OT a b c d W h1 h2 h3 h4 h5 h6
 rw[E.out];clear E;generalize gz ⟨a,b⟩ ⟨c,d⟩=res at *;go_enter func145,ntmps145;go_wp2_with fail;refine(HW.out _).mono ?_;rintro e w1⟨rfl,b1⟩;obtain⟨_,_,hz,bw⟩:=bY b1;obtain⟨m0,m1,kh,kj,mq⟩:=aH hz;have BW:=hid bw;clear b1 hz bw HW;cases res with
 | none =>have MQ:=hid (mq (.int .i64 0) (.int .i64 0));clear mq;simp only[qj];go_wp2_with fail;exact bodyPost_ret (v:=.tuple #[.agg #[.int .i64 0,.int .i64 0],.bool false]) (by simp[results,results145,go_sem,MQ.1,MQ.2]) rfl ⟨rfl,(BW.setCell (p:=⟨w.heap.size+1+1,0,none⟩) (by show w.heap.size<=w.heap.size+1+1;omega) _).setCell (p:=⟨w.heap.size+1+1,1,none⟩) (by show w.heap.size<=w.heap.size+1+1;omega) _⟩
 | some t =>have MQ:=hid (mq (.int .i64 t.a) (.int .i64 t.b));clear mq;simp only[qj];go_wp2_with fail;exact bodyPost_ret (v:=.tuple #[.agg #[.int .i64 t.a,.int .i64 t.b],.bool true]) (by simp[results,results145,go_sem,MQ.1,MQ.2]) rfl ⟨rfl,(BW.setCell (p:=⟨w.heap.size+1+1,0,none⟩) (by show w.heap.size<=w.heap.size+1+1;omega) _).setCell (p:=⟨w.heap.size+1+1,1,none⟩) (by show w.heap.size<=w.heap.size+1+1;omega) _⟩
theorem BJ(k:Nat)(hk:k<5)(a b c d:Int)(w:Wd)(h1:-32768<=a)(h2:a<=b)(h3:b<=32767)(h4:-32768<=c)(h5:c<=d)(h6:d<=32767) :
  Calls prog 145 #[.agg #[.int .i64 a,.int .i64 b],.string ⟨(cD k).toArray⟩,.agg #[.int .i64 c,.int .i64 d]] w fun e w'=>e=.returned (qj (cp k ⟨a,b⟩ ⟨c,d⟩))/\Below w.heap.size w w':=by
 rcases(show k=0∨k=1∨k=2∨k=3∨k=4 from by omega) with rfl | rfl | rfl | rfl | rfl
 ·exact OA a b c d w h1 h2 h3 h4 h5 h6
 ·exact Pz a b c d w h1 h2 h3 h4 h5 h6
 ·exact OI a b c d w h1 h2 h3 h4 h5 h6
 ·exact O1 a b c d w h1 h2 h3 h4 h5 h6
 ·exact PE a b c d w h1 h2 h3 h4 h5 h6
end
end Go.Proofs.YtiopfihjmkfdmaaGreatDoor
