import Derived.Test.YtiopfihjmkfdmaaGreatDoorR19
import Derived.Deep.CutRange
namespace Go.Proofs.YtiopfihjmkfdmaaGreatDoor
open Go.Value renaming int→I,agg→J,bool→U,tuple→φ,slice→Z,pointer→ρ
open Go.IntKind renaming i64→O,i16→ψ
open Option renaming some→Y,none→M
open Go.Ending renaming returned→υ
open Go.Obj renaming cells→L
open Go.Proofs.Tryz Sp
open Go.RowKit
set_option maxRecDepth 100000
set_option maxHeartbeats 16000000
section
variable{a b c d:Int}
variable{r:Option Sp.Cg}
variable{w W W':Wd}
variable{kx ky kr:Nat}
def jG:Option Sp.Cg->Value
 | some x=>φ #[J #[I O (x.m:Nat),I O x.r],U true]
 | none=>φ #[J #[I O 0,I O 0],U false]
theorem iS{a:Nat}(h:r=Y ⟨a,b⟩):Ending.returned (φ #[J #[I O (a:Nat),I O b],U true])=υ (jG r):=by rw[h];rfl
theorem lS(h:r=M):Ending.returned (φ #[J #[I O 0,I O 0],U false])=υ (jG r):=by rw[h];rfl
theorem ch(m:Nat)(r:Int)(w:Wd) :
  Calls prog 294 #[J #[I O (m:Nat),I O r]] w fun e w'=>e=υ (U (decide (m=0)))/\ω w w':=by
 go_enter func294,ntmps294;go_wp2_with fail;go_returns;exact⟨eK (by rw[Bool.eq_iff_iff];simp;try omega),by go_grown⟩
theorem lV(n:Int)(w:Wd)(h1:-32768<=n)(h2:n<=32767) :
  Calls prog 301 #[J #[],I ψ n] w fun e w'=>e=υ (J #[I O 0,I O n])/\ω w w':=by
 go_enter func301,ntmps301;go_wp2_with fail;go_returns;exact⟨rfl,by go_grown⟩
theorem DR(w:Wd) :
  Calls prog 303 #[J #[]] w fun e w'=>e=υ (J #[I O 1,I O 0])/\ω w w':=by
 go_enter func303,ntmps303;go_wp2_with fail;go_returns;exact⟨rfl,by go_grown⟩
theorem Iw(m:Nat)(r:Int)(w:Wd) :
  Calls prog 296 #[J #[],J #[I O (m:Nat),I O r]] w fun e w'=>e=υ (U (decide (r=0)))/\ω w w':=by
 go_enter func296,ntmps296;go_wp2_with fail;go_returns;exact⟨eK (by rw[Bool.eq_iff_iff];simp),by go_grown⟩
theorem Mg(a b c d:Int)(w:Wd) :
  Calls prog 304 #[J #[],J #[I O a,I O b],J #[I O c,I O d]] w fun e w'=>e=υ (J #[I O c,I O d])/\ω w w':=by
 go_enter func304,ntmps304;go_wp2_with fail;go_returns;exact⟨rfl,by go_grown⟩
theorem Jk(a b c d:Int)(w:Wd) :
  Calls prog 299 #[J #[],J #[I O a,I O b],J #[I O c,I O d]] w fun e w'=>e=υ (J #[I O a,I O b])/\ω w w':=by
 go_enter func299,ntmps299;go_wp2_with fail;go_returns;exact⟨rfl,by go_grown⟩
theorem PH(a b:Int)(w:Wd) :
  Calls prog 302 #[J #[],J #[I O a,I O b]] w fun e w'=>e=υ (J #[I O a,I O b])/\ω w w':=by
 go_enter func302,ntmps302;go_wp2_with fail;go_returns;exact⟨rfl,by go_grown⟩
theorem GM(n m:Int)(w:Wd)(h0:0<m)(h1:m<=17179869184) :
  Calls prog 314 #[I O n,I O m] w fun e w'=>e=υ (I O (n % m))/\w'=w:=by
 have hm:¬ m=0:=by omega
 have t1:-m<n.tmod m:=Int.lt_tmod_of_pos n h0;have t2:n.tmod m<m:=Int.tmod_lt_of_pos n h0;have E:Hid ((n.tmod m+m).tmod m=n % m):=Sp.left_eq n h0;have e3:0<=n % m:=Int.emod_nonneg _ (by omega);have e4:n % m<m:=Int.emod_lt_of_pos _ h0;rw[<-E.out]at e3 e4;have w1:IntKind.i64.wrap (n.tmod m)=n.tmod m:=by rw[IntWalk.i64_in]<;>omega
 have w2:IntKind.i64.wrap (n.tmod m+m)=n.tmod m+m:=by rw[IntWalk.i64_in]<;>omega
 have w3:IntKind.i64.wrap ((n.tmod m+m).tmod m)=(n.tmod m+m).tmod m:=by rw[IntWalk.i64_in]<;>omega
 go_enter func314,ntmps314;go_wp2_with fail;go_ret;have E2:(n.tmod m+m) % m=n % m:=by rw[<-E.out];exact(Int.tmod_eq_emod_of_nonneg (a:=n.tmod m+m) (by omega)).symm
 exact⟨by show Ending.returned (I O ((n.tmod m+m) % m))=_;rw[E2],rfl⟩
theorem oP(k:Nat)(n:Int)(w:Wd)(hk:(k:Int)<=17179869184) :
  Calls prog 307 #[I O (k:Nat),I O n] w fun e w'=>e=υ (J #[I O ((cG k n).m:Nat),I O (cG k n).r])/\ω w w':=by
 unfold cG;by_cases h0:k=0
 ·rw[if_pos h0]
  subst h0;go_enter func307,ntmps307;go_wp2_with fail;go_returns;exact⟨rfl,by go_grown⟩
 ·rw[if_neg h0]
  simp only[jX];have qd:¬ (k:Int)=0:=by omega
  obtain⟨t,ht⟩:∃t,Hid (t=n % (k:Int)):=⟨_,rfl⟩;rw[<-ht.out];have HC:Hid (∀W,Calls _ _ _ W _):=fun W=>GM n (k:Int) W (by omega) hk
  rw[<-ht.out]at HC;go_enter func307,ntmps307;go_wp2_with fail;refine(HC.out _).mono ?_;rintro e w1⟨rfl,rfl⟩;go_wp2_with fail;go_returns;exact⟨rfl,by go_grown⟩
theorem JW(zs:List Int)(j:Nat)(z:Int)(h:zs[j]?=Y z):qz (zs.take (j+1))=Nat.gcd (qz (zs.take j)) z.natAbs:=by obtain⟨h1,h2⟩:=List.getElem?_eq_some_iff.1 h;rw[List.take_succ_eq_append_getElem h1,h2,Jh]
theorem rl(zs:List Int)(hz:∀z∈zs,z.natAbs<=17179869184):qz zs<=17179869184:=by
 suffices ∀(zs:List Int) (g:Nat),g<=17179869184->(∀z∈zs,z.natAbs<=17179869184)->zs.foldl (fun g z=>Nat.gcd g z.natAbs) g<=17179869184 from this zs 0 (by omega) hz
 intro zs
 induction zs with
 | nil=>intro g hg _;exact hg
 | cons z zs ih =>
  intro g hg h;refine ih _ ?_ (fun z hz=>h z (by simp[hz]))
  rcases Nat.eq_zero_or_pos g with rfl | hp
  ·show Nat.gcd 0 z.natAbs<=_
   rw[Nat.gcd_zero_left];exact h z (by simp)
  ·exact Nat.le_trans (Nat.gcd_le_left _ hp) hg
theorem Ny(g cap:Nat)(zs:List Int)(w:Wd)(hg:g<w.heap.size)(hn:zs.length<=100)(hz:∀z∈zs,z.natAbs<=17179869184)(hc:∀(j:Nat) (z:Int),zs[j]?=Y z->w.cell? ⟨g,j,M⟩=Y (I O z)) :
  Calls prog 308 #[Z (Y ⟨g,0,M⟩) zs.length cap] w fun e w'=>e=υ (I O (qz zs:Nat))/\ω w w':=by
 have hlen:(zs.length:Int)<=100:=by omega
 have HC:Hid (∀(j:Nat) (z:Int),zs[j]?=Y z->w.cell? ⟨g,j,M⟩=Y (I O z)):=hc;have HZ:=hid hz;clear hc hz;go_enter func308,ntmps308;go_wp2_with fail
 go_loopw [3,8] (fun v3 v8 wr=>∃(j:Nat) (x:Int),j<=zs.length/\v8=I O j/\v3=I O x/\Hid (x.natAbs=qz (zs.take j))/\Hid (ω w wr)) (fun _ v8 _=>zs.length - (intOf v8).toNat)
 case atStart=>exact⟨0,0,Nat.zero_le _,rfl,rfl,rfl,Below.refl _ _⟩
 case round =>
  obtain⟨j,x,hj,rfl,rfl,hx,hb⟩:=hrel;by_cases gu:j<zs.length
  ·have yf:((j:Nat):Int)<((zs.length:Nat):Int):=by omega
   obtain⟨z,hzj⟩:∃z,zs[j]?=Y z:=⟨_,List.getElem?_eq_getElem gu⟩;have TT:wr.cell? ⟨g,j,M⟩=Y (I O z):=by rw[hb.cell (p:=⟨g,j,M⟩) hg];exact HC.out j z hzj
   have hzb:=HZ.out z (List.mem_of_getElem? hzj);have UU:x.natAbs<=17179869184:=by rw[hx.out];exact rl _ (fun z hz=>HZ.out z (List.mem_of_mem_take hz))
   have HT:=JW zs j z hzj;rw[<-hx.out]at HT;have HG:=hid HT;clear HT hzj hx;go_wp2_with fail
   go_loopw [3,5] (fun v3 v5 ws=>∃a b:Int,v3=I O a/\v5=I O b/\a.natAbs<=17179869184/\b.natAbs<=17179869184/\Hid (qz (zs.take (j+1))=Nat.gcd a.natAbs b.natAbs)/\Hid (ω w ws)) (fun _ v5 _=>(intOf v5).natAbs)
   case atStart=>exact⟨x,z,rfl,rfl,UU,hzb,HG,hb⟩
   case round =>
    obtain⟨a,b,rfl,rfl,ha,hbb,N5,hq⟩:=hrel;by_cases Qz:b=0
    ·subst Qz
     have Qo:Hid (a.natAbs=qz (zs.take (j+1))):=by unfold Hid;rw[N5.out];simp
     go_wp2_with fail;exact⟨⟨j+1,a,by omega,by go_num,rfl,Qo,hq⟩,by simp[intOf];omega⟩
    ·have hl:=xF a Qz
     have Qo:Hid (qz (zs.take (j+1))=Nat.gcd b.natAbs (a.tmod b).natAbs):=by unfold Hid;rw[N5.out,zD]
     have Kp:IntKind.i64.wrap (a.tmod b)=a.tmod b:=by rw[IntWalk.i64_in]<;>omega
     go_wp2_with fail
     go_region_with (fail)
     all_goals
      go_wp2_with fail;exact⟨⟨_,_,_,_,_,_,_,_,⟨b,a.tmod b,rfl,rfl,hbb,by omega,Qo,hq.drew⟩,rfl⟩,hl⟩
  ·obtain rfl:j=zs.length:=by omega
   have hxe:x.natAbs=qz zs:=by have:=hx.out;rwa [List.take_length]at this
   have HX:Hid (x.natAbs=qz zs):=hxe;have UU:x.natAbs<=17179869184:=by rw[hxe];exact rl _ HZ.out
   clear hxe hx;go_wp2_with fail
   all_goals
    go_ret;rw[<-HX.out]
    first
     | exact⟨congrArg (fun z:Int=>Ending.returned (I O z)) (show -x=(x.natAbs:Int) by omega),hb.out⟩
     | exact⟨congrArg (fun z:Int=>Ending.returned (I O z)) (show x=(x.natAbs:Int) by omega),hb.out⟩
     | exact⟨congrArg (fun z:Int=>Ending.returned (I O z)) (show max x (-x)=(x.natAbs:Int) by omega),hb.out⟩
theorem rV(a b:Int)(W:Wd)(ha:a.natAbs<=17179869184)(hb:b.natAbs<=17179869184) :
  Calls prog 308 #[Z (Y ⟨W.heap.size,0,M⟩) 2 2] (W.alloc (L #[I O a,I O b] 2)) fun e w'=>e=υ (I O (Nat.gcd a.natAbs b.natAbs:Nat))/\ω W w':=by
 have hn:=heap_alloc_new W (L #[I O a,I O b] 2);have h:=Ny W.heap.size 2 [a,b] (W.alloc (L #[I O a,I O b] 2)) (by simp) (by simp) (by
  intro z hz;simp at hz
  rcases hz with rfl | rfl
  ·exact ha
  ·exact hb) (fun j z hz=>by
  match j,hz with
  | 0,hz=>cases hz;exact cell_of hn 0 rfl
  | 1,hz=>cases hz;exact cell_of hn 1 rfl)
 rw[Mp]at h;refine h.mono ?_;rintro e w'⟨rfl,b⟩;exact⟨rfl,(gO b).1⟩
theorem wB(a b c:Int)(W:Wd)(ha:a.natAbs<=17179869184)(hb:b.natAbs<=17179869184)(WT:c.natAbs<=17179869184) :
  Calls prog 308 #[Z (Y ⟨W.heap.size,0,M⟩) 3 3] (W.alloc (L #[I O a,I O b,I O c] 2)) fun e w'=>e=υ (I O (Nat.gcd (Nat.gcd a.natAbs b.natAbs) c.natAbs:Nat))/\ω W w':=by
 have hn:=heap_alloc_new W (L #[I O a,I O b,I O c] 2);have h:=Ny W.heap.size 3 [a,b,c] (W.alloc (L #[I O a,I O b,I O c] 2)) (by simp) (by simp) (by
  intro z hz;simp at hz
  rcases hz with rfl | rfl | rfl
  ·exact ha
  ·exact hb
  ·exact WT) (fun j z hz=>by
  match j,hz with
  | 0,hz=>cases hz;exact cell_of hn 0 rfl
  | 1,hz=>cases hz;exact cell_of hn 1 rfl
  | 2,hz=>cases hz;exact cell_of hn 2 rfl)
 rw[mO]at h;refine h.mono ?_;rintro e w'⟨rfl,b⟩;exact⟨rfl,(gO b).1⟩
structure ek(w:Wd)(kx ky kr:Nat)(a b c d:Int)(W:Wd):Prop where
 x:W.heap[kx]?=Y (L #[I O a,I O b] 126)
 y:W.heap[ky]?=Y (L #[I O c,I O d] 126)
 r:∃u v,W.heap[kr]?=Y (L #[u,v] 126)
 b:ω w W
theorem ek.call(h:ek w kx ky kr a b c d W)(k:ω W W'):ek w kx ky kr a b c d W' :=
 ⟨(k.block _ (ad h.x)).trans h.x,(k.block _ (ad h.y)).trans h.y,by obtain⟨u,v,h⟩:=h.r;exact⟨u,v,(k.block _ (ad h)).trans h⟩,h.b.trans (k.mono h.b.size)⟩
theorem ek.cells(h:ek w kx ky kr a b c d W):W.cell? ⟨kx,0,M⟩=Y (I O a)/\W.cell? ⟨kx,1,M⟩=Y (I O b)/\W.cell? ⟨ky,0,M⟩=Y (I O c)/\W.cell? ⟨ky,1,M⟩=Y (I O d) :=
 ⟨cell_of h.x 0 rfl,cell_of h.x 1 rfl,cell_of h.y 0 rfl,cell_of h.y 1 rfl⟩
theorem ek.put(h:ek w kx ky kr a b c d W)(h1:kx≠kr)(h2:ky≠kr)(h3:w.heap.size<=kr)(p q:Value):ek w kx ky kr a b c d ((W.setCell ⟨kr,0,M⟩ p).setCell ⟨kr,1,M⟩ q):=by obtain⟨u,v,hr⟩:=h.r;have e1:=ah (ah hr 0 p) 1 q;exact⟨by rw[Below.heap_setCell _ _ _ _ h1,Below.heap_setCell _ _ _ _ h1];exact h.x,by rw[Below.heap_setCell _ _ _ _ h2,Below.heap_setCell _ _ _ _ h2];exact h.y,⟨_,_,e1⟩,(h.b.setCell (p:=⟨kr,0,M⟩) h3 _).setCell (p:=⟨kr,1,M⟩) h3 _⟩
theorem ek.there(h:ek w kx ky kr a b c d W)(p q:Value):((W.setCell ⟨kr,0,M⟩ p).setCell ⟨kr,1,M⟩ q).cell? ⟨kr,0,M⟩=Y p/\((W.setCell ⟨kr,0,M⟩ p).setCell ⟨kr,1,M⟩ q).cell? ⟨kr,1,M⟩=Y q:=by obtain⟨u,v,hr⟩:=h.r;exact(aR hr).2.2.2.2 p q
theorem nm(m:Nat)(n:Int)(w:Wd)(hm:m<=17179869184) :
  Calls prog 309 #[I O (m:Nat),I O n] w fun e w'=>e=υ (J #[I O ((dL m n).m:Nat),I O (dL m n).r])/\ω w w':=by
 obtain⟨gg,ou⟩:∃gg,Hid (gg=Nat.gcd m 65536):=⟨_,rfl⟩;obtain⟨t,ht⟩:∃t,Hid (t=dL m n):=⟨_,rfl⟩;have HG:Hid (∀(W:Wd) (k:Nat),k=W.heap.size->Calls prog 308 #[Z (Y ⟨k,0,M⟩) 2 2] (W.alloc (L #[I O (m:Nat),I O 65536] 2)) fun e w'=>e=υ (I O (gg:Nat))/\ω W w'):=fun W k hk=>by rw[ou.out,hk];exact rV (m:Nat) 65536 W (by omega) (by omega)
 have HC:Hid (∀W:Wd,Calls prog 307 #[I O (gg:Nat),I O n] W fun e w'=>e=υ (J #[I O (t.m:Nat),I O t.r])/\ω W w'):=fun W=>by rw[ht.out,<-IJ m n,ou.out];exact oP (Nat.gcd m 65536) n W (by have:=Nat.gcd_le_right (n:=65536) m (by omega);omega)
 rw[<-ht.out];clear ou ht;go_enter func309,ntmps309;go_wp2_with fail;refine(HG.out _ _ (by first | rfl | simp)).mono ?_;rintro e w1⟨rfl,b1⟩;obtain⟨bw,hz⟩:=gO b1;have HZ:=hid hz;have BW:=hid bw;clear b1 bw hz HG;go_wp2_with fail;refine(HC.out _).mono ?_;rintro e w2⟨rfl,b2⟩;have gU:=(b2.block _ (ad HZ.out)).trans HZ.out;have B2:Hid (ω w w2):=BW.trans (b2.mono BW.size);obtain⟨m0,m1,nL,nK,mq⟩:=aR gU;have MQ:=hid (mq (I O (t.m:Nat)) (I O t.r));clear mq gU b2 HC HZ BW;go_wp2_with fail;exact bodyPost_ret (v:=J #[I O (t.m:Nat),I O t.r]) (by simp[results,results309,go_sem,MQ.1,MQ.2]) rfl ⟨rfl,(B2.setCell (p:=⟨w.heap.size,0,M⟩) (Nat.le_refl _) _).setCell (p:=⟨w.heap.size,1,M⟩) (Nat.le_refl _) _⟩
theorem A6(x y:Sp.Cg)(w:Wd)(lE:x.m<=65536)(mM:y.m<=65536)(o6:y.r.natAbs<=65536) :
  Calls prog 311 #[J #[I O (x.m:Nat),I O x.r],J #[I O (y.m:Nat),I O y.r]] w fun e w'=>e=υ (J #[I O ((cG (Nat.gcd (Nat.gcd x.m y.m) y.r.natAbs) x.r).m:Nat),I O (cG (Nat.gcd (Nat.gcd x.m y.m) y.r.natAbs) x.r).r])/\ω w w':=by
 have uA:=rl [(x.m:Int),(y.m:Int),y.r] (by intro z hz;simp at hz;omega);rw[mO]at uA;simp only[Int.natAbs_natCast]at uA;obtain⟨gg,ou⟩:∃gg,Hid (gg=Nat.gcd (Nat.gcd x.m y.m) y.r.natAbs):=⟨_,rfl⟩;obtain⟨t,ht⟩:∃t,Hid (t=cG gg x.r):=⟨_,rfl⟩;have HG:Hid (∀(W:Wd) (k:Nat),k=W.heap.size->Calls prog 308 #[Z (Y ⟨k,0,M⟩) 3 3] (W.alloc (L #[I O (x.m:Nat),I O (y.m:Nat),I O y.r] 2)) fun e w'=>e=υ (I O (gg:Nat))/\ω W w'):=fun W k hk=>by rw[ou.out,hk];exact wB (x.m:Nat) (y.m:Nat) y.r W (by omega) (by omega) (by omega)
 have HC:Hid (∀W:Wd,Calls prog 307 #[I O (gg:Nat),I O x.r] W fun e w'=>e=υ (J #[I O (t.m:Nat),I O t.r])/\ω W w'):=fun W=>by rw[ht.out];exact oP gg x.r W (by rw[ou.out];omega)
 rw[<-ou.out,<-ht.out];clear ou ht;generalize x.r=b at *;generalize y.r=d at *;generalize ((x.m:Nat):Int)=a at *;generalize ((y.m:Nat):Int)=c at *;clear uA lE mM o6;have h0:ek w (w.heap.size) (w.heap.size+1) (w.heap.size+1+1) a b c d (((w.alloc (L #[I O a,I O b] 126)).alloc (L #[I O c,I O d] 126)).alloc (L #[I O 0,I O 0] 126)):=by obtain⟨h1,h2,h3,hb⟩:=cH (w:=w) (o1:=L #[I O a,I O b] 126) (o2:=L #[I O c,I O d] 126) (o3:=L #[I O 0,I O 0] 126) (Below.refl _ _);exact⟨h1,h2,⟨_,_,h3⟩,hb⟩
 go_enter func311,ntmps311;go_wp2_with fail;generalize (((w.alloc (L #[I O a,I O b] 126)).alloc (L #[I O c,I O d] 126)).alloc (L #[I O 0,I O 0] 126))=W at *;obtain⟨kx,hkx⟩:∃kx,kx=(w.heap.size):=⟨_,rfl⟩;obtain⟨ky,hky⟩:∃ky,ky=(w.heap.size+1):=⟨_,rfl⟩;obtain⟨kr,hkr⟩:∃kr,kr=(w.heap.size+1+1):=⟨_,rfl⟩;have kM:kx≠kr:=by omega
 have gD:ky≠kr:=by omega
 have jA:w.heap.size<=kr:=by omega
 rw[<-hkr,<-hky,<-hkx]at h0;rw[<-hkr,<-hky,<-hkx];clear hkx hky hkr;refine wp_region_held_drew (S:=fun w':Wd=>ek w kx ky kr a b c d w') (by kernel_rfl) (h0.call (Below.refl _ _).drew) (fun aa=>?_);generalize W.drew=V at *;refine tq 0 (ρ (Y ⟨kx,0,M⟩)) aa ?_;refine tk 1 (I O a) rfl (fun w' h=>by have q:=h.cells.1;go_simp) aa ?_;refine tq 2 (ρ (Y ⟨ky,0,M⟩)) aa ?_;refine tk 3 (I O c) rfl (fun w' h=>by have q:=h.cells.2.2.1;go_simp) aa ?_;refine tq 4 (ρ (Y ⟨ky,1,M⟩)) aa ?_;refine tk 5 (I O d) rfl (fun w' h=>by have q:=h.cells.2.2.2;go_simp) aa ?_;refine tq 8 (ρ (Y ⟨kx,1,M⟩)) aa ?_;refine tk 9 (I O b) rfl (fun w' h=>by have q:=h.cells.2.1;go_simp) aa ?_;refine bD 6 fun K hK=>?_
 simp only[bp,fB];go_simp;refine hK.out _ _ (aa.call (below_alloc1 _ _)) (fun _=>?_);clear hK K;refine bD 7 fun K hK=>?_
 simp only[bp];go_simp;refine(HG.out _ _ (by first | rfl | simp)).mono ?_;rintro e w1⟨rfl,b1⟩;replace aa:=aa.call b1;clear b1;go_wp2_with fail;refine hK.out _ _ aa (fun _=>?_);clear hK K;refine bD 10 fun K hK=>?_
 simp only[bp];go_simp;refine(HC.out _).mono ?_;rintro e w2⟨rfl,b1⟩;replace aa:=aa.call b1;clear b1;go_wp2_with fail;refine hK.out _ _ aa (fun _=>?_);clear hK K;have MQ:=aa.there (I O (t.m:Nat)) (I O t.r);have BQ:=(aa.put kM gD jA (I O (t.m:Nat)) (I O t.r)).b;obtain⟨u0,v0,hr⟩:=aa.r;obtain⟨m0,m1,nL,nK,_⟩:=aR hr;clear hr;refine bD 11 fun K hK=>?_
 simp only[bp];go_simp;refine hK.out _ _ (aa.put kM gD jA _ _) (fun aa=>?_);clear hK K;refine wpAnyH_done (by kernel_rfl) ?_ _;go_wp2_with fail;exact bodyPost_ret (v:=J #[I O (t.m:Nat),I O t.r]) (by simp[results,results311,go_sem,MQ.1,MQ.2]) rfl ⟨rfl,BQ⟩
theorem Pk(x y:Sp.Cg)(w:Wd)(lE:x.m<=65536)(jQ:x.r.natAbs<=65536)(mM:y.m<=65536)(o6:y.r.natAbs<=65536)(hw:cr x) :
  Calls prog 297 #[J #[],J #[I O (x.m:Nat),I O x.r],J #[I O (y.m:Nat),I O y.r]] w fun e w'=>e=υ (J #[I O ((cp x y).m:Nat),I O (cp x y).r])/\ω w w':=by
 have uA:=rl [(x.m:Int),(y.m:Int),x.r - y.r] (by intro z hz;simp at hz;omega);rw[mO]at uA;simp only[Int.natAbs_natCast]at uA;obtain⟨gg,ou⟩:∃gg,Hid (gg=Nat.gcd (Nat.gcd x.m y.m) (x.r - y.r).natAbs):=⟨_,rfl⟩;obtain⟨t,ht⟩:∃t,Hid (t=cG gg x.r):=⟨_,rfl⟩;have HG:Hid (∀(W:Wd) (k:Nat),k=W.heap.size->Calls prog 308 #[Z (Y ⟨k,0,M⟩) 3 3] (W.alloc (L #[I O (x.m:Nat),I O (y.m:Nat),I O (x.r - y.r)] 2)) fun e w'=>e=υ (I O (gg:Nat))/\ω W w'):=fun W k hk=>by rw[ou.out,hk];exact wB (x.m:Nat) (y.m:Nat) (x.r - y.r) W (by omega) (by omega) (by omega)
 have HC:Hid (∀W:Wd,Calls prog 307 #[I O (gg:Nat),I O x.r] W fun e w'=>e=υ (J #[I O (t.m:Nat),I O t.r])/\ω W w'):=fun W=>by rw[ht.out];exact oP gg x.r W (by rw[ou.out];omega)
 rw[FI x y hw,<-ou.out,<-ht.out];clear ou ht hw;generalize x.r=b at *;generalize y.r=d at *;generalize ((x.m:Nat):Int)=a at *;generalize ((y.m:Nat):Int)=c at *;clear uA lE mM;have h0:ek w (w.heap.size+1) (w.heap.size+1+1) (w.heap.size+1+1+1) a b c d ((((w.alloc (L #[] 128)).alloc (L #[I O a,I O b] 126)).alloc (L #[I O c,I O d] 126)).alloc (L #[I O 0,I O 0] 126)):=by obtain⟨h1,h2,h3,h4,hb⟩:=bB (w:=w) (o1:=L #[] 128) (o2:=L #[I O a,I O b] 126) (o3:=L #[I O c,I O d] 126) (o4:=L #[I O 0,I O 0] 126) (Below.refl _ _);exact⟨h2,h3,⟨_,_,h4⟩,hb⟩
 have KH:IntKind.i64.wrap (b - d)=b - d:=by rw[IntWalk.i64_in]<;>omega
 go_enter func297,ntmps297;go_wp2_with fail;generalize ((((w.alloc (L #[] 128)).alloc (L #[I O a,I O b] 126)).alloc (L #[I O c,I O d] 126)).alloc (L #[I O 0,I O 0] 126))=W at *;obtain⟨kx,hkx⟩:∃kx,kx=(w.heap.size+1):=⟨_,rfl⟩;obtain⟨ky,hky⟩:∃ky,ky=(w.heap.size+1+1):=⟨_,rfl⟩;obtain⟨kr,hkr⟩:∃kr,kr=(w.heap.size+1+1+1):=⟨_,rfl⟩;have kM:kx≠kr:=by omega
 have gD:ky≠kr:=by omega
 have jA:w.heap.size<=kr:=by omega
 rw[<-hkr,<-hky,<-hkx]at h0;rw[<-hkr,<-hky,<-hkx];clear hkx hky hkr;refine wp_region_held_drew (S:=fun w':Wd=>ek w kx ky kr a b c d w') (by kernel_rfl) (h0.call (Below.refl _ _).drew) (fun aa=>?_);generalize W.drew=V at *;refine tq 0 (ρ (Y ⟨kx,0,M⟩)) aa ?_;refine tk 1 (I O a) rfl (fun w' h=>by have q:=h.cells.1;go_simp) aa ?_;refine tq 2 (ρ (Y ⟨ky,0,M⟩)) aa ?_;refine tk 3 (I O c) rfl (fun w' h=>by have q:=h.cells.2.2.1;go_simp) aa ?_;refine tq 4 (ρ (Y ⟨kx,1,M⟩)) aa ?_;refine tk 5 (I O b) rfl (fun w' h=>by have q:=h.cells.2.1;go_simp) aa ?_;refine tq 6 (ρ (Y ⟨ky,1,M⟩)) aa ?_;refine tk 7 (I O d) rfl (fun w' h=>by have q:=h.cells.2.2.2;go_simp) aa ?_;refine tq 11 (ρ (Y ⟨kx,1,M⟩)) aa ?_;refine tk 12 (I O b) rfl (fun w' h=>by have q:=h.cells.2.1;go_simp) aa ?_;refine tq 8 (I O (b - d)) aa ?_;refine bD 9 fun K hK=>?_
 simp only[bp,fB];go_simp;refine hK.out _ _ (aa.call (below_alloc1 _ _)) (fun _=>?_);clear hK K;refine bD 10 fun K hK=>?_
 simp only[bp];go_simp;refine(HG.out _ _ (by first | rfl | simp)).mono ?_;rintro e w1⟨rfl,b1⟩;replace aa:=aa.call b1;clear b1;go_wp2_with fail;refine hK.out _ _ aa (fun _=>?_);clear hK K;refine bD 13 fun K hK=>?_
 simp only[bp];go_simp;refine(HC.out _).mono ?_;rintro e w2⟨rfl,b1⟩;replace aa:=aa.call b1;clear b1;go_wp2_with fail;refine hK.out _ _ aa (fun _=>?_);clear hK K;have MQ:=aa.there (I O (t.m:Nat)) (I O t.r);have BQ:=(aa.put kM gD jA (I O (t.m:Nat)) (I O t.r)).b;obtain⟨u0,v0,hr⟩:=aa.r;obtain⟨m0,m1,nL,nK,_⟩:=aR hr;clear hr;refine bD 14 fun K hK=>?_
 simp only[bp];go_simp;refine hK.out _ _ (aa.put kM gD jA _ _) (fun aa=>?_);clear hK K;refine wpAnyH_done (by kernel_rfl) ?_ _;go_wp2_with fail;exact bodyPost_ret (v:=J #[I O (t.m:Nat),I O t.r]) (by simp[results,results297,go_sem,MQ.1,MQ.2]) rfl ⟨rfl,BQ⟩
theorem On(a b c d:Int)(w:Wd):(Op.equalIn 10000 126 (J #[I O a,I O b]) (J #[I O c,I O d])).run prog w=.ok (decide (a=c/\b=d)) w:=by
 by_cases h1:a=c
 ·by_cases h2:b=d
  ·simp[go_sem,h1,h2]
  ·simp[go_sem,h1,h2]
 ·simp[go_sem,h1]
theorem pj(h1:a.natAbs<=65536)(h2:c.natAbs<=65536):(a*c).natAbs<=4294967296:=by rw[Int.natAbs_mul];exact Nat.mul_le_mul h1 h2
theorem wrap_mul(h1:a.natAbs<=65536)(h2:c.natAbs<=65536):IntKind.i64.wrap (a*c)=a*c:=by have:=pj h1 h2;rw[IntWalk.i64_in]<;>omega
theorem CP(x y:Sp.Cg)(w:Wd)(lE:x.m<=65536)(jQ:x.r.natAbs<=65536)(mM:y.m<=65536)(o6:y.r.natAbs<=65536)(hx:¬ (x.m=0/\x.r=0))(hy:¬ (y.m=0/\y.r=0)) :
  Calls prog 310 #[J #[I O (x.m:Nat),I O x.r],J #[I O (y.m:Nat),I O y.r]] w fun e w'=>e=υ (J #[I O ((dL (Nat.gcd (Nat.gcd (x.m*y.m) ((x.m:Int)*y.r).natAbs) ((y.m:Int)*x.r).natAbs) (x.r*y.r)).m:Nat),I O (dL (Nat.gcd (Nat.gcd (x.m*y.m) ((x.m:Int)*y.r).natAbs) ((y.m:Int)*x.r).natAbs) (x.r*y.r)).r])/\ω w w':=by
 have q1:((x.m:Nat):Int).natAbs<=65536:=by omega
 have q2:((y.m:Nat):Int).natAbs<=65536:=by omega
 have b1:=pj q1 q2;have b2:=pj q1 o6;have b3:=pj q2 jQ;have uA:=rl [(x.m:Int)*y.m,(x.m:Int)*y.r,(y.m:Int)*x.r] (by intro z hz;simp at hz;rcases hz with rfl | rfl | rfl<;>omega);rw[mO]at uA;obtain⟨gg,ou⟩:∃gg,Hid (gg=Nat.gcd (Nat.gcd ((x.m:Int)*y.m).natAbs ((x.m:Int)*y.r).natAbs) ((y.m:Int)*x.r).natAbs):=⟨_,rfl⟩;obtain⟨t,ht⟩:∃t,Hid (t=dL gg (x.r*y.r)):=⟨_,rfl⟩;rw[show x.m*y.m=((x.m:Int)*y.m).natAbs by rw[Int.natAbs_mul];rfl,<-ou.out,<-ht.out];have HG:Hid (∀(W:Wd) (k:Nat),k=W.heap.size->Calls prog 308 #[Z (Y ⟨k,0,M⟩) 3 3] (W.alloc (L #[I O ((x.m:Int)*y.m),I O ((x.m:Int)*y.r),I O ((y.m:Int)*x.r)] 2)) fun e w'=>e=υ (I O (gg:Nat))/\ω W w'):=fun W k hk=>by rw[ou.out,hk];exact wB ((x.m:Int)*y.m) ((x.m:Int)*y.r) ((y.m:Int)*x.r) W (by omega) (by omega) (by omega)
 have HC:Hid (∀W:Wd,Calls prog 309 #[I O (gg:Nat),I O (x.r*y.r)] W fun e w'=>e=υ (J #[I O (t.m:Nat),I O t.r])/\ω W w'):=fun W=>by rw[ht.out];exact nm gg (x.r*y.r) W (by rw[ou.out];omega)
 clear ou ht uA b1 b2 b3;have e1:=wrap_mul q1 q2;have e2:=wrap_mul q1 o6;have e3:=wrap_mul q2 jQ;have e4:=wrap_mul jQ o6;have Oq:¬ (((x.m:Nat):Int)=0/\x.r=0):=by omega
 have UP:¬ (((y.m:Nat):Int)=0/\y.r=0):=by omega
 clear hx hy q1 q2;generalize x.r=b at *;generalize y.r=d at *;generalize ((x.m:Nat):Int)=a at *;generalize ((y.m:Nat):Int)=c at *;clear lE mM jQ o6;have eX:∀w,(Op.equalIn 10000 126 (J #[I O a,I O b]) (J #[I O 0,I O 0])).run prog w=.ok false w:=fun w=>by rw[On,decide_eq_false Oq]
 have eY:∀w,(Op.equalIn 10000 126 (J #[I O c,I O d]) (J #[I O 0,I O 0])).run prog w=.ok false w:=fun w=>by rw[On,decide_eq_false UP]
 clear Oq UP;have h0:ek w (w.heap.size) (w.heap.size+1) (w.heap.size+1+1) a b c d ((((w.alloc (L #[I O a,I O b] 126)).alloc (L #[I O c,I O d] 126)).alloc (L #[I O 0,I O 0] 126)).alloc (L #[I O 0,I O 0] 126)):=by obtain⟨h1,h2,h3,h4,hb⟩:=bB (w:=w) (o1:=L #[I O a,I O b] 126) (o2:=L #[I O c,I O d] 126) (o3:=L #[I O 0,I O 0] 126) (o4:=L #[I O 0,I O 0] 126) (Below.refl _ _);exact⟨h1,h2,⟨_,_,h3⟩,hb⟩
 go_enter func310,ntmps310;go_wp2_with fail;generalize ((((w.alloc (L #[I O a,I O b] 126)).alloc (L #[I O c,I O d] 126)).alloc (L #[I O 0,I O 0] 126)).alloc (L #[I O 0,I O 0] 126))=W at *;obtain⟨kx,hkx⟩:∃kx,kx=(w.heap.size):=⟨_,rfl⟩;obtain⟨ky,hky⟩:∃ky,ky=(w.heap.size+1):=⟨_,rfl⟩;obtain⟨kr,hkr⟩:∃kr,kr=(w.heap.size+1+1):=⟨_,rfl⟩;have kM:kx≠kr:=by omega
 have gD:ky≠kr:=by omega
 have jA:w.heap.size<=kr:=by omega
 rw[<-hkr,<-hky,<-hkx]at h0;rw[<-hkr,<-hky,<-hkx];clear hkx hky hkr;refine wp_region_held_drew (S:=fun w':Wd=>ek w kx ky kr a b c d w') (by kernel_rfl) (h0.call (Below.refl _ _).drew) (fun aa=>?_);generalize W.drew=V at *;refine tq 0 (ρ (Y ⟨kx,0,M⟩)) aa ?_;refine tk 1 (I O a) rfl (fun w' h=>by have q:=h.cells.1;go_simp) aa ?_;refine tq 2 (ρ (Y ⟨ky,0,M⟩)) aa ?_;refine tk 3 (I O c) rfl (fun w' h=>by have q:=h.cells.2.2.1;go_simp) aa ?_;refine tq 5 (ρ (Y ⟨kx,0,M⟩)) aa ?_;refine tk 6 (I O a) rfl (fun w' h=>by have q:=h.cells.1;go_simp) aa ?_;refine tq 7 (ρ (Y ⟨ky,1,M⟩)) aa ?_;refine tk 8 (I O d) rfl (fun w' h=>by have q:=h.cells.2.2.2;go_simp) aa ?_;refine tq 10 (ρ (Y ⟨ky,0,M⟩)) aa ?_;refine tk 11 (I O c) rfl (fun w' h=>by have q:=h.cells.2.2.1;go_simp) aa ?_;refine tq 12 (ρ (Y ⟨kx,1,M⟩)) aa ?_;refine tk 13 (I O b) rfl (fun w' h=>by have q:=h.cells.2.1;go_simp) aa ?_;refine tq 17 (ρ (Y ⟨kx,1,M⟩)) aa ?_;refine tk 18 (I O b) rfl (fun w' h=>by have q:=h.cells.2.1;go_simp) aa ?_;refine tq 19 (ρ (Y ⟨ky,1,M⟩)) aa ?_;refine tk 20 (I O d) rfl (fun w' h=>by have q:=h.cells.2.2.2;go_simp) aa ?_;refine tq 4 (I O (a*c)) aa ?_;refine tq 9 (I O (a*d)) aa ?_;refine tq 14 (I O (c*b)) aa ?_;refine tq 21 (I O (b*d)) aa ?_;refine bD 15 fun K hK=>?_
 simp only[bp,fB];go_simp;refine hK.out _ _ (aa.call (below_alloc1 _ _)) (fun _=>?_);clear hK K;refine bD 16 fun K hK=>?_
 simp only[bp];go_simp;refine(HG.out _ _ (by first | rfl | simp)).mono ?_;rintro e w1⟨rfl,b1⟩;replace aa:=aa.call b1;clear b1;go_wp2_with fail;refine hK.out _ _ aa (fun _=>?_);clear hK K;refine bD 22 fun K hK=>?_
 simp only[bp];go_simp;refine(HC.out _).mono ?_;rintro e w2⟨rfl,b1⟩;replace aa:=aa.call b1;clear b1;go_wp2_with fail;refine hK.out _ _ aa (fun _=>?_);clear hK K;have MQ:=aa.there (I O (t.m:Nat)) (I O t.r);have BQ:=(aa.put kM gD jA (I O (t.m:Nat)) (I O t.r)).b;obtain⟨u0,v0,hr⟩:=aa.r;obtain⟨m0,m1,nL,nK,_⟩:=aR hr;clear hr;refine bD 23 fun K hK=>?_
 simp only[bp];go_simp;refine hK.out _ _ (aa.put kM gD jA _ _) (fun aa=>?_);clear hK K;refine wpAnyH_done (by kernel_rfl) ?_ _;go_wp2_with fail;exact bodyPost_ret (v:=J #[I O (t.m:Nat),I O t.r]) (by simp[results,results310,go_sem,MQ.1,MQ.2]) rfl ⟨rfl,BQ⟩
structure fM(w:Wd)(kd kx ky kr:Nat)(a b c d:Int)(W:Wd):Prop where
 g:ek w kx ky kr a b c d W
 o:W.heap[kd]?=Y (L #[] 128)
theorem fM.call{kd:Nat}(h:fM w kd kx ky kr a b c d W)(k:ω W W'):fM w kd kx ky kr a b c d W' :=
 ⟨h.g.call k,(k.block _ (ad h.o)).trans h.o⟩
theorem Lt(y:Sp.Cg)(w:Wd) :
  Calls prog 310 #[J #[I O 0,I O 0],J #[I O (y.m:Nat),I O y.r]] w fun e w'=>e=υ (J #[I O 0,I O 0])/\ω w w':=by
 generalize y.r=d;generalize ((y.m:Nat):Int)=c;have eX:∀w,(Op.equalIn 10000 126 (J #[I O 0,I O 0]) (J #[I O 0,I O 0])).run prog w=.ok true w:=fun w=>by rw[On];rfl
 go_enter func310,ntmps310;go_wp2_with fail;go_returns;exact⟨rfl,by go_grown⟩
theorem La(x:Sp.Cg)(w:Wd)(hx:¬ (x.m=0/\x.r=0)) :
  Calls prog 310 #[J #[I O (x.m:Nat),I O x.r],J #[I O 0,I O 0]] w fun e w'=>e=υ (J #[I O 0,I O 0])/\ω w w':=by
 have Oq:¬ (((x.m:Nat):Int)=0/\x.r=0):=by omega
 clear hx;generalize x.r=b at *;generalize ((x.m:Nat):Int)=a at *;have eX:∀w,(Op.equalIn 10000 126 (J #[I O a,I O b]) (J #[I O 0,I O 0])).run prog w=.ok false w:=fun w=>by rw[On,decide_eq_false Oq]
 have eY:∀w,(Op.equalIn 10000 126 (J #[I O 0,I O 0]) (J #[I O 0,I O 0])).run prog w=.ok true w:=fun w=>by rw[On];rfl
 clear Oq;go_enter func310,ntmps310;go_wp2_with fail;go_returns;exact⟨rfl,by go_grown⟩
def Cz(x y:Sp.Cg):Sp.Cg:=if(x.m=0/\x.r=0)∨(y.m=0/\y.r=0) then⟨0,0⟩ else dL (Nat.gcd (Nat.gcd (x.m*y.m) ((x.m:Int)*y.r).natAbs) ((y.m:Int)*x.r).natAbs) (x.r*y.r)
theorem RM(x y:Sp.Cg)(w:Wd)(lE:x.m<=65536)(jQ:x.r.natAbs<=65536)(mM:y.m<=65536)(o6:y.r.natAbs<=65536) :
  Calls prog 310 #[J #[I O (x.m:Nat),I O x.r],J #[I O (y.m:Nat),I O y.r]] w fun e w'=>e=υ (J #[I O ((Cz x y).m:Nat),I O (Cz x y).r])/\ω w w':=by
 unfold Cz;by_cases hx:x.m=0/\x.r=0
 ·rw[if_pos (.inl hx),hx.1,hx.2]
  exact Lt y w
 ·by_cases hy:y.m=0/\y.r=0
  ·rw[if_pos (.inr hy),hy.1,hy.2]
   exact La x w hx
  ·rw[if_neg (fun h=>h.elim hx hy)]
   exact CP x y w lE jQ mM o6 hx hy
theorem dz{x:Sp.Cg}(h:cr x):x.m<=65536/\x.r.natAbs<=65536:=by rcases h with⟨h1,h2,h3⟩ | ⟨h1,h2,h3,h4⟩<;>omega
theorem KL(x y:Sp.Cg)(w:Wd)(hx:cr x)(hy:cr y)(hn:¬ (x.m=0/\y.m=0)) :
  Calls prog 305 #[J #[],I O 0,J #[I O (x.m:Nat),I O x.r],J #[I O (y.m:Nat),I O y.r]] w fun e w'=>e=υ (jG (bt 0 x y))/\ω w w':=by
 obtain⟨lE,jQ⟩:=dz hx;obtain⟨mM,o6⟩:=dz hy;have HA:Hid (((∀W:Wd,Calls prog 294 #[J #[I O (x.m:Nat),I O x.r]] W fun e w'=>e=υ (U true)/\ω W w')/\(∀W:Wd,Calls prog 294 #[J #[I O (y.m:Nat),I O y.r]] W fun e w'=>e=υ (U false)/\ω W w'))∨(∀W:Wd,Calls prog 294 #[J #[I O (x.m:Nat),I O x.r]] W fun e w'=>e=υ (U false)/\ω W w')):=by
  unfold Hid;by_cases h:x.m=0
  ·refine .inl ⟨fun W=>?_,fun W=>?_⟩
   ·have:=ch x.m x.r W;rwa [decide_eq_true h]at this
   ·have:=ch y.m y.r W;rwa [decide_eq_false (fun e=>hn ⟨h,e⟩)]at this
  ·refine .inr (fun W=>?_)
   have:=ch x.m x.r W;rwa [decide_eq_false h]at this
 have uA:Nat.gcd x.m y.m<=65536:=by
  rcases Nat.eq_zero_or_pos x.m with h | h
  ·rw[h,Nat.gcd_zero_left];exact mM
  ·exact Nat.le_trans (Nat.gcd_le_left _ h) lE
 obtain⟨gg,ou⟩:∃gg,Hid (gg=Nat.gcd x.m y.m):=⟨_,rfl⟩;obtain⟨t,ht⟩:∃t,Hid (t=dL gg (x.r+y.r)):=⟨_,rfl⟩;have E:Hid (bt 0 x y=Y t):=by unfold Hid bt;rw[if_neg hn,if_neg (by omega)];rw[if_pos rfl];rw[ht.out,ou.out]
 have HG:Hid (∀(W:Wd) (k:Nat),k=W.heap.size->Calls prog 308 #[Z (Y ⟨k,0,M⟩) 2 2] (W.alloc (L #[I O (x.m:Nat),I O (y.m:Nat)] 2)) fun e w'=>e=υ (I O (gg:Nat))/\ω W w'):=fun W k hk=>by rw[ou.out,hk];exact rV (x.m:Nat) (y.m:Nat) W (by omega) (by omega)
 have HC:Hid (∀W:Wd,Calls prog 309 #[I O (gg:Nat),I O (x.r+y.r)] W fun e w'=>e=υ (J #[I O (t.m:Nat),I O t.r])/\ω W w'):=fun W=>by rw[ht.out];exact nm gg (x.r+y.r) W (by rw[ou.out];omega)
 clear ou ht uA hn hx hy;have Qe:IntKind.i64.wrap (x.r+y.r)=(x.r+y.r):=by rw[IntWalk.i64_in]<;>omega
 generalize bt 0 x y=res at *;generalize x.r=b at *;generalize y.r=d at *;generalize ((x.m:Nat):Int)=a at *;generalize ((y.m:Nat):Int)=c at *;clear lE jQ mM o6;have qd:ek w (w.heap.size+1) (w.heap.size+1+1) (w.heap.size+1+1+1) a b c d ((((w.alloc (L #[] 128)).alloc (L #[I O a,I O b] 126)).alloc (L #[I O c,I O d] 126)).alloc (L #[I O 0,I O 0] 126)):=by obtain⟨h1,h2,h3,h4,hb⟩:=bB (w:=w) (o1:=L #[] 128) (o2:=L #[I O a,I O b] 126) (o3:=L #[I O c,I O d] 126) (o4:=L #[I O 0,I O 0] 126) (Below.refl _ _);exact⟨h2,h3,⟨_,_,h4⟩,hb⟩
 have h0:fM w w.heap.size (w.heap.size+1) (w.heap.size+1+1) (w.heap.size+1+1+1) a b c d ((((w.alloc (L #[] 128)).alloc (L #[I O a,I O b] 126)).alloc (L #[I O c,I O d] 126)).alloc (L #[I O 0,I O 0] 126)):=by obtain⟨h1,_⟩:=bB (w:=w) (o1:=L #[] 128) (o2:=L #[I O a,I O b] 126) (o3:=L #[I O c,I O d] 126) (o4:=L #[I O 0,I O 0] 126) (Below.refl _ _);exact⟨qd,h1⟩
 clear qd;go_enter func305,ntmps305;go_upto_region 1 with fail;generalize ((((w.alloc (L #[] 128)).alloc (L #[I O a,I O b] 126)).alloc (L #[I O c,I O d] 126)).alloc (L #[I O 0,I O 0] 126))=W at *
 obtain⟨kd,gC⟩:∃kd,kd=w.heap.size:=⟨_,rfl⟩;obtain⟨kx,hkx⟩:∃kx,kx=w.heap.size+1:=⟨_,rfl⟩;obtain⟨ky,hky⟩:∃ky,ky=w.heap.size+1+1:=⟨_,rfl⟩;obtain⟨kr,hkr⟩:∃kr,kr=w.heap.size+1+1+1:=⟨_,rfl⟩;have kM:kx≠kr:=by omega
 have gD:ky≠kr:=by omega
 have jA:w.heap.size<=kr:=by omega
 rw[<-hkr,<-hky,<-hkx,<-gC]at h0;rw[<-hkr,<-hky,<-hkx,<-gC];clear gC hkx hky hkr
 go_cut [17] from 12 to 17 (fun jC wc=>jC=U false/\Hid (fM w kd kx ky kr a b c d wc))
 case first =>
  obtain⟨x0,x1,y0,y1⟩:=h0.g.cells
  rcases HA.out with⟨HX,HY⟩ | HX
  ·go_wp2_with fail
   refine(HX W).mono ?_;rintro e w1⟨rfl,b1⟩;have h1:=h0.call b1;clear x0 x1 y0 y1;obtain⟨x0,x1,y0,y1⟩:=h1.g.cells;go_wp2_with fail;refine(HY w1).mono ?_;rintro e w2⟨rfl,b2⟩;have H2:Hid (fM w kd kx ky kr a b c d w2):=h1.call b2;clear x0 x1 y0 y1 h1 b1 b2;go_wp2_with fail;go_meet;exact⟨rfl,H2⟩
  ·go_wp2_with fail
   refine(HX W).mono ?_;rintro e w1⟨rfl,b1⟩;have H1:Hid (fM w kd kx ky kr a b c d w1):=h0.call b1;clear x0 x1 y0 y1 b1;go_wp2_with fail;go_meet;exact⟨rfl,H1⟩
 case rest =>
  obtain⟨rfl,hcut⟩:=hcut;have qd:ek w kx ky kr a b c d wc:=hcut.g;clear h0 hcut HA;go_wp2_with fail;refine wp_region_held_drew (S:=fun w':Wd=>ek w kx ky kr a b c d w') (by kernel_rfl) (qd.call (Below.refl _ _).drew) (fun aa=>?_);generalize wc.drew=V at *;refine tq 0 (ρ (Y ⟨kx,0,M⟩)) aa ?_;refine tk 1 (I O a) rfl (fun w' h=>by have q:=h.cells.1;go_simp) aa ?_;refine tq 2 (ρ (Y ⟨ky,0,M⟩)) aa ?_;refine tk 3 (I O c) rfl (fun w' h=>by have q:=h.cells.2.2.1;go_simp) aa ?_;refine tq 6 (ρ (Y ⟨kx,1,M⟩)) aa ?_;refine tk 7 (I O b) rfl (fun w' h=>by have q:=h.cells.2.1;go_simp) aa ?_;refine tq 8 (ρ (Y ⟨ky,1,M⟩)) aa ?_;refine tk 9 (I O d) rfl (fun w' h=>by have q:=h.cells.2.2.2;go_simp) aa ?_;refine tq 10 (I O (b+d)) aa ?_;refine bD 4 fun K hK=>?_
  simp only[bp,fB];go_simp;refine hK.out _ _ (aa.call (below_alloc1 _ _)) (fun _=>?_);clear hK K;refine bD 5 fun K hK=>?_
  simp only[bp];go_simp;refine(HG.out _ _ (by first | rfl | simp)).mono ?_;rintro e w1⟨rfl,b1⟩;replace aa:=aa.call b1;clear b1;go_wp2_with fail;refine hK.out _ _ aa (fun _=>?_);clear hK K;refine bD 11 fun K hK=>?_
  simp only[bp];go_simp;refine(HC.out _).mono ?_;rintro e w2⟨rfl,b1⟩;replace aa:=aa.call b1;clear b1;go_wp2_with fail;refine hK.out _ _ aa (fun _=>?_);clear hK K;have MQ:=aa.there (I O (t.m:Nat)) (I O t.r);have BQ:=(aa.put kM gD jA (I O (t.m:Nat)) (I O t.r)).b;obtain⟨u0,v0,hr⟩:=aa.r;obtain⟨m0,m1,nL,nK,_⟩:=aR hr;clear hr;refine bD 12 fun K hK=>?_
  simp only[bp];go_simp;refine hK.out _ _ (aa.put kM gD jA _ _) (fun aa=>?_);clear hK K;refine bD 13 fun K hK=>?_
  simp only[bp];go_simp;refine hK.out _ _ aa (fun _=>?_);clear hK K;refine wpAnyH_done (by kernel_rfl) ?_ _;go_wp2_with fail;exact bodyPost_ret (v:=φ #[J #[I O (t.m:Nat),I O t.r],U true]) (by simp[results,results305,go_sem,MQ.1,MQ.2]) rfl ⟨iS E.out,BQ⟩
theorem LK(x y:Sp.Cg)(w:Wd)(hx:cr x)(hy:cr y)(hn:¬ (x.m=0/\y.m=0)) :
  Calls prog 305 #[J #[],I O 1,J #[I O (x.m:Nat),I O x.r],J #[I O (y.m:Nat),I O y.r]] w fun e w'=>e=υ (jG (bt 1 x y))/\ω w w':=by
 obtain⟨lE,jQ⟩:=dz hx;obtain⟨mM,o6⟩:=dz hy;have HA:Hid (((∀W:Wd,Calls prog 294 #[J #[I O (x.m:Nat),I O x.r]] W fun e w'=>e=υ (U true)/\ω W w')/\(∀W:Wd,Calls prog 294 #[J #[I O (y.m:Nat),I O y.r]] W fun e w'=>e=υ (U false)/\ω W w'))∨(∀W:Wd,Calls prog 294 #[J #[I O (x.m:Nat),I O x.r]] W fun e w'=>e=υ (U false)/\ω W w')):=by
  unfold Hid;by_cases h:x.m=0
  ·refine .inl ⟨fun W=>?_,fun W=>?_⟩
   ·have:=ch x.m x.r W;rwa [decide_eq_true h]at this
   ·have:=ch y.m y.r W;rwa [decide_eq_false (fun e=>hn ⟨h,e⟩)]at this
  ·refine .inr (fun W=>?_)
   have:=ch x.m x.r W;rwa [decide_eq_false h]at this
 have uA:Nat.gcd x.m y.m<=65536:=by
  rcases Nat.eq_zero_or_pos x.m with h | h
  ·rw[h,Nat.gcd_zero_left];exact mM
  ·exact Nat.le_trans (Nat.gcd_le_left _ h) lE
 obtain⟨gg,ou⟩:∃gg,Hid (gg=Nat.gcd x.m y.m):=⟨_,rfl⟩;obtain⟨t,ht⟩:∃t,Hid (t=dL gg (x.r - y.r)):=⟨_,rfl⟩;have E:Hid (bt 1 x y=Y t):=by unfold Hid bt;rw[if_neg hn,if_neg (by omega)];rw[if_neg (by omega),if_pos rfl];rw[ht.out,ou.out]
 have HG:Hid (∀(W:Wd) (k:Nat),k=W.heap.size->Calls prog 308 #[Z (Y ⟨k,0,M⟩) 2 2] (W.alloc (L #[I O (x.m:Nat),I O (y.m:Nat)] 2)) fun e w'=>e=υ (I O (gg:Nat))/\ω W w'):=fun W k hk=>by rw[ou.out,hk];exact rV (x.m:Nat) (y.m:Nat) W (by omega) (by omega)
 have HC:Hid (∀W:Wd,Calls prog 309 #[I O (gg:Nat),I O (x.r - y.r)] W fun e w'=>e=υ (J #[I O (t.m:Nat),I O t.r])/\ω W w'):=fun W=>by rw[ht.out];exact nm gg (x.r - y.r) W (by rw[ou.out];omega)
 clear ou ht uA hn hx hy;have Qe:IntKind.i64.wrap (x.r - y.r)=(x.r - y.r):=by rw[IntWalk.i64_in]<;>omega
 generalize bt 1 x y=res at *;generalize x.r=b at *;generalize y.r=d at *;generalize ((x.m:Nat):Int)=a at *;generalize ((y.m:Nat):Int)=c at *;clear lE jQ mM o6;have qd:ek w (w.heap.size+1) (w.heap.size+1+1) (w.heap.size+1+1+1) a b c d ((((w.alloc (L #[] 128)).alloc (L #[I O a,I O b] 126)).alloc (L #[I O c,I O d] 126)).alloc (L #[I O 0,I O 0] 126)):=by obtain⟨h1,h2,h3,h4,hb⟩:=bB (w:=w) (o1:=L #[] 128) (o2:=L #[I O a,I O b] 126) (o3:=L #[I O c,I O d] 126) (o4:=L #[I O 0,I O 0] 126) (Below.refl _ _);exact⟨h2,h3,⟨_,_,h4⟩,hb⟩
 have h0:fM w w.heap.size (w.heap.size+1) (w.heap.size+1+1) (w.heap.size+1+1+1) a b c d ((((w.alloc (L #[] 128)).alloc (L #[I O a,I O b] 126)).alloc (L #[I O c,I O d] 126)).alloc (L #[I O 0,I O 0] 126)):=by obtain⟨h1,_⟩:=bB (w:=w) (o1:=L #[] 128) (o2:=L #[I O a,I O b] 126) (o3:=L #[I O c,I O d] 126) (o4:=L #[I O 0,I O 0] 126) (Below.refl _ _);exact⟨qd,h1⟩
 clear qd;go_enter func305,ntmps305;go_upto_region 1 with fail;generalize ((((w.alloc (L #[] 128)).alloc (L #[I O a,I O b] 126)).alloc (L #[I O c,I O d] 126)).alloc (L #[I O 0,I O 0] 126))=W at *
 obtain⟨kd,gC⟩:∃kd,kd=w.heap.size:=⟨_,rfl⟩;obtain⟨kx,hkx⟩:∃kx,kx=w.heap.size+1:=⟨_,rfl⟩;obtain⟨ky,hky⟩:∃ky,ky=w.heap.size+1+1:=⟨_,rfl⟩;obtain⟨kr,hkr⟩:∃kr,kr=w.heap.size+1+1+1:=⟨_,rfl⟩;have kM:kx≠kr:=by omega
 have gD:ky≠kr:=by omega
 have jA:w.heap.size<=kr:=by omega
 rw[<-hkr,<-hky,<-hkx,<-gC]at h0;rw[<-hkr,<-hky,<-hkx,<-gC];clear gC hkx hky hkr
 go_cut [17] from 12 to 17 (fun jC wc=>jC=U false/\Hid (fM w kd kx ky kr a b c d wc))
 case first =>
  obtain⟨x0,x1,y0,y1⟩:=h0.g.cells
  rcases HA.out with⟨HX,HY⟩ | HX
  ·go_wp2_with fail
   refine(HX W).mono ?_;rintro e w1⟨rfl,b1⟩;have h1:=h0.call b1;clear x0 x1 y0 y1;obtain⟨x0,x1,y0,y1⟩:=h1.g.cells;go_wp2_with fail;refine(HY w1).mono ?_;rintro e w2⟨rfl,b2⟩;have H2:Hid (fM w kd kx ky kr a b c d w2):=h1.call b2;clear x0 x1 y0 y1 h1 b1 b2;go_wp2_with fail;go_meet;exact⟨rfl,H2⟩
  ·go_wp2_with fail
   refine(HX W).mono ?_;rintro e w1⟨rfl,b1⟩;have H1:Hid (fM w kd kx ky kr a b c d w1):=h0.call b1;clear x0 x1 y0 y1 b1;go_wp2_with fail;go_meet;exact⟨rfl,H1⟩
 case rest =>
  obtain⟨rfl,hcut⟩:=hcut;have qd:ek w kx ky kr a b c d wc:=hcut.g;clear h0 hcut HA;go_wp2_with fail;refine wp_region_held_drew (S:=fun w':Wd=>ek w kx ky kr a b c d w') (by kernel_rfl) (qd.call (Below.refl _ _).drew) (fun aa=>?_);generalize wc.drew=V at *;refine tq 0 (ρ (Y ⟨kx,0,M⟩)) aa ?_;refine tk 1 (I O a) rfl (fun w' h=>by have q:=h.cells.1;go_simp) aa ?_;refine tq 2 (ρ (Y ⟨ky,0,M⟩)) aa ?_;refine tk 3 (I O c) rfl (fun w' h=>by have q:=h.cells.2.2.1;go_simp) aa ?_;refine tq 6 (ρ (Y ⟨kx,1,M⟩)) aa ?_;refine tk 7 (I O b) rfl (fun w' h=>by have q:=h.cells.2.1;go_simp) aa ?_;refine tq 8 (ρ (Y ⟨ky,1,M⟩)) aa ?_;refine tk 9 (I O d) rfl (fun w' h=>by have q:=h.cells.2.2.2;go_simp) aa ?_;refine tq 10 (I O (b - d)) aa ?_;refine bD 4 fun K hK=>?_
  simp only[bp,fB];go_simp;refine hK.out _ _ (aa.call (below_alloc1 _ _)) (fun _=>?_);clear hK K;refine bD 5 fun K hK=>?_
  simp only[bp];go_simp;refine(HG.out _ _ (by first | rfl | simp)).mono ?_;rintro e w1⟨rfl,b1⟩;replace aa:=aa.call b1;clear b1;go_wp2_with fail;refine hK.out _ _ aa (fun _=>?_);clear hK K;refine bD 11 fun K hK=>?_
  simp only[bp];go_simp;refine(HC.out _).mono ?_;rintro e w2⟨rfl,b1⟩;replace aa:=aa.call b1;clear b1;go_wp2_with fail;refine hK.out _ _ aa (fun _=>?_);clear hK K;have MQ:=aa.there (I O (t.m:Nat)) (I O t.r);have BQ:=(aa.put kM gD jA (I O (t.m:Nat)) (I O t.r)).b;obtain⟨u0,v0,hr⟩:=aa.r;obtain⟨m0,m1,nL,nK,_⟩:=aR hr;clear hr;refine bD 12 fun K hK=>?_
  simp only[bp];go_simp;refine hK.out _ _ (aa.put kM gD jA _ _) (fun aa=>?_);clear hK K;refine bD 13 fun K hK=>?_
  simp only[bp];go_simp;refine hK.out _ _ aa (fun _=>?_);clear hK K;refine wpAnyH_done (by kernel_rfl) ?_ _;go_wp2_with fail;exact bodyPost_ret (v:=φ #[J #[I O (t.m:Nat),I O t.r],U true]) (by simp[results,results305,go_sem,MQ.1,MQ.2]) rfl ⟨iS E.out,BQ⟩
theorem Lr(x y:Sp.Cg)(w:Wd)(hx:cr x)(hy:cr y)(hn:¬ (x.m=0/\y.m=0)) :
  Calls prog 305 #[J #[],I O 2,J #[I O (x.m:Nat),I O x.r],J #[I O (y.m:Nat),I O y.r]] w fun e w'=>e=υ (jG (bt 2 x y))/\ω w w':=by
 obtain⟨lE,jQ⟩:=dz hx;obtain⟨mM,o6⟩:=dz hy;have HA:Hid (((∀W:Wd,Calls prog 294 #[J #[I O (x.m:Nat),I O x.r]] W fun e w'=>e=υ (U true)/\ω W w')/\(∀W:Wd,Calls prog 294 #[J #[I O (y.m:Nat),I O y.r]] W fun e w'=>e=υ (U false)/\ω W w'))∨(∀W:Wd,Calls prog 294 #[J #[I O (x.m:Nat),I O x.r]] W fun e w'=>e=υ (U false)/\ω W w')):=by
  unfold Hid;by_cases h:x.m=0
  ·refine .inl ⟨fun W=>?_,fun W=>?_⟩
   ·have:=ch x.m x.r W;rwa [decide_eq_true h]at this
   ·have:=ch y.m y.r W;rwa [decide_eq_false (fun e=>hn ⟨h,e⟩)]at this
  ·refine .inr (fun W=>?_)
   have:=ch x.m x.r W;rwa [decide_eq_false h]at this
 obtain⟨t,ht⟩:∃t,Hid (t=Cz x y):=⟨_,rfl⟩;have E:Hid (bt 2 x y=Y t):=by unfold Hid bt;rw[if_neg hn,if_neg (by omega),if_neg (by omega),if_neg (by omega),if_pos rfl,ht.out];unfold Cz;split<;>rfl
 have HC:Hid (∀W:Wd,Calls prog 310 #[J #[I O (x.m:Nat),I O x.r],J #[I O (y.m:Nat),I O y.r]] W fun e w'=>e=υ (J #[I O (t.m:Nat),I O t.r])/\ω W w'):=fun W=>by rw[ht.out];exact RM x y W lE jQ mM o6
 clear ht hn hx hy;generalize bt 2 x y=res at *;generalize x.r=b at *;generalize y.r=d at *;generalize ((x.m:Nat):Int)=a at *;generalize ((y.m:Nat):Int)=c at *;clear lE jQ mM o6;have qd:ek w (w.heap.size+1) (w.heap.size+1+1) (w.heap.size+1+1+1) a b c d ((((w.alloc (L #[] 128)).alloc (L #[I O a,I O b] 126)).alloc (L #[I O c,I O d] 126)).alloc (L #[I O 0,I O 0] 126)):=by obtain⟨h1,h2,h3,h4,hb⟩:=bB (w:=w) (o1:=L #[] 128) (o2:=L #[I O a,I O b] 126) (o3:=L #[I O c,I O d] 126) (o4:=L #[I O 0,I O 0] 126) (Below.refl _ _);exact⟨h2,h3,⟨_,_,h4⟩,hb⟩
 have h0:fM w w.heap.size (w.heap.size+1) (w.heap.size+1+1) (w.heap.size+1+1+1) a b c d ((((w.alloc (L #[] 128)).alloc (L #[I O a,I O b] 126)).alloc (L #[I O c,I O d] 126)).alloc (L #[I O 0,I O 0] 126)):=by obtain⟨h1,_⟩:=bB (w:=w) (o1:=L #[] 128) (o2:=L #[I O a,I O b] 126) (o3:=L #[I O c,I O d] 126) (o4:=L #[I O 0,I O 0] 126) (Below.refl _ _);exact⟨qd,h1⟩
 clear qd;go_enter func305,ntmps305;go_upto_region 1 with fail;generalize ((((w.alloc (L #[] 128)).alloc (L #[I O a,I O b] 126)).alloc (L #[I O c,I O d] 126)).alloc (L #[I O 0,I O 0] 126))=W at *
 obtain⟨kd,gC⟩:∃kd,kd=w.heap.size:=⟨_,rfl⟩;obtain⟨kx,hkx⟩:∃kx,kx=w.heap.size+1:=⟨_,rfl⟩;obtain⟨ky,hky⟩:∃ky,ky=w.heap.size+1+1:=⟨_,rfl⟩;obtain⟨kr,hkr⟩:∃kr,kr=w.heap.size+1+1+1:=⟨_,rfl⟩;have kM:kx≠kr:=by omega
 have gD:ky≠kr:=by omega
 have jA:w.heap.size<=kr:=by omega
 rw[<-hkr,<-hky,<-hkx,<-gC]at h0;rw[<-hkr,<-hky,<-hkx,<-gC];clear gC hkx hky hkr
 go_cut [17] from 12 to 17 (fun jC wc=>jC=U false/\Hid (fM w kd kx ky kr a b c d wc))
 case first =>
  obtain⟨x0,x1,y0,y1⟩:=h0.g.cells
  rcases HA.out with⟨HX,HY⟩ | HX
  ·go_wp2_with fail
   refine(HX W).mono ?_;rintro e w1⟨rfl,b1⟩;have h1:=h0.call b1;clear x0 x1 y0 y1;obtain⟨x0,x1,y0,y1⟩:=h1.g.cells;go_wp2_with fail;refine(HY w1).mono ?_;rintro e w2⟨rfl,b2⟩;have H2:Hid (fM w kd kx ky kr a b c d w2):=h1.call b2;clear x0 x1 y0 y1 h1 b1 b2;go_wp2_with fail;go_meet;exact⟨rfl,H2⟩
  ·go_wp2_with fail
   refine(HX W).mono ?_;rintro e w1⟨rfl,b1⟩;have H1:Hid (fM w kd kx ky kr a b c d w1):=h0.call b1;clear x0 x1 y0 y1 b1;go_wp2_with fail;go_meet;exact⟨rfl,H1⟩
 case rest =>
  obtain⟨rfl,hcut⟩:=hcut;have h1:=hcut.out;clear h0 hcut HA;obtain⟨x0,x1,y0,y1⟩:=h1.g.cells;go_wp2_with fail;refine(HC.out _).mono ?_;rintro e w1⟨rfl,b1⟩;have HH:=h1.call b1;clear x0 x1 y0 y1 h1 b1 HC;obtain⟨u0,v0,hr⟩:=HH.g.r;obtain⟨m0,m1,nL,nK,_⟩:=aR hr;have MQ:=hid (HH.g.there (I O (t.m:Nat)) (I O t.r));have BQ:Hid (ω w _):=(HH.g.put kM gD jA (I O (t.m:Nat)) (I O t.r)).b;clear hr HH;go_wp2_with fail;exact bodyPost_ret (v:=φ #[J #[I O (t.m:Nat),I O t.r],U true]) (by simp[results,results305,go_sem,MQ.1,MQ.2]) rfl ⟨iS E.out,BQ.out⟩
theorem KU(x y:Sp.Cg)(w:Wd)(hx:cr x)(hy:cr y)(hn:¬ (x.m=0/\y.m=0)) :
  Calls prog 305 #[J #[],I O 3,J #[I O (x.m:Nat),I O x.r],J #[I O (y.m:Nat),I O y.r]] w fun e w'=>e=υ (jG (bt 3 x y))/\ω w w':=by
 obtain⟨lE,jQ⟩:=dz hx;obtain⟨mM,o6⟩:=dz hy;have HA:Hid (((∀W:Wd,Calls prog 294 #[J #[I O (x.m:Nat),I O x.r]] W fun e w'=>e=υ (U true)/\ω W w')/\(∀W:Wd,Calls prog 294 #[J #[I O (y.m:Nat),I O y.r]] W fun e w'=>e=υ (U false)/\ω W w'))∨(∀W:Wd,Calls prog 294 #[J #[I O (x.m:Nat),I O x.r]] W fun e w'=>e=υ (U false)/\ω W w')):=by
  unfold Hid;by_cases h:x.m=0
  ·refine .inl ⟨fun W=>?_,fun W=>?_⟩
   ·have:=ch x.m x.r W;rwa [decide_eq_true h]at this
   ·have:=ch y.m y.r W;rwa [decide_eq_false (fun e=>hn ⟨h,e⟩)]at this
  ·refine .inr (fun W=>?_)
   have:=ch x.m x.r W;rwa [decide_eq_false h]at this
 have HN:Hid (∀W:Wd,Calls prog 301 #[J #[],I ψ 0] W fun e w'=>e=υ (J #[I O 0,I O 0])/\ω W w'):=fun W=>lV 0 W (by omega) (by omega)
 by_cases hz:y.m=0/\y.r=0
 ·have E:Hid (bt 3 x y=M):=by
   unfold Hid bt;rw[if_neg hn,if_pos ⟨by omega,hz⟩]
  have zW:((y.m:Nat):Int)=0/\y.r=0:=by omega
  clear hn hx hy hz;generalize bt 3 x y=res at *;generalize x.r=b at *;generalize y.r=d at *;generalize ((x.m:Nat):Int)=a at *;generalize ((y.m:Nat):Int)=c at *;clear lE jQ mM o6;have eY:∀w,(Op.equalIn 10000 126 (J #[I O c,I O d]) (J #[I O 0,I O 0])).run prog w=.ok true w:=fun w=>by rw[On,decide_eq_true zW]
  clear zW;have qd:ek w (w.heap.size+1) (w.heap.size+1+1) (w.heap.size+1+1+1) a b c d ((((w.alloc (L #[] 128)).alloc (L #[I O a,I O b] 126)).alloc (L #[I O c,I O d] 126)).alloc (L #[I O 0,I O 0] 126)):=by obtain⟨h1,h2,h3,h4,hb⟩:=bB (w:=w) (o1:=L #[] 128) (o2:=L #[I O a,I O b] 126) (o3:=L #[I O c,I O d] 126) (o4:=L #[I O 0,I O 0] 126) (Below.refl _ _);exact⟨h2,h3,⟨_,_,h4⟩,hb⟩
  have h0:fM w w.heap.size (w.heap.size+1) (w.heap.size+1+1) (w.heap.size+1+1+1) a b c d ((((w.alloc (L #[] 128)).alloc (L #[I O a,I O b] 126)).alloc (L #[I O c,I O d] 126)).alloc (L #[I O 0,I O 0] 126)):=by obtain⟨h1,_⟩:=bB (w:=w) (o1:=L #[] 128) (o2:=L #[I O a,I O b] 126) (o3:=L #[I O c,I O d] 126) (o4:=L #[I O 0,I O 0] 126) (Below.refl _ _);exact⟨qd,h1⟩
  clear qd;go_enter func305,ntmps305;go_upto_region 1 with fail;generalize ((((w.alloc (L #[] 128)).alloc (L #[I O a,I O b] 126)).alloc (L #[I O c,I O d] 126)).alloc (L #[I O 0,I O 0] 126))=W at *
  obtain⟨kd,gC⟩:∃kd,kd=w.heap.size:=⟨_,rfl⟩;obtain⟨kx,hkx⟩:∃kx,kx=w.heap.size+1:=⟨_,rfl⟩;obtain⟨ky,hky⟩:∃ky,ky=w.heap.size+1+1:=⟨_,rfl⟩;obtain⟨kr,hkr⟩:∃kr,kr=w.heap.size+1+1+1:=⟨_,rfl⟩;have kM:kx≠kr:=by omega
  have gD:ky≠kr:=by omega
  have jA:w.heap.size<=kr:=by omega
  rw[<-hkr,<-hky,<-hkx,<-gC]at h0;rw[<-hkr,<-hky,<-hkx,<-gC];clear gC hkx hky hkr
  go_cut [17] from 12 to 17 (fun jC wc=>jC=U false/\Hid (fM w kd kx ky kr a b c d wc))
  case first =>
   obtain⟨x0,x1,y0,y1⟩:=h0.g.cells
   rcases HA.out with⟨HX,HY⟩ | HX
   ·go_wp2_with fail
    refine(HX W).mono ?_;rintro e w1⟨rfl,b1⟩;have h1:=h0.call b1;clear x0 x1 y0 y1;obtain⟨x0,x1,y0,y1⟩:=h1.g.cells;go_wp2_with fail;refine(HY w1).mono ?_;rintro e w2⟨rfl,b2⟩;have H2:Hid (fM w kd kx ky kr a b c d w2):=h1.call b2;clear x0 x1 y0 y1 h1 b1 b2;go_wp2_with fail;go_meet;exact⟨rfl,H2⟩
   ·go_wp2_with fail
    refine(HX W).mono ?_;rintro e w1⟨rfl,b1⟩;have H1:Hid (fM w kd kx ky kr a b c d w1):=h0.call b1;clear x0 x1 y0 y1 b1;go_wp2_with fail;go_meet;exact⟨rfl,H1⟩
  case rest =>
   obtain⟨rfl,hcut⟩:=hcut;have h1:=hcut.out;clear h0 hcut HA;go_wp2_with fail;refine wp_region_held_drew (S:=fun w':Wd=>fM w kd kx ky kr a b c d w') (by kernel_rfl) (h1.call (Below.refl _ _).drew) (fun aa=>?_);generalize wc.drew=V at *;refine tk 0 (J #[I O c,I O d]) rfl (fun w' h=>by have q:=h.g.cells.2.2.1;have q2:=h.g.cells.2.2.2;go_simp) aa ?_;refine tk 1 (J #[]) rfl (fun w' h=>by have q:=h.o;go_simp) aa ?_;refine bD 2 fun K hK=>?_
   simp only[bp,fB];go_simp;refine(HN.out _).mono ?_;rintro e w1⟨rfl,b1⟩;replace aa:=aa.call b1;clear b1;go_wp2_with fail;refine hK.out _ _ aa (fun _=>?_);clear hK K;refine bD 3 fun K hK=>?_
   simp only[bp];go_simp;refine hK.out _ _ aa (fun _=>?_);clear hK K;refine bD 4 fun K hK=>?_
   simp only[bp];go_simp;refine hK.out _ _ aa (fun _=>?_);clear hK K;refine wpAnyH_done (by kernel_rfl) ?_ _;have HH:=aa;clear aa h1;obtain⟨u0,v0,hr⟩:=HH.g.r;obtain⟨m0,m1,nL,nK,_⟩:=aR hr;have MQ:=hid (HH.g.there (I O 0) (I O 0));have BQ:Hid (ω w _):=(HH.g.put kM gD jA (I O 0) (I O 0)).b;clear hr HH;go_wp2_with fail;exact bodyPost_ret (v:=φ #[J #[I O 0,I O 0],U false]) (by simp[results,results305,go_sem,MQ.1,MQ.2]) rfl ⟨lS E.out,BQ.out⟩
 ·have zW:¬ (((y.m:Nat):Int)=0/\y.r=0):=by omega
  have E:Hid (bt 3 x y=Y ⟨1,0⟩):=by unfold Hid bt;rw[if_neg hn,if_neg (fun h=>hz h.2),if_neg (by omega),if_neg (by omega),if_neg (by omega),if_pos rfl];rfl
  have HC:Hid (∀W:Wd,Calls prog 303 #[J #[]] W fun e w'=>e=υ (J #[I O 1,I O 0])/\ω W w'):=fun W=>DR W
  clear hn hx hy hz;generalize bt 3 x y=res at *;generalize x.r=b at *;generalize y.r=d at *;generalize ((x.m:Nat):Int)=a at *;generalize ((y.m:Nat):Int)=c at *;clear lE jQ mM o6;have eY:∀w,(Op.equalIn 10000 126 (J #[I O c,I O d]) (J #[I O 0,I O 0])).run prog w=.ok false w:=fun w=>by rw[On,decide_eq_false zW]
  clear zW;have qd:ek w (w.heap.size+1) (w.heap.size+1+1) (w.heap.size+1+1+1) a b c d ((((w.alloc (L #[] 128)).alloc (L #[I O a,I O b] 126)).alloc (L #[I O c,I O d] 126)).alloc (L #[I O 0,I O 0] 126)):=by obtain⟨h1,h2,h3,h4,hb⟩:=bB (w:=w) (o1:=L #[] 128) (o2:=L #[I O a,I O b] 126) (o3:=L #[I O c,I O d] 126) (o4:=L #[I O 0,I O 0] 126) (Below.refl _ _);exact⟨h2,h3,⟨_,_,h4⟩,hb⟩
  have h0:fM w w.heap.size (w.heap.size+1) (w.heap.size+1+1) (w.heap.size+1+1+1) a b c d ((((w.alloc (L #[] 128)).alloc (L #[I O a,I O b] 126)).alloc (L #[I O c,I O d] 126)).alloc (L #[I O 0,I O 0] 126)):=by obtain⟨h1,_⟩:=bB (w:=w) (o1:=L #[] 128) (o2:=L #[I O a,I O b] 126) (o3:=L #[I O c,I O d] 126) (o4:=L #[I O 0,I O 0] 126) (Below.refl _ _);exact⟨qd,h1⟩
  clear qd;go_enter func305,ntmps305;go_upto_region 1 with fail;generalize ((((w.alloc (L #[] 128)).alloc (L #[I O a,I O b] 126)).alloc (L #[I O c,I O d] 126)).alloc (L #[I O 0,I O 0] 126))=W at *
  obtain⟨kd,gC⟩:∃kd,kd=w.heap.size:=⟨_,rfl⟩;obtain⟨kx,hkx⟩:∃kx,kx=w.heap.size+1:=⟨_,rfl⟩;obtain⟨ky,hky⟩:∃ky,ky=w.heap.size+1+1:=⟨_,rfl⟩;obtain⟨kr,hkr⟩:∃kr,kr=w.heap.size+1+1+1:=⟨_,rfl⟩;have kM:kx≠kr:=by omega
  have gD:ky≠kr:=by omega
  have jA:w.heap.size<=kr:=by omega
  rw[<-hkr,<-hky,<-hkx,<-gC]at h0;rw[<-hkr,<-hky,<-hkx,<-gC];clear gC hkx hky hkr
  go_cut [17] from 12 to 17 (fun jC wc=>jC=U false/\Hid (fM w kd kx ky kr a b c d wc))
  case first =>
   obtain⟨x0,x1,y0,y1⟩:=h0.g.cells
   rcases HA.out with⟨HX,HY⟩ | HX
   ·go_wp2_with fail
    refine(HX W).mono ?_;rintro e w1⟨rfl,b1⟩;have h1:=h0.call b1;clear x0 x1 y0 y1;obtain⟨x0,x1,y0,y1⟩:=h1.g.cells;go_wp2_with fail;refine(HY w1).mono ?_;rintro e w2⟨rfl,b2⟩;have H2:Hid (fM w kd kx ky kr a b c d w2):=h1.call b2;clear x0 x1 y0 y1 h1 b1 b2;go_wp2_with fail;go_meet;exact⟨rfl,H2⟩
   ·go_wp2_with fail
    refine(HX W).mono ?_;rintro e w1⟨rfl,b1⟩;have H1:Hid (fM w kd kx ky kr a b c d w1):=h0.call b1;clear x0 x1 y0 y1 b1;go_wp2_with fail;go_meet;exact⟨rfl,H1⟩
  case rest =>
   obtain⟨rfl,hcut⟩:=hcut;have h1:=hcut.out;clear h0 hcut HA;go_wp2_with fail;refine wp_region_held_drew (S:=fun w':Wd=>fM w kd kx ky kr a b c d w') (by kernel_rfl) (h1.call (Below.refl _ _).drew) (fun aa=>?_);generalize wc.drew=V at *;refine tk 0 (J #[I O c,I O d]) rfl (fun w' h=>by have q:=h.g.cells.2.2.1;have q2:=h.g.cells.2.2.2;go_simp) aa ?_;refine tk 1 (J #[]) rfl (fun w' h=>by have q:=h.o;go_simp) aa ?_;refine bD 2 fun K hK=>?_
   simp only[bp,fB];go_simp;refine(HN.out _).mono ?_;rintro e w1⟨rfl,b1⟩;replace aa:=aa.call b1;clear b1;go_wp2_with fail;refine hK.out _ _ aa (fun _=>?_);clear hK K;refine bD 3 fun K hK=>?_
   simp only[bp];go_simp;refine hK.out _ _ aa (fun _=>?_);clear hK K;refine bD 4 fun K hK=>?_
   simp only[bp];go_simp;refine hK.out _ _ aa (fun _=>?_);clear hK K;refine wpAnyH_done (by kernel_rfl) ?_ _;have qo:=aa.o;go_wp2_with fail;refine(HC.out _).mono ?_;rintro e w2⟨rfl,b1⟩;have HH:=aa.call b1;clear b1 HC aa h1 qo;obtain⟨u0,v0,hr⟩:=HH.g.r;obtain⟨m0,m1,nL,nK,_⟩:=aR hr;have MQ:=hid (HH.g.there (I O 1) (I O 0));have BQ:Hid (ω w _):=(HH.g.put kM gD jA (I O 1) (I O 0)).b;clear hr HH;go_wp2_with fail;exact bodyPost_ret (v:=φ #[J #[I O 1,I O 0],U true]) (by simp[results,results305,go_sem,MQ.1,MQ.2]) rfl ⟨iS (a:=1) E.out,BQ.out⟩
theorem LC(x y:Sp.Cg)(w:Wd)(hx:cr x)(hy:cr y)(hn:¬ (x.m=0/\y.m=0)) :
  Calls prog 305 #[J #[],I O 4,J #[I O (x.m:Nat),I O x.r],J #[I O (y.m:Nat),I O y.r]] w fun e w'=>e=υ (jG (bt 4 x y))/\ω w w':=by
 obtain⟨lE,jQ⟩:=dz hx;obtain⟨mM,o6⟩:=dz hy;have HA:Hid (((∀W:Wd,Calls prog 294 #[J #[I O (x.m:Nat),I O x.r]] W fun e w'=>e=υ (U true)/\ω W w')/\(∀W:Wd,Calls prog 294 #[J #[I O (y.m:Nat),I O y.r]] W fun e w'=>e=υ (U false)/\ω W w'))∨(∀W:Wd,Calls prog 294 #[J #[I O (x.m:Nat),I O x.r]] W fun e w'=>e=υ (U false)/\ω W w')):=by
  unfold Hid;by_cases h:x.m=0
  ·refine .inl ⟨fun W=>?_,fun W=>?_⟩
   ·have:=ch x.m x.r W;rwa [decide_eq_true h]at this
   ·have:=ch y.m y.r W;rwa [decide_eq_false (fun e=>hn ⟨h,e⟩)]at this
  ·refine .inr (fun W=>?_)
   have:=ch x.m x.r W;rwa [decide_eq_false h]at this
 have HN:Hid (∀W:Wd,Calls prog 301 #[J #[],I ψ 0] W fun e w'=>e=υ (J #[I O 0,I O 0])/\ω W w'):=fun W=>lV 0 W (by omega) (by omega)
 by_cases hz:y.m=0/\y.r=0
 ·have E:Hid (bt 4 x y=M):=by
   unfold Hid bt;rw[if_neg hn,if_pos ⟨by omega,hz⟩]
  have zW:((y.m:Nat):Int)=0/\y.r=0:=by omega
  clear hn hx hy hz;generalize bt 4 x y=res at *;generalize x.r=b at *;generalize y.r=d at *;generalize ((x.m:Nat):Int)=a at *;generalize ((y.m:Nat):Int)=c at *;clear lE jQ mM o6;have eY:∀w,(Op.equalIn 10000 126 (J #[I O c,I O d]) (J #[I O 0,I O 0])).run prog w=.ok true w:=fun w=>by rw[On,decide_eq_true zW]
  clear zW;have qd:ek w (w.heap.size+1) (w.heap.size+1+1) (w.heap.size+1+1+1) a b c d ((((w.alloc (L #[] 128)).alloc (L #[I O a,I O b] 126)).alloc (L #[I O c,I O d] 126)).alloc (L #[I O 0,I O 0] 126)):=by obtain⟨h1,h2,h3,h4,hb⟩:=bB (w:=w) (o1:=L #[] 128) (o2:=L #[I O a,I O b] 126) (o3:=L #[I O c,I O d] 126) (o4:=L #[I O 0,I O 0] 126) (Below.refl _ _);exact⟨h2,h3,⟨_,_,h4⟩,hb⟩
  have h0:fM w w.heap.size (w.heap.size+1) (w.heap.size+1+1) (w.heap.size+1+1+1) a b c d ((((w.alloc (L #[] 128)).alloc (L #[I O a,I O b] 126)).alloc (L #[I O c,I O d] 126)).alloc (L #[I O 0,I O 0] 126)):=by obtain⟨h1,_⟩:=bB (w:=w) (o1:=L #[] 128) (o2:=L #[I O a,I O b] 126) (o3:=L #[I O c,I O d] 126) (o4:=L #[I O 0,I O 0] 126) (Below.refl _ _);exact⟨qd,h1⟩
  clear qd;go_enter func305,ntmps305;go_upto_region 1 with fail;generalize ((((w.alloc (L #[] 128)).alloc (L #[I O a,I O b] 126)).alloc (L #[I O c,I O d] 126)).alloc (L #[I O 0,I O 0] 126))=W at *
  obtain⟨kd,gC⟩:∃kd,kd=w.heap.size:=⟨_,rfl⟩;obtain⟨kx,hkx⟩:∃kx,kx=w.heap.size+1:=⟨_,rfl⟩;obtain⟨ky,hky⟩:∃ky,ky=w.heap.size+1+1:=⟨_,rfl⟩;obtain⟨kr,hkr⟩:∃kr,kr=w.heap.size+1+1+1:=⟨_,rfl⟩;have kM:kx≠kr:=by omega
  have gD:ky≠kr:=by omega
  have jA:w.heap.size<=kr:=by omega
  rw[<-hkr,<-hky,<-hkx,<-gC]at h0;rw[<-hkr,<-hky,<-hkx,<-gC];clear gC hkx hky hkr
  go_cut [17] from 12 to 17 (fun jC wc=>jC=U false/\Hid (fM w kd kx ky kr a b c d wc))
  case first =>
   obtain⟨x0,x1,y0,y1⟩:=h0.g.cells
   rcases HA.out with⟨HX,HY⟩ | HX
   ·go_wp2_with fail
    refine(HX W).mono ?_;rintro e w1⟨rfl,b1⟩;have h1:=h0.call b1;clear x0 x1 y0 y1;obtain⟨x0,x1,y0,y1⟩:=h1.g.cells;go_wp2_with fail;refine(HY w1).mono ?_;rintro e w2⟨rfl,b2⟩;have H2:Hid (fM w kd kx ky kr a b c d w2):=h1.call b2;clear x0 x1 y0 y1 h1 b1 b2;go_wp2_with fail;go_meet;exact⟨rfl,H2⟩
   ·go_wp2_with fail
    refine(HX W).mono ?_;rintro e w1⟨rfl,b1⟩;have H1:Hid (fM w kd kx ky kr a b c d w1):=h0.call b1;clear x0 x1 y0 y1 b1;go_wp2_with fail;go_meet;exact⟨rfl,H1⟩
  case rest =>
   obtain⟨rfl,hcut⟩:=hcut;have h1:=hcut.out;clear h0 hcut HA;go_wp2_with fail;refine wp_region_held_drew (S:=fun w':Wd=>fM w kd kx ky kr a b c d w') (by kernel_rfl) (h1.call (Below.refl _ _).drew) (fun aa=>?_);generalize wc.drew=V at *;refine tk 0 (J #[I O c,I O d]) rfl (fun w' h=>by have q:=h.g.cells.2.2.1;have q2:=h.g.cells.2.2.2;go_simp) aa ?_;refine tk 1 (J #[]) rfl (fun w' h=>by have q:=h.o;go_simp) aa ?_;refine bD 2 fun K hK=>?_
   simp only[bp,fB];go_simp;refine(HN.out _).mono ?_;rintro e w1⟨rfl,b1⟩;replace aa:=aa.call b1;clear b1;go_wp2_with fail;refine hK.out _ _ aa (fun _=>?_);clear hK K;refine bD 3 fun K hK=>?_
   simp only[bp];go_simp;refine hK.out _ _ aa (fun _=>?_);clear hK K;refine bD 4 fun K hK=>?_
   simp only[bp];go_simp;refine hK.out _ _ aa (fun _=>?_);clear hK K;refine wpAnyH_done (by kernel_rfl) ?_ _;have HH:=aa;clear aa h1;obtain⟨u0,v0,hr⟩:=HH.g.r;obtain⟨m0,m1,nL,nK,_⟩:=aR hr;have MQ:=hid (HH.g.there (I O 0) (I O 0));have BQ:Hid (ω w _):=(HH.g.put kM gD jA (I O 0) (I O 0)).b;clear hr HH;go_wp2_with fail;exact bodyPost_ret (v:=φ #[J #[I O 0,I O 0],U false]) (by simp[results,results305,go_sem,MQ.1,MQ.2]) rfl ⟨lS E.out,BQ.out⟩
 ·have zW:¬ (((y.m:Nat):Int)=0/\y.r=0):=by omega
  obtain⟨t,ht⟩:∃t,Hid (t=cG (Nat.gcd (Nat.gcd x.m y.m) y.r.natAbs) x.r):=⟨_,rfl⟩;have E:Hid (bt 4 x y=Y t):=by unfold Hid bt;rw[if_neg hn,if_neg (fun h=>hz h.2),if_neg (by omega),if_neg (by omega),if_neg (by omega),if_neg (by omega),ht.out];unfold cG;rw[if_neg (fun h=>hn (Nat.gcd_eq_zero_iff.1 (Nat.gcd_eq_zero_iff.1 h).1))]
  have HC:Hid (∀W:Wd,Calls prog 311 #[J #[I O (x.m:Nat),I O x.r],J #[I O (y.m:Nat),I O y.r]] W fun e w'=>e=υ (J #[I O (t.m:Nat),I O t.r])/\ω W w'):=fun W=>by rw[ht.out];exact A6 x y W lE mM o6
  clear ht;clear hn hx hy hz;generalize bt 4 x y=res at *;generalize x.r=b at *;generalize y.r=d at *;generalize ((x.m:Nat):Int)=a at *;generalize ((y.m:Nat):Int)=c at *;clear lE jQ mM o6;have eY:∀w,(Op.equalIn 10000 126 (J #[I O c,I O d]) (J #[I O 0,I O 0])).run prog w=.ok false w:=fun w=>by rw[On,decide_eq_false zW]
  clear zW;have qd:ek w (w.heap.size+1) (w.heap.size+1+1) (w.heap.size+1+1+1) a b c d ((((w.alloc (L #[] 128)).alloc (L #[I O a,I O b] 126)).alloc (L #[I O c,I O d] 126)).alloc (L #[I O 0,I O 0] 126)):=by obtain⟨h1,h2,h3,h4,hb⟩:=bB (w:=w) (o1:=L #[] 128) (o2:=L #[I O a,I O b] 126) (o3:=L #[I O c,I O d] 126) (o4:=L #[I O 0,I O 0] 126) (Below.refl _ _);exact⟨h2,h3,⟨_,_,h4⟩,hb⟩
  have h0:fM w w.heap.size (w.heap.size+1) (w.heap.size+1+1) (w.heap.size+1+1+1) a b c d ((((w.alloc (L #[] 128)).alloc (L #[I O a,I O b] 126)).alloc (L #[I O c,I O d] 126)).alloc (L #[I O 0,I O 0] 126)):=by obtain⟨h1,_⟩:=bB (w:=w) (o1:=L #[] 128) (o2:=L #[I O a,I O b] 126) (o3:=L #[I O c,I O d] 126) (o4:=L #[I O 0,I O 0] 126) (Below.refl _ _);exact⟨qd,h1⟩
  clear qd;go_enter func305,ntmps305;go_upto_region 1 with fail;generalize ((((w.alloc (L #[] 128)).alloc (L #[I O a,I O b] 126)).alloc (L #[I O c,I O d] 126)).alloc (L #[I O 0,I O 0] 126))=W at *
  obtain⟨kd,gC⟩:∃kd,kd=w.heap.size:=⟨_,rfl⟩;obtain⟨kx,hkx⟩:∃kx,kx=w.heap.size+1:=⟨_,rfl⟩;obtain⟨ky,hky⟩:∃ky,ky=w.heap.size+1+1:=⟨_,rfl⟩;obtain⟨kr,hkr⟩:∃kr,kr=w.heap.size+1+1+1:=⟨_,rfl⟩;have kM:kx≠kr:=by omega
  have gD:ky≠kr:=by omega
  have jA:w.heap.size<=kr:=by omega
  rw[<-hkr,<-hky,<-hkx,<-gC]at h0;rw[<-hkr,<-hky,<-hkx,<-gC];clear gC hkx hky hkr
  go_cut [17] from 12 to 17 (fun jC wc=>jC=U false/\Hid (fM w kd kx ky kr a b c d wc))
  case first =>
   obtain⟨x0,x1,y0,y1⟩:=h0.g.cells
   rcases HA.out with⟨HX,HY⟩ | HX
   ·go_wp2_with fail
    refine(HX W).mono ?_;rintro e w1⟨rfl,b1⟩;have h1:=h0.call b1;clear x0 x1 y0 y1;obtain⟨x0,x1,y0,y1⟩:=h1.g.cells;go_wp2_with fail;refine(HY w1).mono ?_;rintro e w2⟨rfl,b2⟩;have H2:Hid (fM w kd kx ky kr a b c d w2):=h1.call b2;clear x0 x1 y0 y1 h1 b1 b2;go_wp2_with fail;go_meet;exact⟨rfl,H2⟩
   ·go_wp2_with fail
    refine(HX W).mono ?_;rintro e w1⟨rfl,b1⟩;have H1:Hid (fM w kd kx ky kr a b c d w1):=h0.call b1;clear x0 x1 y0 y1 b1;go_wp2_with fail;go_meet;exact⟨rfl,H1⟩
  case rest =>
   obtain⟨rfl,hcut⟩:=hcut;have h1:=hcut.out;clear h0 hcut HA;go_wp2_with fail;refine wp_region_held_drew (S:=fun w':Wd=>fM w kd kx ky kr a b c d w') (by kernel_rfl) (h1.call (Below.refl _ _).drew) (fun aa=>?_);generalize wc.drew=V at *;refine tk 0 (J #[I O c,I O d]) rfl (fun w' h=>by have q:=h.g.cells.2.2.1;have q2:=h.g.cells.2.2.2;go_simp) aa ?_;refine tk 1 (J #[]) rfl (fun w' h=>by have q:=h.o;go_simp) aa ?_;refine bD 2 fun K hK=>?_
   simp only[bp,fB];go_simp;refine(HN.out _).mono ?_;rintro e w1⟨rfl,b1⟩;replace aa:=aa.call b1;clear b1;go_wp2_with fail;refine hK.out _ _ aa (fun _=>?_);clear hK K;refine bD 3 fun K hK=>?_
   simp only[bp];go_simp;refine hK.out _ _ aa (fun _=>?_);clear hK K;refine bD 4 fun K hK=>?_
   simp only[bp];go_simp;refine hK.out _ _ aa (fun _=>?_);clear hK K;refine wpAnyH_done (by kernel_rfl) ?_ _;obtain⟨x0,x1,y0,y1⟩:=aa.g.cells;go_wp2_with fail;refine(HC.out _).mono ?_;rintro e w2⟨rfl,b1⟩;have HH:=aa.call b1;clear b1 HC aa h1 x0 x1 y0 y1;obtain⟨u0,v0,hr⟩:=HH.g.r;obtain⟨m0,m1,nL,nK,_⟩:=aR hr;have MQ:=hid (HH.g.there (I O (t.m:Nat)) (I O t.r));have BQ:Hid (ω w _):=(HH.g.put kM gD jA (I O (t.m:Nat)) (I O t.r)).b;clear hr HH;go_wp2_with fail;exact bodyPost_ret (v:=φ #[J #[I O (t.m:Nat),I O t.r],U true]) (by simp[results,results305,go_sem,MQ.1,MQ.2]) rfl ⟨iS E.out,BQ.out⟩
end
end Go.Proofs.YtiopfihjmkfdmaaGreatDoor
