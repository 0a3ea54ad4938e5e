import Derived.Test.YtiopfihjmkfdmabGreatDoorC11
import Derived.Test.YtiopfihjmkfdmabGreatDoorC12
import Derived.Handy
namespace Go.Proofs.YtiopfihjmkfdmabGreatDoor
open Go.Value renaming int->I,agg->J,bool->U,tuple->φ,slice->Z
open Go.IntKind renaming i16->ψ,i64->O
open Go.Ending renaming returned->υ
open Option renaming some->Y,none->M
open Go.Obj renaming cells->L
open Go.Proofs.Tryz Sp
open Go.RowKit
set_option maxRecDepth 100000
set_option maxHeartbeats 16000000
section
variable{a b c d:Int}
variable{r:Option Sp.Iv}
variable{w w1 w':Wd}
variable{x y dv:Value}
variable{o1 o2 o o3:Obj}
def iW:Option Sp.Iv->Value
 |some x=>φ #[J #[I ψ x.a,I ψ x.b],U true]
 |none=>φ #[J #[I ψ 0,I ψ 0],U false]
theorem TP{a' b':Int}(h1:a=a')(h2:b=b'):Ending.returned (J #[I ψ a,I ψ b])=υ (J #[I ψ a',I ψ b']):=by rw[h1,h2]
theorem iS(h:r=Y ⟨a,b⟩):Ending.returned (φ #[J #[I ψ a,I ψ b],U true])=υ (iW r):=by rw[h];rfl
theorem iX(h:r=M):Ending.returned (φ #[J #[I ψ 0,I ψ 0],U false])=υ (iW r):=by rw[h];rfl
theorem Mw(d:Value)(n:Int)(w:Wd) :
  Calls prog 302 #[J #[d],I ψ n] w λe w'=>e=υ (J #[I ψ n,I ψ n])/\ω w w':=by
 go_enter func302,ntmps302;go_wp2_with fail;go_returns;exact⟨rfl,by go_grown⟩
theorem PW(d:Value)(w:Wd) :
  Calls prog 304 #[J #[d]] w λe w'=>e=υ (J #[I ψ (-32768),I ψ 32767])/\ω w w':=by
 go_enter func304,ntmps304;go_wp2_with fail;go_returns;exact⟨rfl,by go_grown⟩
theorem L6(d:Value)(a b:Int)(w:Wd) :
  Calls prog 297 #[J #[d],J #[I ψ a,I ψ b]] w λe w'=>e=υ (U (decide (a<=0)&&decide (0<=b)))/\ω w w':=by
 by_cases h:a<=0
 .go_enter func297,ntmps297
  go_wp2_with fail;go_returns;exact⟨bt (by simp[h]),by go_grown⟩
 .have h0:decide (a<=0)=false:=by simpa using h
  go_enter func297,ntmps297;go_wp2_with fail;go_returns;exact⟨rfl,by go_grown⟩
theorem Sa(d:Value)(a b a' b':Int)(w:Wd) :
  Calls prog 298 #[J #[d],J #[I ψ a,I ψ b],J #[I ψ a',I ψ b']] w λe w'=>e=υ (J #[I ψ (min a a'),I ψ (max b b')])/\ω w w':=by
 go_enter func298,ntmps298;go_wp2_with fail
 all_goals
  go_returns;exact⟨TP À À,by go_grown⟩
theorem LC(d:Value)(a b a' b':Int)(w:Wd) :
  Calls prog 300 #[J #[d],J #[I ψ a,I ψ b],J #[I ψ a',I ψ b']] w λe w'=>e=υ (J #[I ψ (if a=-32768 then a' else a),I ψ (if b=32767 then b' else b)])/\ω w w':=by
 by_cases ha:a=-32768
 all_goals
  by_cases hb:b=32767
  all_goals
   go_enter func300,ntmps300;go_wp2_with fail;go_returns;exact⟨TP À À,by go_grown⟩
theorem RF(d:Value)(a b:Int)(w:Wd)(h1:-32768<=a)(h2:a<=32767)(h3:-32768<=b)(h4:b<=32767) :
  Calls prog 303 #[J #[d],J #[I ψ a,I ψ b]] w λe w'=>e=υ (J #[I O a,I O b])/\ω w w':=by
 go_enter func303,ntmps303;go_wp2_with fail;go_returns;exact⟨rfl,by go_grown⟩
theorem OW(a b:Int)(w:Wd) :
  Calls prog 312 #[J #[I ψ a,I ψ b]] w λe w'=>e=υ (φ #[I O (IntKind.i64.wrap a),I O (IntKind.i64.wrap b)])/\ω w w':=by
 go_enter func312,ntmps312;go_wp2_with fail
 go_region_with (fail)
 all_goals
  go_wp2_with fail;go_returns;exact⟨rfl,by go_grown⟩
theorem vZ(h1:-32768<=a)(h2:a<=32767):IntKind.i64.wrap a=a:=by rw[IntWalk.i64_in]<;>omega
theorem oK(a b:Int)(w:Wd)(h1:-32768<=a)(h2:a<=32767)(h3:-32768<=b)(h4:b<=32767) :
  Calls prog 312 #[J #[I ψ a,I ψ b]] w λe w'=>e=υ (φ #[I O a,I O b])/\ω w w':=by
 have h:=OW a b w
 rwa[vZ h1 h2,vZ h3 h4]at h
theorem DU(a b:Int)(w:Wd) :
  Calls prog 295 #[J #[I ψ a,I ψ b]] w λe w'=>e=υ (U (decide (a=b)))/\ω w w':=by
 go_enter func295,ntmps295;go_wp2_with fail;go_returns;exact⟨bt (by rw[Bool.eq_iff_iff];simp),by go_grown⟩
theorem MA{p q:Int}(h:p<=q)(h1:p=max a c)(h2:q=min b d):dB ⟨a,b⟩ ⟨c,d⟩=Y ⟨p,q⟩:=by subst h1;subst h2;unfold dB;rw[Á h]
theorem u5(h:min b d<max a c):dB ⟨a,b⟩ ⟨c,d⟩=M:=by unfold dB;rw[Â (by simp only;omega)]
theorem qK(a b c d:Int)(w:Wd) :
  Calls prog 309 #[J #[I ψ a,I ψ b],J #[I ψ c,I ψ d]] w λe w'=>e=υ (iW (dB ⟨a,b⟩ ⟨c,d⟩))/\ω w w':=by
 go_enter func309,ntmps309;go_wp2_with fail
 all_goals go_returns
 all_goals first
  |exact⟨iX (u5 À),by go_grown⟩
  |exact⟨iS (MA À À À),by go_grown⟩
theorem aI{B:Nat}{t:TypeId}(h:w.heap[B]?=Y (L #[x,y] t)):w.cell? ⟨B,0,M⟩=Y x/\w.cell? ⟨B,1,M⟩=Y y/\w.frozen? ⟨B,0,M⟩=false/\w.frozen? ⟨B,1,M⟩=false /\
  ∀u v,((w.setCell ⟨B,0,M⟩ u).setCell ⟨B,1,M⟩ v).cell? ⟨B,0,M⟩=Y u/\((w.setCell ⟨B,0,M⟩ u).setCell ⟨B,1,M⟩ v).cell? ⟨B,1,M⟩=Y v:=by
 refine⟨cell_of h 0 rfl,cell_of h 1 rfl,ay h 0,ay h 1,λu v=>?_⟩;have h2:=ai (ai h 0 u) 1 v;exact⟨cell_of h2 0 rfl,cell_of h2 1 rfl⟩
theorem FO(a b n:Int)(w:Wd)(h1:-32768<=n)(h2:n<=32767) :
  Calls prog 308 #[J #[I ψ a,I ψ b],I ψ n] w λe w'=>e=υ (iW (fh ⟨a,b⟩ n))/\ω w w':=by
 by_cases hn:n=-32768
 .have e:Hid (fh ⟨a,b⟩ n=M):=by unfold Hid fh;rw[Á hn]
  go_enter func308,ntmps308;go_wp2_with fail;go_returns;exact⟨iX e.out,by go_grown⟩
 .have e:Hid (fh ⟨a,b⟩ n=dB ⟨a,b⟩ ⟨-32768,n-1⟩):=by unfold Hid fh;rw[Â hn]
  have e1:IntKind.i16.wrap (n-1)=n-1:=by rw[IntWalk.i16_in]<;>omega
  go_enter func308,ntmps308;go_wp2_with fail;refine(qK a b (-32768) (n-1) _).mono ?_;rintro e w1⟨rfl,b1⟩;have hk:=b1.block (w.heap.size+1) Ä;have nO:w1.heap[w.heap.size+1]?=Y (L #[I ψ 0,I ψ 0] 90):=by rw[hk];have:=heap_alloc_new (w.alloc (L #[I ψ a,I ψ b] 90)) (L #[I ψ 0,I ψ 0] 90);simpa using this
  have B:Hid (ω w w1):=(by go_grown:ω w ((w.alloc (L #[I ψ a,I ψ b] 90)).alloc (L #[I ψ 0,I ψ 0] 90))).trans (b1.mono (by simp;omega));obtain⟨m0,m1,jo,jH,mq⟩:=aI nO;clear hk b1 nO;cases hr:dB ⟨a,b⟩ ⟨-32768,n-1⟩ with
  |none=>have δ:Hid (fh ⟨a,b⟩ n=M):=e.trans hr;have MQ:=hid (mq (I ψ 0) (I ψ 0));clear mq hr e;simp only[iW];go_wp2_with fail;exact Ç (v:=φ #[J #[I ψ 0,I ψ 0],U false]) (by simp[results,results308,go_sem,MQ.1,MQ.2]) rfl ⟨iX δ.out,(B.setCell (p:=⟨w.heap.size+1,0,M⟩) (Nat.le_succ _) _).setCell (p:=⟨w.heap.size+1,1,M⟩) (Nat.le_succ _) _⟩
  |some v=>have δ:Hid (fh ⟨a,b⟩ n=Y v):=e.trans hr;have MQ:=hid (mq (I ψ v.a) (I ψ v.b));clear mq hr e;simp only[iW];go_wp2_with fail;exact Ç (v:=φ #[J #[I ψ v.a,I ψ v.b],U true]) (by simp[results,results308,go_sem,MQ.1,MQ.2]) rfl ⟨iS δ.out,(B.setCell (p:=⟨w.heap.size+1,0,M⟩) (Nat.le_succ _) _).setCell (p:=⟨w.heap.size+1,1,M⟩) (Nat.le_succ _) _⟩
theorem EH(a b n:Int)(w:Wd)(h1:-32768<=n)(h2:n<=32767) :
  Calls prog 311 #[J #[I ψ a,I ψ b],I ψ n] w λe w'=>e=υ (iW (fj ⟨a,b⟩ n))/\ω w w':=by
 by_cases hn:n=32767
 .have e:Hid (fj ⟨a,b⟩ n=M):=by unfold Hid fj;rw[Á hn]
  go_enter func311,ntmps311;go_wp2_with fail;go_returns;exact⟨iX e.out,by go_grown⟩
 .have e:Hid (fj ⟨a,b⟩ n=dB ⟨a,b⟩ ⟨n+1,32767⟩):=by unfold Hid fj;rw[Â hn]
  go_enter func311,ntmps311;go_wp2_with fail;refine(qK a b (n+1) 32767 _).mono ?_;rintro e w1⟨rfl,b1⟩;have hk:=b1.block (w.heap.size+1) Ä;have nO:w1.heap[w.heap.size+1]?=Y (L #[I ψ 0,I ψ 0] 90):=by rw[hk];have:=heap_alloc_new (w.alloc (L #[I ψ a,I ψ b] 90)) (L #[I ψ 0,I ψ 0] 90);simpa using this
  have B:Hid (ω w w1):=(by go_grown:ω w ((w.alloc (L #[I ψ a,I ψ b] 90)).alloc (L #[I ψ 0,I ψ 0] 90))).trans (b1.mono (by simp;omega));obtain⟨m0,m1,jo,jH,mq⟩:=aI nO;clear hk b1 nO;cases hr:dB ⟨a,b⟩ ⟨n+1,32767⟩ with
  |none=>have δ:Hid (fj ⟨a,b⟩ n=M):=e.trans hr;have MQ:=hid (mq (I ψ 0) (I ψ 0));clear mq hr e;simp only[iW];go_wp2_with fail;exact Ç (v:=φ #[J #[I ψ 0,I ψ 0],U false]) (by simp[results,results311,go_sem,MQ.1,MQ.2]) rfl ⟨iX δ.out,(B.setCell (p:=⟨w.heap.size+1,0,M⟩) (Nat.le_succ _) _).setCell (p:=⟨w.heap.size+1,1,M⟩) (Nat.le_succ _) _⟩
  |some v=>have δ:Hid (fj ⟨a,b⟩ n=Y v):=e.trans hr;have MQ:=hid (mq (I ψ v.a) (I ψ v.b));clear mq hr e;simp only[iW];go_wp2_with fail;exact Ç (v:=φ #[J #[I ψ v.a,I ψ v.b],U true]) (by simp[results,results311,go_sem,MQ.1,MQ.2]) rfl ⟨iS δ.out,(B.setCell (p:=⟨w.heap.size+1,0,M⟩) (Nat.le_succ _) _).setCell (p:=⟨w.heap.size+1,1,M⟩) (Nat.le_succ _) _⟩
theorem ft(b:Below ((w.alloc o1).alloc o2).heap.size ((w.alloc o1).alloc o2) w1):w1.heap[w.heap.size]?=Y o1/\w1.heap[w.heap.size+1]?=Y o2/\ω w w1:=by
 refine⟨?_,?_,?_⟩
 .rw[b.block _ (by simp;omega)];exact heap_alloc_old (heap_alloc_new _ _)
 .rw[b.block _ Ä]
  have:=heap_alloc_new (w.alloc o1) o2;simpa using this
 .exact(((Å).alloc È _).alloc Ä _).trans (b.mono (by simp;omega))
theorem fN(b:Below (w.alloc o).heap.size (w.alloc o) w1):ω w w1/\w1.heap[w.heap.size]?=Y o:=by refine⟨((Å).alloc È _).trans (b.mono Ä),?_⟩;rw[b.block _ Ä];exact heap_alloc_new _ _
theorem bQ(b:Below (((w.alloc o1).alloc o2).alloc o3).heap.size (((w.alloc o1).alloc o2).alloc o3) w1):w1.heap[w.heap.size]?=Y o1/\w1.heap[w.heap.size+1]?=Y o2/\w1.heap[w.heap.size+1+1]?=Y o3/\ω w w1:=by obtain⟨b',h3⟩:=fN b;obtain⟨h1,h2,hb⟩:=ft b';exact⟨h1,h2,by simpa using h3,hb⟩
theorem cN{o4:Obj}(b:Below ((((w.alloc o1).alloc o2).alloc o3).alloc o4).heap.size ((((w.alloc o1).alloc o2).alloc o3).alloc o4) w1):w1.heap[w.heap.size]?=Y o1/\w1.heap[w.heap.size+1]?=Y o2/\w1.heap[w.heap.size+1+1]?=Y o3/\w1.heap[w.heap.size+1+1+1]?=Y o4/\ω w w1:=by obtain⟨b',h4⟩:=fN b;obtain⟨h1,h2,h3,hb⟩:=bQ b';exact⟨h1,h2,h3,by simpa using h4,hb⟩
theorem ME(a b c d:Int)(w:Wd)(h1:-32768<=c)(h2:c<=32767)(h3:-32768<=d)(h4:d<=32767) :
  Calls prog 310 #[J #[I ψ a,I ψ b],J #[I ψ c,I ψ d]] w λe w'=>e=υ (iW (fw ⟨a,b⟩ ⟨c,d⟩))/\ω w w':=by
 go_enter func310,ntmps310;go_wp2_with fail;refine(DU c d _).mono ?_;rintro e w1⟨rfl,b1⟩;obtain⟨hx,hy,hz,bw⟩:=bQ b1;obtain⟨x0,x1,xf0,xf1,_⟩:=aI hx;obtain⟨y0,y1,wE,wH,_⟩:=aI hy;obtain⟨m0,m1,jo,jH,mq⟩:=aI hz;have BW:=hid bw;have HZ:=hid hz;clear b1 bw hx hy hz;by_cases wK:c=d
 .subst wK
  by_cases KC:a=c
  .subst KC
   have δ:Hid (fw ⟨a,b⟩ ⟨a,a⟩=fj ⟨a,b⟩ a):=by unfold Hid fw;simp
   clear mq;simp only[decide_true];go_wp2_with fail;refine(EH a b a w1 h1 h2).mono ?_;rintro e w2⟨rfl,b2⟩;have ff:w2.heap[w.heap.size+1+1]?=_:=(b2.block _ (ah HZ.out)).trans HZ.out;obtain⟨m0,m1,jo,jH,mq⟩:=aI ff;have B:Hid (ω w w2):=BW.trans (b2.mono BW.size);clear x0 x1 xf0 xf1 y0 y1 wE wH b2 ff;cases hr:fj ⟨a,b⟩ a with
   |none=>have EE:Hid (_=M):=δ.trans hr;have MQ:=hid (mq (I ψ 0) (I ψ 0));clear mq hr δ;simp only[iW];go_wp2_with fail;exact Ç (v:=φ #[J #[I ψ 0,I ψ 0],U false]) (by simp[results,results310,go_sem,MQ.1,MQ.2]) rfl ⟨iX EE.out,(B.setCell (p:=⟨w.heap.size+1+1,0,M⟩) (by show w.heap.size<=w.heap.size+1+1;omega) _).setCell (p:=⟨w.heap.size+1+1,1,M⟩) (by show w.heap.size<=w.heap.size+1+1;omega) _⟩
   |some v=>have EE:Hid (_=Y v):=δ.trans hr;have MQ:=hid (mq (I ψ v.a) (I ψ v.b));clear mq hr δ;simp only[iW];go_wp2_with fail;exact Ç (v:=φ #[J #[I ψ v.a,I ψ v.b],U true]) (by simp[results,results310,go_sem,MQ.1,MQ.2]) rfl ⟨iS EE.out,(B.setCell (p:=⟨w.heap.size+1+1,0,M⟩) (by show w.heap.size<=w.heap.size+1+1;omega) _).setCell (p:=⟨w.heap.size+1+1,1,M⟩) (by show w.heap.size<=w.heap.size+1+1;omega) _⟩
  .by_cases QD:b=c
   .subst QD
    have δ:Hid (fw ⟨a,b⟩ ⟨b,b⟩=fh ⟨a,b⟩ b):=by unfold Hid fw;simp[KC]
    have aaZ:(a==b)=false:=by simpa using KC
    clear mq;simp only[decide_true];go_wp2_with fail;refine(FO a b b w1 h1 h2).mono ?_;rintro e w2⟨rfl,b2⟩;have ff:w2.heap[w.heap.size+1+1]?=_:=(b2.block _ (ah HZ.out)).trans HZ.out;obtain⟨m0,m1,jo,jH,mq⟩:=aI ff;have B:Hid (ω w w2):=BW.trans (b2.mono BW.size);clear x0 x1 xf0 xf1 y0 y1 wE wH b2 ff;cases hr:fh ⟨a,b⟩ b with
    |none=>have EE:Hid (_=M):=δ.trans hr;have MQ:=hid (mq (I ψ 0) (I ψ 0));clear mq hr δ;simp only[iW];go_wp2_with fail;exact Ç (v:=φ #[J #[I ψ 0,I ψ 0],U false]) (by simp[results,results310,go_sem,MQ.1,MQ.2]) rfl ⟨iX EE.out,(B.setCell (p:=⟨w.heap.size+1+1,0,M⟩) (by show w.heap.size<=w.heap.size+1+1;omega) _).setCell (p:=⟨w.heap.size+1+1,1,M⟩) (by show w.heap.size<=w.heap.size+1+1;omega) _⟩
    |some v=>have EE:Hid (_=Y v):=δ.trans hr;have MQ:=hid (mq (I ψ v.a) (I ψ v.b));clear mq hr δ;simp only[iW];go_wp2_with fail;exact Ç (v:=φ #[J #[I ψ v.a,I ψ v.b],U true]) (by simp[results,results310,go_sem,MQ.1,MQ.2]) rfl ⟨iS EE.out,(B.setCell (p:=⟨w.heap.size+1+1,0,M⟩) (by show w.heap.size<=w.heap.size+1+1;omega) _).setCell (p:=⟨w.heap.size+1+1,1,M⟩) (by show w.heap.size<=w.heap.size+1+1;omega) _⟩
   .have δ:Hid (fw ⟨a,b⟩ ⟨c,c⟩=Y ⟨a,b⟩):=by unfold Hid fw;simp[KC,QD]
    have aaZ:(a==c)=false:=by simpa using KC
    have abx:(b==c)=false:=by simpa using QD
    have MQ:=hid (mq (I ψ a) (I ψ b));clear mq;simp only[decide_true];go_wp2_with fail;exact Ç (v:=φ #[J #[I ψ a,I ψ b],U true]) (by simp[results,results310,go_sem,MQ.1,MQ.2]) rfl ⟨iS δ.out,(BW.setCell (p:=⟨w.heap.size+1+1,0,M⟩) (by show w.heap.size<=w.heap.size+1+1;omega) _).setCell (p:=⟨w.heap.size+1+1,1,M⟩) (by show w.heap.size<=w.heap.size+1+1;omega) _⟩
 .have δ:Hid (fw ⟨a,b⟩ ⟨c,d⟩=Y ⟨a,b⟩):=by unfold Hid fw;simp[wK]
  have MQ:=hid (mq (I ψ a) (I ψ b));have Z6:decide (c=d)=false:=by simpa using wK
  clear mq;rw[Z6];go_wp2_with fail;exact Ç (v:=φ #[J #[I ψ a,I ψ b],U true]) (by simp[results,results310,go_sem,MQ.1,MQ.2]) rfl ⟨iS δ.out,(BW.setCell (p:=⟨w.heap.size+1+1,0,M⟩) (by show w.heap.size<=w.heap.size+1+1;omega) _).setCell (p:=⟨w.heap.size+1+1,1,M⟩) (by show w.heap.size<=w.heap.size+1+1;omega) _⟩
structure gI(w:Wd):Prop where
 mir:∀k,k<6->w.cell? ⟨3,k,M⟩=Y (I O (eh k:Nat))
 yZ:∀k,k<6->w.cell? ⟨4,k,M⟩=Y (I O (yZ k:Nat))
theorem gI.below(h:gI w){B:Nat}(hb:Below B w w')(hB:11<=B):gI w':=
 ⟨λk hk=>by rw[hb.cell (p:=⟨3,k,M⟩) (show 3<B by omega)];exact h.mir k hk,λk hk=>by rw[hb.cell (p:=⟨4,k,M⟩) (show 4<B by omega)];exact h.yZ k hk⟩
theorem nR(k:Nat)(hk:k<6)(w:Wd)(h:gI w) :
  Calls prog 195 #[I O (k:Nat)] w λe w'=>e=υ (I O (eh k:Nat))/\w'=w:=by
 have h:=h.mir k hk;generalize ((eh k:Nat):Int)=t at*;have wF:(k:Int)<6:=À;go_enter func195,ntmps195;go_wp2_with fail;go_ret;exact⟨rfl,rfl⟩
theorem kX(k:Nat)(hk:k<6)(w:Wd)(h:gI w) :
  Calls prog 196 #[I O (k:Nat)] w λe w'=>e=υ (I O (yZ k:Nat))/\w'=w:=by
 have h:=h.yZ k hk;generalize ((yZ k:Nat):Int)=t at*;have wF:(k:Int)<6:=À;go_enter func196,ntmps196;go_wp2_with fail;go_ret;exact⟨rfl,rfl⟩
theorem Jr(dv:Value)(a b c d:Int)(w:Wd) :
  Calls prog 299 #[J #[dv],I O 0,J #[I ψ a,I ψ b],J #[I ψ c,I ψ d]] w λe w'=>e=υ (U (dO 0 ⟨a,b⟩ ⟨c,d⟩))/\ω w w':=by
 go_enter func299,ntmps299;go_wp2_with fail;go_returns;exact⟨bt rfl,by go_grown⟩
theorem Jp(dv:Value)(a b c d:Int)(w:Wd) :
  Calls prog 299 #[J #[dv],I O 1,J #[I ψ a,I ψ b],J #[I ψ c,I ψ d]] w λe w'=>e=υ (U (dO 1 ⟨a,b⟩ ⟨c,d⟩))/\ω w w':=by
 go_enter func299,ntmps299;go_wp2_with fail;go_returns;exact⟨bt rfl,by go_grown⟩
theorem Rw(dv:Value)(a b c d:Int)(w:Wd) :
  Calls prog 299 #[J #[dv],I O 2,J #[I ψ a,I ψ b],J #[I ψ c,I ψ d]] w λe w'=>e=υ (U (dO 2 ⟨a,b⟩ ⟨c,d⟩))/\ω w w':=by
 have δ:Hid (dO 2 ⟨a,b⟩ ⟨c,d⟩=(dB ⟨a,b⟩ ⟨c,d⟩).isSome):=rfl;go_enter func299,ntmps299;go_wp2_with fail;refine(qK a b c d _).mono ?_;rintro e w1⟨rfl,b1⟩;obtain⟨_,_,_,bw⟩:=bQ b1;have BW:=hid bw;clear b1 bw;cases hr:dB ⟨a,b⟩ ⟨c,d⟩ with
 |none=>
  have EE:Hid (dO 2 ⟨a,b⟩ ⟨c,d⟩=false):=by unfold Hid;rw[δ.out,hr];rfl
  clear hr δ;simp only[iW];go_wp2_with fail;go_returns;exact⟨bt EE.symm,BW.alloc BW.size _⟩
 |some v=>
  have EE:Hid (dO 2 ⟨a,b⟩ ⟨c,d⟩=true):=by unfold Hid;rw[δ.out,hr];rfl
  clear hr δ;simp only[iW];go_wp2_with fail;go_returns;exact⟨bt EE.symm,BW.alloc BW.size _⟩
theorem Ro(dv:Value)(a b c d:Int)(w:Wd) :
  Calls prog 299 #[J #[dv],I O 3,J #[I ψ a,I ψ b],J #[I ψ c,I ψ d]] w λe w'=>e=υ (U (dO 3 ⟨a,b⟩ ⟨c,d⟩))/\ω w w':=by
 by_cases KC:a=c
 .subst KC
  by_cases I5:b=d
  .subst I5
   have δ:Hid (dO 3 ⟨a,b⟩ ⟨a,b⟩=!decide (a=b)):=by unfold Hid dO;simp
   go_enter func299,ntmps299;go_wp2_with fail;refine(DU a b _).mono ?_;rintro e w1⟨rfl,b1⟩;obtain⟨_,_,_,bw⟩:=bQ b1;have BW:=hid bw;clear b1 bw;go_wp2_with fail;go_returns;exact⟨bt δ.symm,BW.out⟩
  .have δ:Hid (dO 3 ⟨a,b⟩ ⟨a,d⟩=true):=by unfold Hid dO;simp[I5]
   go_enter func299,ntmps299;go_wp2_with fail;go_returns;exact⟨bt δ.symm,by go_grown⟩
 .have δ:Hid (dO 3 ⟨a,b⟩ ⟨c,d⟩=true):=by unfold Hid dO;simp[KC]
  go_enter func299,ntmps299;go_wp2_with fail;go_returns;exact⟨bt δ.symm,by go_grown⟩
theorem Rl(w:Wd)(h:gI w):Calls prog 195 #[I O 4] w λe w'=>e=υ (I O 1)/\w'=w:=nR 4 À w h
theorem S8(w:Wd)(h:gI w):Calls prog 195 #[I O 5] w λe w'=>e=υ (I O 0)/\w'=w:=nR 5 À w h
def ir(w:Wd)(o1 o2 o3:Obj)(w':Wd):Prop:=w'.heap[w.heap.size]?=Y o1/\w'.heap[w.heap.size+1]?=Y o2/\w'.heap[w.heap.size+1+1]?=Y o3/\ω w w'
theorem Io(w:Wd)(o1 o2 o3:Obj):ir w o1 o2 o3 (((w.alloc o1).alloc o2).alloc o3):=bQ Å
theorem mm(h:ir w o1 o2 o3 w'):ω w w':=h.2.2.2
theorem ir.call(h:ir w o1 o2 o3 w')(b:ω w' w1):ir w o1 o2 o3 w1:=
 ⟨(b.block _ (ah h.1)).trans h.1,(b.block _ (ah h.2.1)).trans h.2.1,(b.block _ (ah h.2.2.1)).trans h.2.2.1,h.2.2.2.trans (b.mono h.2.2.2.size)⟩
theorem Fw(h:ir w (L #[dv] 92) (L #[I ψ a,I ψ b] 90) (L #[I ψ c,I ψ d] 90) w'):w'.cell? ⟨w.heap.size,0,M⟩=Y dv/\w'.cell? ⟨w.heap.size+1,0,M⟩=Y (I ψ a)/\w'.cell? ⟨w.heap.size+1,1,M⟩=Y (I ψ b)/\w'.cell? ⟨w.heap.size+1+1,0,M⟩=Y (I ψ c)/\w'.cell? ⟨w.heap.size+1+1,1,M⟩=Y (I ψ d)/\ir w (L #[dv] 92) (L #[I ψ a,I ψ b] 90) (L #[I ψ c,I ψ d] 90) w':=
 ⟨cell_of h.1 0 rfl,cell_of h.2.1 0 rfl,cell_of h.2.1 1 rfl,cell_of h.2.2.1 0 rfl,cell_of h.2.2.1 1 rfl,h⟩
theorem A4(w:Wd)(dv:Value)(a b c d:Int):(λw':Wd=>w'.cell? ⟨w.heap.size,0,M⟩=Y dv/\w'.cell? ⟨w.heap.size+1,0,M⟩=Y (I ψ a)/\w'.cell? ⟨w.heap.size+1,1,M⟩=Y (I ψ b)/\w'.cell? ⟨w.heap.size+1+1,0,M⟩=Y (I ψ c)/\w'.cell? ⟨w.heap.size+1+1,1,M⟩=Y (I ψ d)/\ir w (L #[dv] 92) (L #[I ψ a,I ψ b] 90) (L #[I ψ c,I ψ d] 90) w') (((w.alloc (L #[dv] 92)).alloc (L #[I ψ a,I ψ b] 90)).alloc (L #[I ψ c,I ψ d] 90)).drew:=
 Fw (w':=(((w.alloc (L #[dv] 92)).alloc (L #[I ψ a,I ψ b] 90)).alloc (L #[I ψ c,I ψ d] 90)).drew) ((Io w _ _ _).call (Å).drew)
theorem EF(h:ir w (L #[dv] 92) (L #[I ψ a,I ψ b] 90) (L #[I ψ c,I ψ d] 90) w')(k:ω w' w1):(λw':Wd=>w'.cell? ⟨w.heap.size,0,M⟩=Y dv/\w'.cell? ⟨w.heap.size+1,0,M⟩=Y (I ψ a)/\w'.cell? ⟨w.heap.size+1,1,M⟩=Y (I ψ b)/\w'.cell? ⟨w.heap.size+1+1,0,M⟩=Y (I ψ c)/\w'.cell? ⟨w.heap.size+1+1,1,M⟩=Y (I ψ d)/\ir w (L #[dv] 92) (L #[I ψ a,I ψ b] 90) (L #[I ψ c,I ψ d] 90) w') w1:=Fw (h.call k)
theorem S9(dv:Value)(a b c d:Int)(w:Wd)(hT:gI w)(hs:11<=w.heap.size) :
  Calls prog 299 #[J #[dv],I O 4,J #[I ψ a,I ψ b],J #[I ψ c,I ψ d]] w λe w'=>e=υ (U (dO 4 ⟨a,b⟩ ⟨c,d⟩))/\ω w w':=by
 have HT:Hid (∀w',ω w w'->gI w'):=λw' h=>hT.below h hs
 have h0:=A4 w dv a b c d;go_enter func299,ntmps299;go_wp2_with fail
 go_region_held3 (λw':Wd=>w'.cell? ⟨w.heap.size,0,M⟩=Y dv/\w'.cell? ⟨w.heap.size+1,0,M⟩=Y (I ψ a)/\w'.cell? ⟨w.heap.size+1,1,M⟩=Y (I ψ b)/\w'.cell? ⟨w.heap.size+1+1,0,M⟩=Y (I ψ c)/\w'.cell? ⟨w.heap.size+1+1,1,M⟩=Y (I ψ d)/\ir w (L #[dv] 92) (L #[I ψ a,I ψ b] 90) (L #[I ψ c,I ψ d] 90) w') (first|exact h0|assumption|exact EF h0.2.2.2.2.2 (by assumption))
  (first
    |(go_at_call 195;refine(Rl _ (HT.out _ (mm h0.2.2.2.2.2))).mono ?_;rintro e w1 ⟨rfl,rfl⟩)
    |(go_at_call 299;refine(Jp dv c d a b _).mono ?_;rintro e w1 ⟨rfl,b1⟩))
 all_goals
  have HX:Hid (ω w w1):=mm (h0.2.2.2.2.2.call b1);go_wp2_with fail;go_returns;exact⟨bt rfl,HX.out⟩
theorem Sx(dv:Value)(a b c d:Int)(w:Wd)(hT:gI w)(hs:11<=w.heap.size) :
  Calls prog 299 #[J #[dv],I O 5,J #[I ψ a,I ψ b],J #[I ψ c,I ψ d]] w λe w'=>e=υ (U (dO 5 ⟨a,b⟩ ⟨c,d⟩))/\ω w w':=by
 have HT:Hid (∀w',ω w w'->gI w'):=λw' h=>hT.below h hs
 have h0:=A4 w dv a b c d;go_enter func299,ntmps299;go_wp2_with fail
 go_region_held3 (λw':Wd=>w'.cell? ⟨w.heap.size,0,M⟩=Y dv/\w'.cell? ⟨w.heap.size+1,0,M⟩=Y (I ψ a)/\w'.cell? ⟨w.heap.size+1,1,M⟩=Y (I ψ b)/\w'.cell? ⟨w.heap.size+1+1,0,M⟩=Y (I ψ c)/\w'.cell? ⟨w.heap.size+1+1,1,M⟩=Y (I ψ d)/\ir w (L #[dv] 92) (L #[I ψ a,I ψ b] 90) (L #[I ψ c,I ψ d] 90) w') (first|exact h0|assumption|exact EF h0.2.2.2.2.2 (by assumption))
  (first
    |(go_at_call 195;refine(S8 _ (HT.out _ (mm h0.2.2.2.2.2))).mono ?_;rintro e w1 ⟨rfl,rfl⟩)
    |(go_at_call 299;refine(Jr dv c d a b _).mono ?_;rintro e w1 ⟨rfl,b1⟩))
 all_goals
  have HX:Hid (ω w w1):=mm (h0.2.2.2.2.2.call b1);go_wp2_with fail;go_returns;exact⟨bt rfl,HX.out⟩
theorem Wo(dv:Value)(r:Nat)(hr:r<6)(a b c d:Int)(w:Wd)(hT:gI w)(hs:11<=w.heap.size) :
  Calls prog 299 #[J #[dv],I O (r:Nat),J #[I ψ a,I ψ b],J #[I ψ c,I ψ d]] w λe w'=>e=υ (U (dO r ⟨a,b⟩ ⟨c,d⟩))/\ω w w':=by
 rcases(show r=0∨r=1∨r=2∨r=3∨r=4∨r=5 from À) with rfl|rfl|rfl|rfl|rfl|rfl
 .exact Jr dv a b c d w
 .exact Jp dv a b c d w
 .exact Rw dv a b c d w
 .exact Ro dv a b c d w
 .exact S9 dv a b c d w hT hs
 .exact Sx dv a b c d w hT hs
end
namespace Sp
section
variable{l:List Int}
variable{x y v:Iv}
variable{q a b u n:Int}
def lj(x:Iv):Prop:=-32768<=x.a/\x.a<=x.b/\x.b<=32767
theorem sA:∀(l:List Int) (x:Int),l.foldl min x<=x/\∀y∈l,l.foldl min x<=y
 |[],x=>⟨Ò,λ_ h=>by cases h⟩
 |z::l,x=>by
  obtain⟨h1,h2⟩:=sA l (min x z);refine⟨by show l.foldl min (min x z)<=x;omega,λy hy=>?_⟩;show l.foldl min (min x z)<=y
  rcases List.mem_cons.1 hy with rfl|hy
  .omega
  .exact h2 y hy
theorem rX:∀(l:List Int) (x:Int),x<=l.foldl max x/\∀y∈l,y<=l.foldl max x
 |[],x=>⟨Ò,λ_ h=>by cases h⟩
 |z::l,x=>by
  obtain⟨h1,h2⟩:=rX l (max x z);refine⟨by show x<=l.foldl max (max x z);omega,λy hy=>?_⟩;show y<=l.foldl max (max x z)
  rcases List.mem_cons.1 hy with rfl|hy
  .omega
  .exact h2 y hy
theorem Kf{x:Int}(h:x∈l):pq l<=x:=by
 cases l with
 |nil=>cases h
 |cons z l=>
  rcases List.mem_cons.1 h with rfl|h
  .exact(sA l _).1
  .exact(sA l z).2 x h
theorem JM{x:Int}(h:x∈l):x<=pj l:=by
 cases l with
 |nil=>cases h
 |cons z l=>
  rcases List.mem_cons.1 h with rfl|h
  .exact(rX l _).1
  .exact(rX l z).2 x h
theorem OV(h:q∈l):x.a.tdiv q∈(l.flatMap λq=>[x.a.tdiv q,x.b.tdiv q])/\x.b.tdiv q∈(l.flatMap λq=>[x.a.tdiv q,x.b.tdiv q]):=by
 constructor
 .exact List.mem_flatMap.2 ⟨q,h,Ä⟩
 .exact List.mem_flatMap.2 ⟨q,h,Ä⟩
theorem si(h1:x.a=y.a)(h2:x.b=y.b):x=y:=by
 cases x;cases y;simp at h1 h2;rw[h1,h2]
theorem qg(h:a<=b):lj (dE a b):=by
 unfold dE;split
 .exact⟨É,É,É⟩
 .exact⟨by show -32768<=a;omega,h,by show b<=32767;omega⟩
theorem EI(h:u∈l):lj (cZ l):=qg (Int.le_trans (Kf h) (JM h))
theorem SI(k:Nat)(x y v:Iv)(hx:lj x)(hy:lj y)(h:nP k x y=Y v):lj v:=by
 obtain⟨h1,h2,h3⟩:=hx;obtain⟨h4,h5,h6⟩:=hy;unfold nP at h;split at h
 .cases h;exact qg À
 .split at h
  .cases h;exact qg À
  .split at h
   .cases h;exact EI (u:=x.a*y.a) Ä
   .split at h
    .unfold ig at h
     split at h
     .cases h
     .next db=>
      cases h
      obtain⟨q,hq⟩:=List.exists_mem_of_ne_nil _ db;exact EI (OV (x:=x) hq).1
    .unfold lO at h
     split at h
     .cases h
     .cases h
      exact qg À
theorem tI(hx:lj x)(h:dB x y=Y v):lj v:=by
 obtain⟨h1,h2,h3⟩:=hx;unfold dB at h;split at h
 .cases h
  exact⟨by show -32768<=max x.a y.a;omega,by assumption,by show min x.b y.b<=32767;omega⟩
 .cases h
theorem EK(hx:lj x)(h:fh x n=Y v):lj v:=by
 unfold fh at h;split at h
 .cases h
 .exact tI hx h
theorem DV(hx:lj x)(h:fj x n=Y v):lj v:=by
 unfold fj at h;split at h
 .cases h
 .exact tI hx h
theorem N6(r:Nat)(x y v:Iv)(hx:lj x)(_:lj y)(h:nY r x y=Y v):lj v:=by
 unfold nY at h;split at h
 .exact EK hx h
 .split at h
  .exact tI hx h
  .split at h
   .exact tI hx h
   .split at h
    .unfold fw at h
     split at h
     .cases h;exact hx
     .split at h
      .exact DV hx h
      .split at h
       .exact EK hx h
       .cases h;exact hx
    .split at h
     .exact tI hx h
     .exact DV hx h
theorem tL(n:Int):∀(l:List Int) (st:Int),st<=n->-32768<=st->-32768<=l.foldl (λst s=>if s<=n then max st s else st) st/\l.foldl (λst s=>if s<=n then max st s else st) st<=n
 |[],st,h1,h2=>⟨h2,h1⟩
 |s::l,st,h1,h2=>by show -32768<=l.foldl _ (if s<=n then max st s else st)/\l.foldl _ (if s<=n then max st s else st)<=n;exact tL n l _ (by split<;>omega) (by split<;>omega)
theorem sX(n:Int):∀(l:List Int) (st:Int),n<=st->st<=32767->n<=l.foldl (λst s=>if n<=s then min st s else st) st/\l.foldl (λst s=>if n<=s then min st s else st) st<=32767
 |[],st,h1,h2=>⟨h1,h2⟩
 |s::l,st,h1,h2=>by show n<=l.foldl _ (if n<=s then min st s else st)/\l.foldl _ (if n<=s then min st s else st)<=32767;exact sX n l _ (by split<;>omega) (by split<;>omega)
theorem FD(steps:List Int)(x y:Iv)(hx:lj x)(hy:lj y):-32768<=(bY steps x y).a/\(bY steps x y).a<=y.a/\y.b<=(bY steps x y).b/\(bY steps x y).b<=32767:=by
 obtain⟨h1,h2,h3⟩:=hx;obtain⟨h4,h5,h6⟩:=hy;have e1:=tL y.a steps (-32768) h4 Ò;have e2:=sX y.b steps 32767 h6 Ò;unfold bY cM cm;simp only;refine⟨?_,?_,?_,?_⟩
 .split<;>omega
 .split<;>omega
 .split<;>omega
 .split<;>omega
def pd(steps:List Int):Rk (YJ steps) where
 wf:=lj
 rk x:=(x.b-x.a+65535).toNat
 top:=131070
 le x h:=by obtain⟨h1,h2,h3⟩:=h;show(x.b-x.a+65535).toNat<=131070;omega
 wnum n h:=⟨h.1,Ò,h.2⟩
 wwhole:=(⟨É,É,É⟩:lj xA)
 wneg x h:=qg (by have:=h.2.1;omega)
 wwork:=SI
 wjoin x y h k:=⟨by show -32768<=min x.a y.a;have:=h.1;have:=k.1;omega,by show min x.a y.a<=max x.b y.b;have:=h.2.1;omega,by show max x.b y.b<=32767;have:=h.2.2;have:=k.2.2;omega⟩
 wbound:=N6
 wwiden x y h k:=by obtain⟨h1,h2,h3,h4⟩:=FD steps x y h k;exact⟨h1,by have:=k.2.1;show(bY steps x y).a<=(bY steps x y).b;omega,h4⟩
 sub x y:=y.a<=x.a/\x.b<=y.b
 sub_refl x:=⟨Ò,Ò⟩
 sub_trans x y z h k:=⟨Int.le_trans k.1 h.1,Int.le_trans h.2 k.2⟩
 sub_joinl x y:=⟨by show min x.a y.a<=x.a;omega,by show x.b<=max x.b y.b;omega⟩
 sub_joinr x y:=⟨by show min x.a y.a<=y.a;omega,by show y.b<=max x.b y.b;omega⟩
 sub_narrow x y z h k:=by
  have h1:x.a<=z.a:=h.1;have h2:z.b<=x.b:=h.2;have k1:y.a<=z.a:=k.1;have k2:z.b<=y.b:=k.2;constructor
  .show(if x.a=-32768 then y.a else x.a)<=z.a
   split<;>omega
  .show z.b<=(if x.b=32767 then y.b else x.b)
   split<;>omega
 wnarrow x y z hx hy hz h k:=by
  have h1:x.a<=z.a:=h.1;have h2:z.b<=x.b:=h.2;have k1:y.a<=z.a:=k.1;have k2:z.b<=y.b:=k.2;obtain⟨a1,a2,a3⟩:=hx;obtain⟨b1,b2,b3⟩:=hy;obtain⟨c1,c2,c3⟩:=hz;refine⟨?_,?_,?_⟩
  .show -32768<=(if x.a=-32768 then y.a else x.a)
   split<;>omega
  .show(if x.a=-32768 then y.a else x.a)<=(if x.b=32767 then y.b else x.b)
   split<;>split<;>omega
  .show(if x.b=32767 then y.b else x.b)<=32767
   split<;>omega
 join_lt x y h k db:=by
  obtain⟨h1,h2,h3⟩:=h;obtain⟨k1,k2,k3⟩:=k;show(x.b-x.a+65535).toNat<(max x.b y.b-min x.a y.a+65535).toNat;have:¬(min x.a y.a=x.a/\max x.b y.b=x.b):=λe=>db (si e.1 e.2)
  omega
 widen_le x y h k:=by have hj:lj ⟨min x.a y.a,max x.b y.b⟩:=⟨by show -32768<=min x.a y.a;have:=h.1;have:=k.1;omega,by show min x.a y.a<=max x.b y.b;have:=h.2.1;omega,by show max x.b y.b<=32767;have:=h.2.2;have:=k.2.2;omega⟩;obtain⟨h1,h2,h3,h4⟩:=FD steps x ⟨min x.a y.a,max x.b y.b⟩ h hj;show(max x.b y.b-min x.a y.a+65535).toNat<=((bY steps x ⟨min x.a y.a,max x.b y.b⟩).b-(bY steps x ⟨min x.a y.a,max x.b y.b⟩).a+65535).toNat;have h2:(bY steps x ⟨min x.a y.a,max x.b y.b⟩).a<=min x.a y.a:=h2;have h3:max x.b y.b<=(bY steps x ⟨min x.a y.a,max x.b y.b⟩).b:=h3;omega
 fuel:=by show 8*131070<1100000;decide
end
end Sp
section
variable{w w2 w0:Wd}
variable{zs:List Int}
theorem BX:(prog.info? 3).map (λi=>(i.zero,i.size,i.bytes))=Y (Y (I O 0),1,8):=Ã
def ints(zs:List Int):List Value:=zs.map λz=>I O z
def oD(base:Nat)(w:Wd)(v:Value)(zs:List Int):Prop:=w.ownsRow base 3 1 v zs.length (ints zs)
theorem oD.form{base:Nat}{v:Value}(h:oD base w v zs):∃a c,v=Z a zs.length c:=by
 rcases h.2 with⟨rfl,hz⟩|⟨g,cap,cur,rfl,_⟩
 .exact⟨M,0,by rw[hz]⟩
 .exact⟨_,_,rfl⟩
theorem jG{base:Nat}{v v':Value}{x y:Int}{o:Obj}(hb:base<=w.heap.size)(h:oD base w v zs)(kO:w2.ownsRow base 3 1 v' (zs.length+2) (ints zs++[I O x,I O y]))(hg:(w.alloc o).grownBy w2 v.ownBlock)(b0:Below base w0 w):oD base w2 v' (zs++[x,y])/\Below base w0 w2:=by refine⟨?_,b0.grown (qb hg) hb (λk hk=>(bk h k hk).1)⟩;unfold oD ints at*;rw[List.length_append,List.map_append];exact kO
theorem Iy(a b:Int)(w:Wd)(h1:-32768<=a)(h2:a<=b)(h3:b<=32767) :
  Calls prog 319 #[J #[I ψ a,I ψ b]] w λe w'=>∃v,e=υ v/\oD w.heap.size w' v (dz ⟨a,b⟩)/\ω w w':=by
 obtain⟨i64,xw,xh,xu,wZ⟩:=info_parts BX;go_enter func319,ntmps319;go_wp2_with fail;refine(oK a b _ h1 À À h3).mono ?_;rintro e w1⟨rfl,b1⟩;have BW:Hid (ω w w1):=(fN b1).1;have R0:Hid (oD w.heap.size w1 (Z M 0 0) []):=World.ownsRow_nil _ _ _ _;have Ky:=BW.size;clear b1;by_cases ha:a<0
 .by_cases hb:0<b
  .have δ:Hid (dz ⟨a,b⟩=([]++[a,min b (-1)])++[max a 1,b]):=by unfold Hid dz;simp[ha,hb]
   go_wp2_with (first
    |(at_builtin;refine wpList_append_own_at _ rfl _ _ 25 rfl w.heap.size 3 i64 (I O 0) 1 8 underlying25 xw xh xu wZ rfl É _ _ _ rfl (R0.alloc _) ⟨w1.heap.size,0,M⟩ 2 2 [I O a,I O (min b (-1))] rfl rfl (World.news_of_block (cs:=#[I O a,I O (min b (-1))]) (t:=3) (fr:=(0,0)) (heap_alloc_new _ _)) ?q1 ?q2 ?q3 ?q4 ?_))
   case q1=>intro u hu;simp at hu;rcases hu with rfl|rfl<;>rfl
   case q2=>unfold maxLen;simp
   case q3=>simp
   case q4=>simp;omega
   intro v2 w2 gO eo _ _;obtain⟨r2,b2⟩:=jG Ky R0.out gO eo BW.out;obtain⟨a2,c2,rfl⟩:=r2.form;have R2:=hid r2;have B2:=hid b2;have aba:=b2.size;clear gO eo r2 b2;go_wp2_with (first
    |(at_builtin;refine wpList_append_own_at _ rfl _ _ 25 rfl w.heap.size 3 i64 (I O 0) 1 8 underlying25 xw xh xu wZ rfl É _ _ _ rfl (R2.alloc _) ⟨w2.heap.size,0,M⟩ 2 2 [I O (max a 1),I O b] rfl rfl (World.news_of_block (cs:=#[I O (max a 1),I O b]) (t:=3) (fr:=(0,0)) (heap_alloc_new _ _)) ?q1 ?q2 ?q3 ?q4 ?_))
   case q1=>intro u hu;simp at hu;rcases hu with rfl|rfl<;>rfl
   case q2=>unfold maxLen;simp
   case q3=>simp
   case q4=>simp;omega
   intro v3 w3 jf eZ _ _;obtain⟨r3,b3⟩:=jG aba R2.out jf eZ B2.out;obtain⟨a3,c3,rfl⟩:=r3.form;have R3:=hid r3;have B3:=hid b3;clear jf eZ r3 b3;go_wp2_with fail;go_returns;exact⟨_,rfl,by rw[δ.out];exact R3.out,B3.out⟩
  .have δ:Hid (dz ⟨a,b⟩=[]++[a,min b (-1)]):=by unfold Hid dz;simp[ha,hb]
   go_wp2_with (first
    |(at_builtin;refine wpList_append_own_at _ rfl _ _ 25 rfl w.heap.size 3 i64 (I O 0) 1 8 underlying25 xw xh xu wZ rfl É _ _ _ rfl (R0.alloc _) ⟨w1.heap.size,0,M⟩ 2 2 [I O a,I O (min b (-1))] rfl rfl (World.news_of_block (cs:=#[I O a,I O (min b (-1))]) (t:=3) (fr:=(0,0)) (heap_alloc_new _ _)) ?q1 ?q2 ?q3 ?q4 ?_))
   case q1=>intro u hu;simp at hu;rcases hu with rfl|rfl<;>rfl
   case q2=>unfold maxLen;simp
   case q3=>simp
   case q4=>simp;omega
   intro v2 w2 gO eo _ _;obtain⟨r2,b2⟩:=jG Ky R0.out gO eo BW.out;obtain⟨a2,c2,rfl⟩:=r2.form;have R2:=hid r2;have B2:=hid b2;clear gO eo r2 b2;go_wp2_with fail;go_returns;exact⟨_,rfl,by rw[δ.out];exact R2.out,B2.out⟩
 .by_cases hb:0<b
  .have δ:Hid (dz ⟨a,b⟩=[]++[max a 1,b]):=by unfold Hid dz;simp[ha,hb]
   go_wp2_with (first
    |(at_builtin;refine wpList_append_own_at _ rfl _ _ 25 rfl w.heap.size 3 i64 (I O 0) 1 8 underlying25 xw xh xu wZ rfl É _ _ _ rfl (R0.alloc _) ⟨w1.heap.size,0,M⟩ 2 2 [I O (max a 1),I O b] rfl rfl (World.news_of_block (cs:=#[I O (max a 1),I O b]) (t:=3) (fr:=(0,0)) (heap_alloc_new _ _)) ?q1 ?q2 ?q3 ?q4 ?_))
   case q1=>intro u hu;simp at hu;rcases hu with rfl|rfl<;>rfl
   case q2=>unfold maxLen;simp
   case q3=>simp
   case q4=>simp;omega
   intro v2 w2 gO eo _ _;obtain⟨r2,b2⟩:=jG Ky R0.out gO eo BW.out;obtain⟨a2,c2,rfl⟩:=r2.form;have R2:=hid r2;have B2:=hid b2;clear gO eo r2 b2;go_wp2_with fail;go_returns;exact⟨_,rfl,by rw[δ.out];exact R2.out,B2.out⟩
  .have δ:Hid (dz ⟨a,b⟩=[]):=by unfold Hid dz;simp[ha,hb]
   go_wp2_with fail;go_returns;exact⟨_,rfl,by rw[δ.out];exact R0.out,BW.out⟩
theorem N9(zs:List Int):Lib.minOf (zs.take zs.length)=pq zs:=by
 rw[List.take_length];cases zs with
 |nil=>rfl
 |cons x xs=>show(x::xs).foldl min x=xs.foldl min x;rw[List.foldl_cons]<;>congr 1<;>omega
theorem NK(zs:List Int):Lib.maxOf (zs.take zs.length)=pj zs:=by
 rw[List.take_length];cases zs with
 |nil=>rfl
 |cons x xs=>show(x::xs).foldl max x=xs.foldl max x;rw[List.foldl_cons]<;>congr 1<;>omega
theorem Js(g off cap:Nat)(zs:List Int)(w:Wd)(hg:g<w.heap.size)(hn:0<zs.length)(hbig:zs.length<=1000000)(hc:∀j,j<zs.length->w.cell? ⟨g,off+j,M⟩=Y (I O (zs.getD j 0))) :
  Calls prog 313 #[Z (Y ⟨g,off,M⟩) zs.length cap] w λe w'=>e=υ (J #[I ψ (cZ zs).a,I ψ (cZ zs).b])/\ω w w':=by
 have BN:pq zs<=pj zs:=by
  obtain⟨x,hx⟩:∃x,x∈zs:=by
   cases zs with
   |nil=>simp at hn
   |cons x xs=>exact⟨x,Ä⟩
  exact Int.le_trans (Kf hx) (JM hx)
 have MK:=slices_Min_int g off zs.length cap zs (w.alloc (L #[I ψ 0,I ψ 0] 90)) hn È À (λj hj=>by rw[(below_alloc1 w _).cell (p:=⟨g,off+j,M⟩) hg];exact hc j hj);have hmax:=slices_Max_int g off zs.length cap zs (w.alloc (L #[I ψ 0,I ψ 0] 90)) hn È À (λj hj=>by rw[(below_alloc1 w _).cell (p:=⟨g,off+j,M⟩) hg];exact hc j hj);rw[N9]at MK;rw[NK]at hmax;unfold cZ;generalize pq zs=p at*;generalize pj zs=q at*;have MK:Calls prog 317 #[Z (Y ⟨g,off,M⟩) zs.length cap] (w.alloc (L #[I ψ 0,I ψ 0] 90)) λe w'=>e=υ (I O p)/\w'=w.alloc (L #[I ψ 0,I ψ 0] 90):=MK
 have hmax:Calls prog 318 #[Z (Y ⟨g,off,M⟩) zs.length cap] (w.alloc (L #[I ψ 0,I ψ 0] 90)) λe w'=>e=υ (I O q)/\w'=w.alloc (L #[I ψ 0,I ψ 0] 90):=hmax
 generalize zs.length=m at*;clear hc hn hbig hg;by_cases h1:p < -32768
 .have δ:Hid (dE p q=⟨-32768,32767⟩):=by unfold Hid dE;rw[Á (.inl h1)];rfl
  go_enter func313,ntmps313;go_wp2_with fail;refine MK.mono ?_;rintro e w1⟨rfl,rfl⟩;go_wp2_with fail;refine hmax.mono ?_;rintro e w1⟨rfl,rfl⟩;go_wp2_with fail;go_returns;exact⟨by rw[δ.out],by go_grown⟩
 .by_cases h2:32767<q
  .have δ:Hid (dE p q=⟨-32768,32767⟩):=by unfold Hid dE;rw[Á (.inr h2)];rfl
   have o8:decide (p < -32768)=false:=by simpa using h1
   go_enter func313,ntmps313;go_wp2_with fail;refine MK.mono ?_;rintro e w1⟨rfl,rfl⟩;go_wp2_with fail;refine hmax.mono ?_;rintro e w1⟨rfl,rfl⟩;go_wp2_with fail;go_returns;exact⟨by rw[δ.out],by go_grown⟩
  .have δ:Hid (dE p q=⟨p,q⟩):=by unfold Hid dE;rw[Â À]
   have o8:decide (p < -32768)=false:=by simpa using h1
   have Gq:decide (32767<q)=false:=by simpa using h2
   go_enter func313,ntmps313;go_wp2_with fail;refine MK.mono ?_;rintro e w1⟨rfl,rfl⟩;go_wp2_with fail;refine hmax.mono ?_;rintro e w1⟨rfl,rfl⟩;go_wp2_with fail;go_returns;exact⟨by rw[δ.out],by go_grown⟩
end
end Go.Proofs.YtiopfihjmkfdmabGreatDoor
