import Derived.Test.YtiopfihjmkfdmaaGreatDoorB6
import Derived.Test.YtiopfihjmkfdmaaGreatDoorB8
import Derived.Handy
namespace Go.Proofs.YtiopfihjmkfdmaaGreatDoor
open Go.Proofs.Tryz Sp
open Go.RowKit
set_option maxRecDepth 100000
set_option maxHeartbeats 16000000
section
variable{a b c d:Int}
variable{r:Option Sp.Iv}
variable{w w1 w':Wd}
variable{x y dv:Value}
variable{o1 o2 o o3:Obj}
def dN:Option Sp.Iv->Value
 | some x=>.tuple #[.agg #[.int .i16 x.a,.int .i16 x.b],.bool true]
 | none=>.tuple #[.agg #[.int .i16 0,.int .i16 0],.bool false]
theorem Qr{a' b':Int}(h1:a=a')(h2:b=b'):Ending.returned (.agg #[.int .i16 a,.int .i16 b])=.returned (.agg #[.int .i16 a',.int .i16 b']):=by rw[h1,h2]
theorem cI(h:r=some ⟨a,b⟩):Ending.returned (.tuple #[.agg #[.int .i16 a,.int .i16 b],.bool true])=.returned (dN r):=by rw[h];rfl
theorem dn(h:r=none):Ending.returned (.tuple #[.agg #[.int .i16 0,.int .i16 0],.bool false])=.returned (dN r):=by rw[h];rfl
theorem Iq(d:Value)(n:Int)(w:Wd) :
  Calls prog 324 #[.agg #[d],.int .i16 n] w fun e w'=>e=.returned (.agg #[.int .i16 n,.int .i16 n])/\Below w.heap.size w w':=by
 go_enter func324,ntmps324;go_wp2_with fail;go_returns;exact⟨rfl,by go_grown⟩
theorem Mp(d:Value)(w:Wd) :
  Calls prog 326 #[.agg #[d]] w fun e w'=>e=.returned (.agg #[.int .i16 (-32768),.int .i16 32767])/\Below w.heap.size w w':=by
 go_enter func326,ntmps326;go_wp2_with fail;go_returns;exact⟨rfl,by go_grown⟩
theorem Ix(d:Value)(a b:Int)(w:Wd) :
  Calls prog 319 #[.agg #[d],.agg #[.int .i16 a,.int .i16 b]] w fun e w'=>e=.returned (.bool (decide (a<=0) && decide (0<=b)))/\Below w.heap.size w w':=by
 by_cases h:a<=0
 ·go_enter func319,ntmps319
  go_wp2_with fail;go_returns;exact⟨bA (by simp[h]),by go_grown⟩
 ·have h0:decide (a<=0)=false:=by simpa using h
  go_enter func319,ntmps319;go_wp2_with fail;go_returns;exact⟨rfl,by go_grown⟩
theorem PX(d:Value)(a b a' b':Int)(w:Wd) :
  Calls prog 320 #[.agg #[d],.agg #[.int .i16 a,.int .i16 b],.agg #[.int .i16 a',.int .i16 b']] w fun e w'=>e=.returned (.agg #[.int .i16 (min a a'),.int .i16 (max b b')])/\Below w.heap.size w w':=by
 go_enter func320,ntmps320;go_wp2_with fail
 all_goals
  go_returns;exact⟨Qr (by omega) (by omega),by go_grown⟩
theorem Ib(d:Value)(a b a' b':Int)(w:Wd) :
  Calls prog 322 #[.agg #[d],.agg #[.int .i16 a,.int .i16 b],.agg #[.int .i16 a',.int .i16 b']] w fun e w'=>e=.returned (.agg #[.int .i16 (if a=-32768 then a' else a),.int .i16 (if b=32767 then b' else b)])/\Below w.heap.size w w':=by
 by_cases ha:a=-32768
 all_goals
  by_cases hb:b=32767
  all_goals
   go_enter func322,ntmps322;go_wp2_with fail;go_returns;exact⟨Qr (by omega) (by omega),by go_grown⟩
theorem Pb(d:Value)(a b:Int)(w:Wd)(h1:-32768<=a)(h2:a<=32767)(h3:-32768<=b)(h4:b<=32767) :
  Calls prog 325 #[.agg #[d],.agg #[.int .i16 a,.int .i16 b]] w fun e w'=>e=.returned (.agg #[.int .i64 a,.int .i64 b])/\Below w.heap.size w w':=by
 go_enter func325,ntmps325;go_wp2_with fail;go_returns;exact⟨rfl,by go_grown⟩
theorem Lb(a b:Int)(w:Wd) :
  Calls prog 334 #[.agg #[.int .i16 a,.int .i16 b]] w fun e w'=>e=.returned (.tuple #[.int .i64 (IntKind.i64.wrap a),.int .i64 (IntKind.i64.wrap b)])/\Below w.heap.size w w':=by
 go_enter func334,ntmps334;go_wp2_with fail
 go_region_with (fail)
 all_goals
  go_wp2_with fail;go_returns;exact⟨rfl,by go_grown⟩
theorem sX(h1:-32768<=a)(h2:a<=32767):IntKind.i64.wrap a=a:=by rw[IntWalk.i64_in]<;>omega
theorem ff(a b:Int)(w:Wd)(h1:-32768<=a)(h2:a<=32767)(h3:-32768<=b)(h4:b<=32767) :
  Calls prog 334 #[.agg #[.int .i16 a,.int .i16 b]] w fun e w'=>e=.returned (.tuple #[.int .i64 a,.int .i64 b])/\Below w.heap.size w w':=by
 have h:=Lb a b w
 rwa [sX h1 h2,sX h3 h4]at h
theorem Cf(a b:Int)(w:Wd) :
  Calls prog 317 #[.agg #[.int .i16 a,.int .i16 b]] w fun e w'=>e=.returned (.bool (decide (a=b)))/\Below w.heap.size w w':=by
 go_enter func317,ntmps317;go_wp2_with fail;go_returns;exact⟨bA (by rw[Bool.eq_iff_iff];simp),by go_grown⟩
theorem Jg{p q:Int}(h:p<=q)(h1:p=max a c)(h2:q=min b d):cV ⟨a,b⟩ ⟨c,d⟩=some ⟨p,q⟩:=by subst h1;subst h2;unfold cV;rw[if_pos h]
theorem J1(h:min b d<max a c):cV ⟨a,b⟩ ⟨c,d⟩=none:=by unfold cV;rw[if_neg (by simp only;omega)]
theorem o6(a b c d:Int)(w:Wd) :
  Calls prog 331 #[.agg #[.int .i16 a,.int .i16 b],.agg #[.int .i16 c,.int .i16 d]] w fun e w'=>e=.returned (dN (cV ⟨a,b⟩ ⟨c,d⟩))/\Below w.heap.size w w':=by
 go_enter func331,ntmps331;go_wp2_with fail
 all_goals go_returns
 all_goals first
  | exact⟨dn (J1 (by omega)),by go_grown⟩
  | exact⟨cI (Jg (by omega) (by omega) (by omega)),by go_grown⟩
theorem aH{B:Nat}{t:TypeId}(h:w.heap[B]?=some (.cells #[x,y] t)):w.cell? ⟨B,0,none⟩=some x/\w.cell? ⟨B,1,none⟩=some y/\w.frozen? ⟨B,0,none⟩=false/\w.frozen? ⟨B,1,none⟩=false /\
  ∀u v,((w.setCell ⟨B,0,none⟩ u).setCell ⟨B,1,none⟩ v).cell? ⟨B,0,none⟩=some u/\((w.setCell ⟨B,0,none⟩ u).setCell ⟨B,1,none⟩ v).cell? ⟨B,1,none⟩=some v:=by
 refine⟨cell_of h 0 rfl,cell_of h 1 rfl,aw h 0,aw h 1,fun u v=>?_⟩;have h2:=ai (ai h 0 u) 1 v;exact⟨cell_of h2 0 rfl,cell_of h2 1 rfl⟩
theorem CB(a b n:Int)(w:Wd)(h1:-32768<=n)(h2:n<=32767) :
  Calls prog 330 #[.agg #[.int .i16 a,.int .i16 b],.int .i16 n] w fun e w'=>e=.returned (dN (dY ⟨a,b⟩ n))/\Below w.heap.size w w':=by
 by_cases hn:n=-32768
 ·have e:Hid (dY ⟨a,b⟩ n=none):=by unfold Hid dY;rw[if_pos hn]
  go_enter func330,ntmps330;go_wp2_with fail;go_returns;exact⟨dn e.out,by go_grown⟩
 ·have e:Hid (dY ⟨a,b⟩ n=cV ⟨a,b⟩ ⟨-32768,n - 1⟩):=by unfold Hid dY;rw[if_neg hn]
  have e1:IntKind.i16.wrap (n - 1)=n - 1:=by rw[IntWalk.i16_in]<;>omega
  go_enter func330,ntmps330;go_wp2_with fail;refine(o6 a b (-32768) (n - 1) _).mono ?_;rintro e w1⟨rfl,b1⟩;have hk:=b1.block (w.heap.size+1) (by simp);have kC:w1.heap[w.heap.size+1]?=some (.cells #[.int .i16 0,.int .i16 0] 131):=by rw[hk];have:=heap_alloc_new (w.alloc (.cells #[.int .i16 a,.int .i16 b] 131)) (.cells #[.int .i16 0,.int .i16 0] 131);simpa using this
  have B:Hid (Below w.heap.size w w1):=(by go_grown:Below w.heap.size w ((w.alloc (.cells #[.int .i16 a,.int .i16 b] 131)).alloc (.cells #[.int .i16 0,.int .i16 0] 131))).trans (b1.mono (by simp;omega));obtain⟨m0,m1,kh,kj,mq⟩:=aH kC;clear hk b1 kC;cases hr:cV ⟨a,b⟩ ⟨-32768,n - 1⟩ with
  | none =>have E:Hid (dY ⟨a,b⟩ n=none):=e.trans hr;have MQ:=hid (mq (.int .i16 0) (.int .i16 0));clear mq hr e;simp only[dN];go_wp2_with fail;exact bodyPost_ret (v:=.tuple #[.agg #[.int .i16 0,.int .i16 0],.bool false]) (by simp[results,results330,go_sem,MQ.1,MQ.2]) rfl ⟨dn E.out,(B.setCell (p:=⟨w.heap.size+1,0,none⟩) (Nat.le_succ _) _).setCell (p:=⟨w.heap.size+1,1,none⟩) (Nat.le_succ _) _⟩
  | some v =>have E:Hid (dY ⟨a,b⟩ n=some v):=e.trans hr;have MQ:=hid (mq (.int .i16 v.a) (.int .i16 v.b));clear mq hr e;simp only[dN];go_wp2_with fail;exact bodyPost_ret (v:=.tuple #[.agg #[.int .i16 v.a,.int .i16 v.b],.bool true]) (by simp[results,results330,go_sem,MQ.1,MQ.2]) rfl ⟨cI E.out,(B.setCell (p:=⟨w.heap.size+1,0,none⟩) (Nat.le_succ _) _).setCell (p:=⟨w.heap.size+1,1,none⟩) (Nat.le_succ _) _⟩
theorem BB(a b n:Int)(w:Wd)(h1:-32768<=n)(h2:n<=32767) :
  Calls prog 333 #[.agg #[.int .i16 a,.int .i16 b],.int .i16 n] w fun e w'=>e=.returned (dN (ea ⟨a,b⟩ n))/\Below w.heap.size w w':=by
 by_cases hn:n=32767
 ·have e:Hid (ea ⟨a,b⟩ n=none):=by unfold Hid ea;rw[if_pos hn]
  go_enter func333,ntmps333;go_wp2_with fail;go_returns;exact⟨dn e.out,by go_grown⟩
 ·have e:Hid (ea ⟨a,b⟩ n=cV ⟨a,b⟩ ⟨n+1,32767⟩):=by unfold Hid ea;rw[if_neg hn]
  go_enter func333,ntmps333;go_wp2_with fail;refine(o6 a b (n+1) 32767 _).mono ?_;rintro e w1⟨rfl,b1⟩;have hk:=b1.block (w.heap.size+1) (by simp);have kC:w1.heap[w.heap.size+1]?=some (.cells #[.int .i16 0,.int .i16 0] 131):=by rw[hk];have:=heap_alloc_new (w.alloc (.cells #[.int .i16 a,.int .i16 b] 131)) (.cells #[.int .i16 0,.int .i16 0] 131);simpa using this
  have B:Hid (Below w.heap.size w w1):=(by go_grown:Below w.heap.size w ((w.alloc (.cells #[.int .i16 a,.int .i16 b] 131)).alloc (.cells #[.int .i16 0,.int .i16 0] 131))).trans (b1.mono (by simp;omega));obtain⟨m0,m1,kh,kj,mq⟩:=aH kC;clear hk b1 kC;cases hr:cV ⟨a,b⟩ ⟨n+1,32767⟩ with
  | none =>have E:Hid (ea ⟨a,b⟩ n=none):=e.trans hr;have MQ:=hid (mq (.int .i16 0) (.int .i16 0));clear mq hr e;simp only[dN];go_wp2_with fail;exact bodyPost_ret (v:=.tuple #[.agg #[.int .i16 0,.int .i16 0],.bool false]) (by simp[results,results333,go_sem,MQ.1,MQ.2]) rfl ⟨dn E.out,(B.setCell (p:=⟨w.heap.size+1,0,none⟩) (Nat.le_succ _) _).setCell (p:=⟨w.heap.size+1,1,none⟩) (Nat.le_succ _) _⟩
  | some v =>have E:Hid (ea ⟨a,b⟩ n=some v):=e.trans hr;have MQ:=hid (mq (.int .i16 v.a) (.int .i16 v.b));clear mq hr e;simp only[dN];go_wp2_with fail;exact bodyPost_ret (v:=.tuple #[.agg #[.int .i16 v.a,.int .i16 v.b],.bool true]) (by simp[results,results333,go_sem,MQ.1,MQ.2]) rfl ⟨cI E.out,(B.setCell (p:=⟨w.heap.size+1,0,none⟩) (Nat.le_succ _) _).setCell (p:=⟨w.heap.size+1,1,none⟩) (Nat.le_succ _) _⟩
theorem eY(b:Below ((w.alloc o1).alloc o2).heap.size ((w.alloc o1).alloc o2) w1):w1.heap[w.heap.size]?=some o1/\w1.heap[w.heap.size+1]?=some o2/\Below w.heap.size w w1:=by
 refine⟨?_,?_,?_⟩
 ·rw[b.block _ (by simp;omega)];exact heap_alloc_old (heap_alloc_new _ _)
 ·rw[b.block _ (by simp)]
  have:=heap_alloc_new (w.alloc o1) o2;simpa using this
 ·exact(((Below.refl _ _).alloc (Nat.le_refl _) _).alloc (by simp) _).trans (b.mono (by simp;omega))
theorem jW(b:Below (w.alloc o).heap.size (w.alloc o) w1):Below w.heap.size w w1/\w1.heap[w.heap.size]?=some o:=by refine⟨((Below.refl _ _).alloc (Nat.le_refl _) _).trans (b.mono (by simp)),?_⟩;rw[b.block _ (by simp)];exact heap_alloc_new _ _
theorem bY(b:Below (((w.alloc o1).alloc o2).alloc o3).heap.size (((w.alloc o1).alloc o2).alloc o3) w1):w1.heap[w.heap.size]?=some o1/\w1.heap[w.heap.size+1]?=some o2/\w1.heap[w.heap.size+1+1]?=some o3/\Below w.heap.size w w1:=by obtain⟨b',h3⟩:=jW b;obtain⟨h1,h2,hb⟩:=eY b';exact⟨h1,h2,by simpa using h3,hb⟩
theorem bM{o4:Obj}(b:Below ((((w.alloc o1).alloc o2).alloc o3).alloc o4).heap.size ((((w.alloc o1).alloc o2).alloc o3).alloc o4) w1):w1.heap[w.heap.size]?=some o1/\w1.heap[w.heap.size+1]?=some o2/\w1.heap[w.heap.size+1+1]?=some o3/\w1.heap[w.heap.size+1+1+1]?=some o4/\Below w.heap.size w w1:=by obtain⟨b',h4⟩:=jW b;obtain⟨h1,h2,h3,hb⟩:=bY b';exact⟨h1,h2,h3,by simpa using h4,hb⟩
theorem Iz(a b c d:Int)(w:Wd)(h1:-32768<=c)(h2:c<=32767)(h3:-32768<=d)(h4:d<=32767) :
  Calls prog 332 #[.agg #[.int .i16 a,.int .i16 b],.agg #[.int .i16 c,.int .i16 d]] w fun e w'=>e=.returned (dN (dS ⟨a,b⟩ ⟨c,d⟩))/\Below w.heap.size w w':=by
 go_enter func332,ntmps332;go_wp2_with fail;refine(Cf c d _).mono ?_;rintro e w1⟨rfl,b1⟩;obtain⟨hx,hy,hz,bw⟩:=bY b1;obtain⟨x0,x1,Kq,Kz,_⟩:=aH hx;obtain⟨y0,y1,nA,nB,_⟩:=aH hy;obtain⟨m0,m1,kh,kj,mq⟩:=aH hz;have BW:=hid bw;have HZ:=hid hz;clear b1 bw hx hy hz;by_cases tN:c=d
 ·subst tN
  by_cases Hr:a=c
  ·subst Hr
   have E:Hid (dS ⟨a,b⟩ ⟨a,a⟩=ea ⟨a,b⟩ a):=by unfold Hid dS;simp
   clear mq;simp only[decide_true];go_wp2_with fail;refine(BB a b a w1 h1 h2).mono ?_;rintro e w2⟨rfl,b2⟩;have ek:w2.heap[w.heap.size+1+1]?=_:=(b2.block _ (ah HZ.out)).trans HZ.out;obtain⟨m0,m1,kh,kj,mq⟩:=aH ek;have B:Hid (Below w.heap.size w w2):=BW.trans (b2.mono BW.size);clear x0 x1 Kq Kz y0 y1 nA nB b2 ek;cases hr:ea ⟨a,b⟩ a with
   | none =>have EE:Hid (_=none):=E.trans hr;have MQ:=hid (mq (.int .i16 0) (.int .i16 0));clear mq hr E;simp only[dN];go_wp2_with fail;exact bodyPost_ret (v:=.tuple #[.agg #[.int .i16 0,.int .i16 0],.bool false]) (by simp[results,results332,go_sem,MQ.1,MQ.2]) rfl ⟨dn EE.out,(B.setCell (p:=⟨w.heap.size+1+1,0,none⟩) (by show w.heap.size<=w.heap.size+1+1;omega) _).setCell (p:=⟨w.heap.size+1+1,1,none⟩) (by show w.heap.size<=w.heap.size+1+1;omega) _⟩
   | some v =>have EE:Hid (_=some v):=E.trans hr;have MQ:=hid (mq (.int .i16 v.a) (.int .i16 v.b));clear mq hr E;simp only[dN];go_wp2_with fail;exact bodyPost_ret (v:=.tuple #[.agg #[.int .i16 v.a,.int .i16 v.b],.bool true]) (by simp[results,results332,go_sem,MQ.1,MQ.2]) rfl ⟨cI EE.out,(B.setCell (p:=⟨w.heap.size+1+1,0,none⟩) (by show w.heap.size<=w.heap.size+1+1;omega) _).setCell (p:=⟨w.heap.size+1+1,1,none⟩) (by show w.heap.size<=w.heap.size+1+1;omega) _⟩
  ·by_cases NZ:b=c
   ·subst NZ
    have E:Hid (dS ⟨a,b⟩ ⟨b,b⟩=dY ⟨a,b⟩ b):=by unfold Hid dS;simp[Hr]
    have aag:(a == b)=false:=by simpa using Hr
    clear mq;simp only[decide_true];go_wp2_with fail;refine(CB a b b w1 h1 h2).mono ?_;rintro e w2⟨rfl,b2⟩;have ek:w2.heap[w.heap.size+1+1]?=_:=(b2.block _ (ah HZ.out)).trans HZ.out;obtain⟨m0,m1,kh,kj,mq⟩:=aH ek;have B:Hid (Below w.heap.size w w2):=BW.trans (b2.mono BW.size);clear x0 x1 Kq Kz y0 y1 nA nB b2 ek;cases hr:dY ⟨a,b⟩ b with
    | none =>have EE:Hid (_=none):=E.trans hr;have MQ:=hid (mq (.int .i16 0) (.int .i16 0));clear mq hr E;simp only[dN];go_wp2_with fail;exact bodyPost_ret (v:=.tuple #[.agg #[.int .i16 0,.int .i16 0],.bool false]) (by simp[results,results332,go_sem,MQ.1,MQ.2]) rfl ⟨dn EE.out,(B.setCell (p:=⟨w.heap.size+1+1,0,none⟩) (by show w.heap.size<=w.heap.size+1+1;omega) _).setCell (p:=⟨w.heap.size+1+1,1,none⟩) (by show w.heap.size<=w.heap.size+1+1;omega) _⟩
    | some v =>have EE:Hid (_=some v):=E.trans hr;have MQ:=hid (mq (.int .i16 v.a) (.int .i16 v.b));clear mq hr E;simp only[dN];go_wp2_with fail;exact bodyPost_ret (v:=.tuple #[.agg #[.int .i16 v.a,.int .i16 v.b],.bool true]) (by simp[results,results332,go_sem,MQ.1,MQ.2]) rfl ⟨cI EE.out,(B.setCell (p:=⟨w.heap.size+1+1,0,none⟩) (by show w.heap.size<=w.heap.size+1+1;omega) _).setCell (p:=⟨w.heap.size+1+1,1,none⟩) (by show w.heap.size<=w.heap.size+1+1;omega) _⟩
   ·have E:Hid (dS ⟨a,b⟩ ⟨c,c⟩=some ⟨a,b⟩):=by unfold Hid dS;simp[Hr,NZ]
    have aag:(a == c)=false:=by simpa using Hr
    have aaE:(b == c)=false:=by simpa using NZ
    have MQ:=hid (mq (.int .i16 a) (.int .i16 b));clear mq;simp only[decide_true];go_wp2_with fail;exact bodyPost_ret (v:=.tuple #[.agg #[.int .i16 a,.int .i16 b],.bool true]) (by simp[results,results332,go_sem,MQ.1,MQ.2]) rfl ⟨cI E.out,(BW.setCell (p:=⟨w.heap.size+1+1,0,none⟩) (by show w.heap.size<=w.heap.size+1+1;omega) _).setCell (p:=⟨w.heap.size+1+1,1,none⟩) (by show w.heap.size<=w.heap.size+1+1;omega) _⟩
 ·have E:Hid (dS ⟨a,b⟩ ⟨c,d⟩=some ⟨a,b⟩):=by unfold Hid dS;simp[tN]
  have MQ:=hid (mq (.int .i16 a) (.int .i16 b));have Wt:decide (c=d)=false:=by simpa using tN
  clear mq;rw[Wt];go_wp2_with fail;exact bodyPost_ret (v:=.tuple #[.agg #[.int .i16 a,.int .i16 b],.bool true]) (by simp[results,results332,go_sem,MQ.1,MQ.2]) rfl ⟨cI E.out,(BW.setCell (p:=⟨w.heap.size+1+1,0,none⟩) (by show w.heap.size<=w.heap.size+1+1;omega) _).setCell (p:=⟨w.heap.size+1+1,1,none⟩) (by show w.heap.size<=w.heap.size+1+1;omega) _⟩
structure gw(w:Wd):Prop where
 mir:∀k,k<6->w.cell? ⟨3,k,none⟩=some (.int .i64 (dT k:Nat))
 wH:∀k,k<6->w.cell? ⟨4,k,none⟩=some (.int .i64 (wH k:Nat))
theorem gw.below(h:gw w){B:Nat}(hb:Below B w w')(hB:11<=B):gw w' :=
 ⟨fun k hk=>by rw[hb.cell (p:=⟨3,k,none⟩) (show 3<B by omega)];exact h.mir k hk,fun k hk=>by rw[hb.cell (p:=⟨4,k,none⟩) (show 4<B by omega)];exact h.wH k hk⟩
theorem mW(k:Nat)(hk:k<6)(w:Wd)(h:gw w) :
  Calls prog 221 #[.int .i64 (k:Nat)] w fun e w'=>e=.returned (.int .i64 (dT k:Nat))/\w'=w:=by
 have h:=h.mir k hk;generalize ((dT k:Nat):Int)=t at *;have tS:(k:Int)<6:=by omega
 go_enter func221,ntmps221;go_wp2_with fail;go_ret;exact⟨rfl,rfl⟩
theorem jT(k:Nat)(hk:k<6)(w:Wd)(h:gw w) :
  Calls prog 222 #[.int .i64 (k:Nat)] w fun e w'=>e=.returned (.int .i64 (wH k:Nat))/\w'=w:=by
 have h:=h.wH k hk;generalize ((wH k:Nat):Int)=t at *;have tS:(k:Int)<6:=by omega
 go_enter func222,ntmps222;go_wp2_with fail;go_ret;exact⟨rfl,rfl⟩
theorem Gj(dv:Value)(a b c d:Int)(w:Wd) :
  Calls prog 321 #[.agg #[dv],.int .i64 0,.agg #[.int .i16 a,.int .i16 b],.agg #[.int .i16 c,.int .i16 d]] w fun e w'=>e=.returned (.bool (cT 0 ⟨a,b⟩ ⟨c,d⟩))/\Below w.heap.size w w':=by
 go_enter func321,ntmps321;go_wp2_with fail;go_returns;exact⟨bA rfl,by go_grown⟩
theorem Gh(dv:Value)(a b c d:Int)(w:Wd) :
  Calls prog 321 #[.agg #[dv],.int .i64 1,.agg #[.int .i16 a,.int .i16 b],.agg #[.int .i16 c,.int .i16 d]] w fun e w'=>e=.returned (.bool (cT 1 ⟨a,b⟩ ⟨c,d⟩))/\Below w.heap.size w w':=by
 go_enter func321,ntmps321;go_wp2_with fail;go_returns;exact⟨bA rfl,by go_grown⟩
theorem Po(dv:Value)(a b c d:Int)(w:Wd) :
  Calls prog 321 #[.agg #[dv],.int .i64 2,.agg #[.int .i16 a,.int .i16 b],.agg #[.int .i16 c,.int .i16 d]] w fun e w'=>e=.returned (.bool (cT 2 ⟨a,b⟩ ⟨c,d⟩))/\Below w.heap.size w w':=by
 have E:Hid (cT 2 ⟨a,b⟩ ⟨c,d⟩=(cV ⟨a,b⟩ ⟨c,d⟩).isSome):=rfl;go_enter func321,ntmps321;go_wp2_with fail;refine(o6 a b c d _).mono ?_;rintro e w1⟨rfl,b1⟩;obtain⟨_,_,_,bw⟩:=bY b1;have BW:=hid bw;clear b1 bw;cases hr:cV ⟨a,b⟩ ⟨c,d⟩ with
 | none =>
  have EE:Hid (cT 2 ⟨a,b⟩ ⟨c,d⟩=false):=by unfold Hid;rw[E.out,hr];rfl
  clear hr E;simp only[dN];go_wp2_with fail;go_returns;exact⟨bA EE.symm,BW.alloc BW.size _⟩
 | some v =>
  have EE:Hid (cT 2 ⟨a,b⟩ ⟨c,d⟩=true):=by unfold Hid;rw[E.out,hr];rfl
  clear hr E;simp only[dN];go_wp2_with fail;go_returns;exact⟨bA EE.symm,BW.alloc BW.size _⟩
theorem OS(dv:Value)(a b c d:Int)(w:Wd) :
  Calls prog 321 #[.agg #[dv],.int .i64 3,.agg #[.int .i16 a,.int .i16 b],.agg #[.int .i16 c,.int .i16 d]] w fun e w'=>e=.returned (.bool (cT 3 ⟨a,b⟩ ⟨c,d⟩))/\Below w.heap.size w w':=by
 by_cases Hr:a=c
 ·subst Hr
  by_cases Hl:b=d
  ·subst Hl
   have E:Hid (cT 3 ⟨a,b⟩ ⟨a,b⟩=!decide (a=b)):=by unfold Hid cT;simp
   go_enter func321,ntmps321;go_wp2_with fail;refine(Cf a b _).mono ?_;rintro e w1⟨rfl,b1⟩;obtain⟨_,_,_,bw⟩:=bY b1;have BW:=hid bw;clear b1 bw;go_wp2_with fail;go_returns;exact⟨bA E.symm,BW.out⟩
  ·have E:Hid (cT 3 ⟨a,b⟩ ⟨a,d⟩=true):=by unfold Hid cT;simp[Hl]
   go_enter func321,ntmps321;go_wp2_with fail;go_returns;exact⟨bA E.symm,by go_grown⟩
 ·have E:Hid (cT 3 ⟨a,b⟩ ⟨c,d⟩=true):=by unfold Hid cT;simp[Hr]
  go_enter func321,ntmps321;go_wp2_with fail;go_returns;exact⟨bA E.symm,by go_grown⟩
theorem OO(w:Wd)(h:gw w):Calls prog 221 #[.int .i64 4] w fun e w'=>e=.returned (.int .i64 1)/\w'=w:=mW 4 (by omega) w h
theorem O0(w:Wd)(h:gw w):Calls prog 221 #[.int .i64 5] w fun e w'=>e=.returned (.int .i64 0)/\w'=w:=mW 5 (by omega) w h
def gM(w:Wd)(o1 o2 o3:Obj)(w':Wd):Prop:=w'.heap[w.heap.size]?=some o1/\w'.heap[w.heap.size+1]?=some o2/\w'.heap[w.heap.size+1+1]?=some o3/\Below w.heap.size w w'
theorem FD(w:Wd)(o1 o2 o3:Obj):gM w o1 o2 o3 (((w.alloc o1).alloc o2).alloc o3):=bY (Below.refl _ _)
theorem kW(h:gM w o1 o2 o3 w'):Below w.heap.size w w':=h.2.2.2
theorem gM.call(h:gM w o1 o2 o3 w')(b:Below w'.heap.size w' w1):gM w o1 o2 o3 w1 :=
 ⟨(b.block _ (ah h.1)).trans h.1,(b.block _ (ah h.2.1)).trans h.2.1,(b.block _ (ah h.2.2.1)).trans h.2.2.1,h.2.2.2.trans (b.mono h.2.2.2.size)⟩
theorem Da(h:gM w (.cells #[dv] 133) (.cells #[.int .i16 a,.int .i16 b] 131) (.cells #[.int .i16 c,.int .i16 d] 131) w'):w'.cell? ⟨w.heap.size,0,none⟩=some dv/\w'.cell? ⟨w.heap.size+1,0,none⟩=some (.int .i16 a)/\w'.cell? ⟨w.heap.size+1,1,none⟩=some (.int .i16 b)/\w'.cell? ⟨w.heap.size+1+1,0,none⟩=some (.int .i16 c)/\w'.cell? ⟨w.heap.size+1+1,1,none⟩=some (.int .i16 d)/\gM w (.cells #[dv] 133) (.cells #[.int .i16 a,.int .i16 b] 131) (.cells #[.int .i16 c,.int .i16 d] 131) w' :=
 ⟨cell_of h.1 0 rfl,cell_of h.2.1 0 rfl,cell_of h.2.1 1 rfl,cell_of h.2.2.1 0 rfl,cell_of h.2.2.1 1 rfl,h⟩
theorem y8(w:Wd)(dv:Value)(a b c d:Int):(fun w':Wd=>w'.cell? ⟨w.heap.size,0,none⟩=some dv/\w'.cell? ⟨w.heap.size+1,0,none⟩=some (.int .i16 a)/\w'.cell? ⟨w.heap.size+1,1,none⟩=some (.int .i16 b)/\w'.cell? ⟨w.heap.size+1+1,0,none⟩=some (.int .i16 c)/\w'.cell? ⟨w.heap.size+1+1,1,none⟩=some (.int .i16 d)/\gM w (.cells #[dv] 133) (.cells #[.int .i16 a,.int .i16 b] 131) (.cells #[.int .i16 c,.int .i16 d] 131) w') (((w.alloc (.cells #[dv] 133)).alloc (.cells #[.int .i16 a,.int .i16 b] 131)).alloc (.cells #[.int .i16 c,.int .i16 d] 131)).drew :=
 Da (w':=(((w.alloc (.cells #[dv] 133)).alloc (.cells #[.int .i16 a,.int .i16 b] 131)).alloc (.cells #[.int .i16 c,.int .i16 d] 131)).drew) ((FD w _ _ _).call (Below.refl _ _).drew)
theorem BX(h:gM w (.cells #[dv] 133) (.cells #[.int .i16 a,.int .i16 b] 131) (.cells #[.int .i16 c,.int .i16 d] 131) w')(k:Below w'.heap.size w' w1):(fun w':Wd=>w'.cell? ⟨w.heap.size,0,none⟩=some dv/\w'.cell? ⟨w.heap.size+1,0,none⟩=some (.int .i16 a)/\w'.cell? ⟨w.heap.size+1,1,none⟩=some (.int .i16 b)/\w'.cell? ⟨w.heap.size+1+1,0,none⟩=some (.int .i16 c)/\w'.cell? ⟨w.heap.size+1+1,1,none⟩=some (.int .i16 d)/\gM w (.cells #[dv] 133) (.cells #[.int .i16 a,.int .i16 b] 131) (.cells #[.int .i16 c,.int .i16 d] 131) w') w1:=Da (h.call k)
theorem OU(dv:Value)(a b c d:Int)(w:Wd)(hT:gw w)(hs:11<=w.heap.size) :
  Calls prog 321 #[.agg #[dv],.int .i64 4,.agg #[.int .i16 a,.int .i16 b],.agg #[.int .i16 c,.int .i16 d]] w fun e w'=>e=.returned (.bool (cT 4 ⟨a,b⟩ ⟨c,d⟩))/\Below w.heap.size w w':=by
 have HT:Hid (∀w',Below w.heap.size w w'->gw w'):=fun w' h=>hT.below h hs
 have h0:=y8 w dv a b c d;go_enter func321,ntmps321;go_wp2_with fail
 go_region_held3 (fun w':Wd=>w'.cell? ⟨w.heap.size,0,none⟩=some dv/\w'.cell? ⟨w.heap.size+1,0,none⟩=some (.int .i16 a)/\w'.cell? ⟨w.heap.size+1,1,none⟩=some (.int .i16 b)/\w'.cell? ⟨w.heap.size+1+1,0,none⟩=some (.int .i16 c)/\w'.cell? ⟨w.heap.size+1+1,1,none⟩=some (.int .i16 d)/\gM w (.cells #[dv] 133) (.cells #[.int .i16 a,.int .i16 b] 131) (.cells #[.int .i16 c,.int .i16 d] 131) w') (first | exact h0 | assumption | exact BX h0.2.2.2.2.2 (by assumption))
  (first
    | (go_at_call 221;refine(OO _ (HT.out _ (kW h0.2.2.2.2.2))).mono ?_;rintro e w1 ⟨rfl,rfl⟩)
    | (go_at_call 321;refine(Gh dv c d a b _).mono ?_;rintro e w1 ⟨rfl,b1⟩))
 all_goals
  have HX:Hid (Below w.heap.size w w1):=kW (h0.2.2.2.2.2.call b1);go_wp2_with fail;go_returns;exact⟨bA rfl,HX.out⟩
theorem Pj(dv:Value)(a b c d:Int)(w:Wd)(hT:gw w)(hs:11<=w.heap.size) :
  Calls prog 321 #[.agg #[dv],.int .i64 5,.agg #[.int .i16 a,.int .i16 b],.agg #[.int .i16 c,.int .i16 d]] w fun e w'=>e=.returned (.bool (cT 5 ⟨a,b⟩ ⟨c,d⟩))/\Below w.heap.size w w':=by
 have HT:Hid (∀w',Below w.heap.size w w'->gw w'):=fun w' h=>hT.below h hs
 have h0:=y8 w dv a b c d;go_enter func321,ntmps321;go_wp2_with fail
 go_region_held3 (fun w':Wd=>w'.cell? ⟨w.heap.size,0,none⟩=some dv/\w'.cell? ⟨w.heap.size+1,0,none⟩=some (.int .i16 a)/\w'.cell? ⟨w.heap.size+1,1,none⟩=some (.int .i16 b)/\w'.cell? ⟨w.heap.size+1+1,0,none⟩=some (.int .i16 c)/\w'.cell? ⟨w.heap.size+1+1,1,none⟩=some (.int .i16 d)/\gM w (.cells #[dv] 133) (.cells #[.int .i16 a,.int .i16 b] 131) (.cells #[.int .i16 c,.int .i16 d] 131) w') (first | exact h0 | assumption | exact BX h0.2.2.2.2.2 (by assumption))
  (first
    | (go_at_call 221;refine(O0 _ (HT.out _ (kW h0.2.2.2.2.2))).mono ?_;rintro e w1 ⟨rfl,rfl⟩)
    | (go_at_call 321;refine(Gj dv c d a b _).mono ?_;rintro e w1 ⟨rfl,b1⟩))
 all_goals
  have HX:Hid (Below w.heap.size w w1):=kW (h0.2.2.2.2.2.call b1);go_wp2_with fail;go_returns;exact⟨bA rfl,HX.out⟩
theorem Ru(dv:Value)(r:Nat)(hr:r<6)(a b c d:Int)(w:Wd)(hT:gw w)(hs:11<=w.heap.size) :
  Calls prog 321 #[.agg #[dv],.int .i64 (r:Nat),.agg #[.int .i16 a,.int .i16 b],.agg #[.int .i16 c,.int .i16 d]] w fun e w'=>e=.returned (.bool (cT r ⟨a,b⟩ ⟨c,d⟩))/\Below w.heap.size w w':=by
 rcases(show r=0∨r=1∨r=2∨r=3∨r=4∨r=5 from by omega) with rfl | rfl | rfl | rfl | rfl | rfl
 ·exact Gj dv a b c d w
 ·exact Gh dv a b c d w
 ·exact Po dv a b c d w
 ·exact OS dv a b c d w
 ·exact OU dv a b c d w hT hs
 ·exact Pj dv a b c d w hT hs
end
namespace Sp
section
variable{l:List Int}
variable{x y v:Iv}
variable{q a b u n:Int}
def jO(x:Iv):Prop:=-32768<=x.a/\x.a<=x.b/\x.b<=32767
theorem pZ:∀(l:List Int) (x:Int),l.foldl min x<=x/\∀y∈l,l.foldl min x<=y
 | [],x=>⟨Int.le_refl _,fun _ h=>by cases h⟩
 | z :: l,x=>by
  obtain⟨h1,h2⟩:=pZ l (min x z);refine⟨by show l.foldl min (min x z)<=x;omega,fun y hy=>?_⟩;show l.foldl min (min x z)<=y
  rcases List.mem_cons.1 hy with rfl | hy
  ·omega
  ·exact h2 y hy
theorem qp:∀(l:List Int) (x:Int),x<=l.foldl max x/\∀y∈l,y<=l.foldl max x
 | [],x=>⟨Int.le_refl _,fun _ h=>by cases h⟩
 | z :: l,x=>by
  obtain⟨h1,h2⟩:=qp l (max x z);refine⟨by show x<=l.foldl max (max x z);omega,fun y hy=>?_⟩;show y<=l.foldl max (max x z)
  rcases List.mem_cons.1 hy with rfl | hy
  ·omega
  ·exact h2 y hy
theorem Gs{x:Int}(h:x∈l):nP l<=x:=by
 cases l with
 | nil=>cases h
 | cons z l =>
  rcases List.mem_cons.1 h with rfl | h
  ·exact(pZ l _).1
  ·exact(pZ l z).2 x h
theorem Gl{x:Int}(h:x∈l):x<=nT l:=by
 cases l with
 | nil=>cases h
 | cons z l =>
  rcases List.mem_cons.1 h with rfl | h
  ·exact(qp l _).1
  ·exact(qp l z).2 x h
theorem Mh(h:q∈l):x.a.tdiv q∈(l.flatMap fun q=>[x.a.tdiv q,x.b.tdiv q])/\x.b.tdiv q∈(l.flatMap fun q=>[x.a.tdiv q,x.b.tdiv q]):=by
 constructor
 ·exact List.mem_flatMap.2 ⟨q,h,by simp⟩
 ·exact List.mem_flatMap.2 ⟨q,h,by simp⟩
theorem Ao(h1:x.a=y.a)(h2:x.b=y.b):x=y:=by
 cases x;cases y;simp at h1 h2;rw[h1,h2]
theorem oJ(h:a<=b):jO (cJ a b):=by
 unfold cJ;split
 ·exact⟨by decide,by decide,by decide⟩
 ·exact⟨by show -32768<=a;omega,h,by show b<=32767;omega⟩
theorem CX(h:u∈l):jO (cu l):=oJ (Int.le_trans (Gs h) (Gl h))
theorem Gk(k:Nat)(x y v:Iv)(hx:jO x)(hy:jO y)(h:cp k x y=some v):jO v:=by
 obtain⟨h1,h2,h3⟩:=hx;obtain⟨h4,h5,h6⟩:=hy;unfold cp at h;split at h
 ·cases h;exact oJ (by omega)
 ·split at h
  ·cases h;exact oJ (by omega)
  ·split at h
   ·cases h;exact CX (u:=x.a*y.a) (by simp)
   ·split at h
    ·unfold dO at h
     split at h
     ·cases h
     ·next db =>
      cases h
      obtain⟨q,hq⟩:=List.exists_mem_of_ne_nil _ db;exact CX (Mh (x:=x) hq).1
    ·unfold gz at h
     split at h
     ·cases h
     ·cases h
      exact oJ (by omega)
theorem rI(hx:jO x)(h:cV x y=some v):jO v:=by
 obtain⟨h1,h2,h3⟩:=hx;unfold cV at h;split at h
 ·cases h
  exact⟨by show -32768<=max x.a y.a;omega,by assumption,by show min x.b y.b<=32767;omega⟩
 ·cases h
theorem Dh(hx:jO x)(h:dY x n=some v):jO v:=by
 unfold dY at h;split at h
 ·cases h
 ·exact rI hx h
theorem CG(hx:jO x)(h:ea x n=some v):jO v:=by
 unfold ea at h;split at h
 ·cases h
 ·exact rI hx h
theorem L9(r:Nat)(x y v:Iv)(hx:jO x)(_:jO y)(h:dy r x y=some v):jO v:=by
 unfold dy at h;split at h
 ·exact Dh hx h
 ·split at h
  ·exact rI hx h
  ·split at h
   ·exact rI hx h
   ·split at h
    ·unfold dS at h
     split at h
     ·cases h;exact hx
     ·split at h
      ·exact CG hx h
      ·split at h
       ·exact Dh hx h
       ·cases h;exact hx
    ·split at h
     ·exact rI hx h
     ·exact CG hx h
theorem qQ(n:Int):∀(l:List Int) (st:Int),st<=n->-32768<=st->-32768<=l.foldl (fun st s=>if s<=n then max st s else st) st/\l.foldl (fun st s=>if s<=n then max st s else st) st<=n
 | [],st,h1,h2=>⟨h2,h1⟩
 | s :: l,st,h1,h2=>by show -32768<=l.foldl _ (if s<=n then max st s else st)/\l.foldl _ (if s<=n then max st s else st)<=n;exact qQ n l _ (by split<;>omega) (by split<;>omega)
theorem qP(n:Int):∀(l:List Int) (st:Int),n<=st->st<=32767->n<=l.foldl (fun st s=>if n<=s then min st s else st) st/\l.foldl (fun st s=>if n<=s then min st s else st) st<=32767
 | [],st,h1,h2=>⟨h1,h2⟩
 | s :: l,st,h1,h2=>by show n<=l.foldl _ (if n<=s then min st s else st)/\l.foldl _ (if n<=s then min st s else st)<=32767;exact qP n l _ (by split<;>omega) (by split<;>omega)
theorem Dj(steps:List Int)(x y:Iv)(hx:jO x)(hy:jO y):-32768<=(bK steps x y).a/\(bK steps x y).a<=y.a/\y.b<=(bK steps x y).b/\(bK steps x y).b<=32767:=by
 obtain⟨h1,h2,h3⟩:=hx;obtain⟨h4,h5,h6⟩:=hy;have e1:=qQ y.a steps (-32768) h4 (Int.le_refl _);have e2:=qP y.b steps 32767 h6 (Int.le_refl _);unfold bK cd br;simp only;refine⟨?_,?_,?_,?_⟩
 ·split<;>omega
 ·split<;>omega
 ·split<;>omega
 ·split<;>omega
def SR(steps:List Int):Rk (oN steps) where
 wf:=jO
 rk x:=(x.b - x.a+65535).toNat
 top:=131070
 le x h:=by obtain⟨h1,h2,h3⟩:=h;show(x.b - x.a+65535).toNat<=131070;omega
 wnum n h:=⟨h.1,Int.le_refl _,h.2⟩
 wwhole:=(⟨by decide,by decide,by decide⟩:jO eF)
 wneg x h:=oJ (by have:=h.2.1;omega)
 wwork:=Gk
 wjoin x y h k:=⟨by show -32768<=min x.a y.a;have:=h.1;have:=k.1;omega,by show min x.a y.a<=max x.b y.b;have:=h.2.1;omega,by show max x.b y.b<=32767;have:=h.2.2;have:=k.2.2;omega⟩
 wbound:=L9
 wwiden x y h k:=by obtain⟨h1,h2,h3,h4⟩:=Dj steps x y h k;exact⟨h1,by have:=k.2.1;show(bK steps x y).a<=(bK steps x y).b;omega,h4⟩
 sub x y:=y.a<=x.a/\x.b<=y.b
 sub_refl x:=⟨Int.le_refl _,Int.le_refl _⟩
 sub_trans x y z h k:=⟨Int.le_trans k.1 h.1,Int.le_trans h.2 k.2⟩
 sub_joinl x y:=⟨by show min x.a y.a<=x.a;omega,by show x.b<=max x.b y.b;omega⟩
 sub_joinr x y:=⟨by show min x.a y.a<=y.a;omega,by show y.b<=max x.b y.b;omega⟩
 sub_narrow x y z h k:=by
  have h1:x.a<=z.a:=h.1;have h2:z.b<=x.b:=h.2;have k1:y.a<=z.a:=k.1;have k2:z.b<=y.b:=k.2;constructor
  ·show(if x.a=-32768 then y.a else x.a)<=z.a
   split<;>omega
  ·show z.b<=(if x.b=32767 then y.b else x.b)
   split<;>omega
 wnarrow x y z hx hy hz h k:=by
  have h1:x.a<=z.a:=h.1;have h2:z.b<=x.b:=h.2;have k1:y.a<=z.a:=k.1;have k2:z.b<=y.b:=k.2;obtain⟨a1,a2,a3⟩:=hx;obtain⟨b1,b2,b3⟩:=hy;obtain⟨c1,c2,c3⟩:=hz;refine⟨?_,?_,?_⟩
  ·show -32768<=(if x.a=-32768 then y.a else x.a)
   split<;>omega
  ·show(if x.a=-32768 then y.a else x.a)<=(if x.b=32767 then y.b else x.b)
   split<;>split<;>omega
  ·show(if x.b=32767 then y.b else x.b)<=32767
   split<;>omega
 join_lt x y h k db:=by
  obtain⟨h1,h2,h3⟩:=h;obtain⟨k1,k2,k3⟩:=k;show(x.b - x.a+65535).toNat<(max x.b y.b - min x.a y.a+65535).toNat;have:¬ (min x.a y.a=x.a/\max x.b y.b=x.b):=fun e=>db (Ao e.1 e.2)
  omega
 widen_le x y h k:=by have hj:jO ⟨min x.a y.a,max x.b y.b⟩:=⟨by show -32768<=min x.a y.a;have:=h.1;have:=k.1;omega,by show min x.a y.a<=max x.b y.b;have:=h.2.1;omega,by show max x.b y.b<=32767;have:=h.2.2;have:=k.2.2;omega⟩;obtain⟨h1,h2,h3,h4⟩:=Dj steps x ⟨min x.a y.a,max x.b y.b⟩ h hj;show(max x.b y.b - min x.a y.a+65535).toNat<=((bK steps x ⟨min x.a y.a,max x.b y.b⟩).b - (bK steps x ⟨min x.a y.a,max x.b y.b⟩).a+65535).toNat;have h2:(bK steps x ⟨min x.a y.a,max x.b y.b⟩).a<=min x.a y.a:=h2;have h3:max x.b y.b<=(bK steps x ⟨min x.a y.a,max x.b y.b⟩).b:=h3;omega
 fuel:=by show 8*131070<1100000;decide
end
end Sp
section
variable{w w' W W' w2 w0:Wd}
variable{v v':Value}
variable{steps zs:List Int}
variable{p q c d x y a b:Int}
variable{base:Nat}
theorem Je(dv:Value)(a b c d:Int)(w:Wd)(_:-32768<=c)(_:c<=32767)(h3:-32768<=d)(h4:d<=32767) :
  Calls prog 318 #[.agg #[dv],.int .i64 0,.agg #[.int .i16 a,.int .i16 b],.agg #[.int .i16 c,.int .i16 d]] w fun e w'=>e=.returned (dN (dy 0 ⟨a,b⟩ ⟨c,d⟩))/\Below w.heap.size w w':=by
 have E:Hid (dy 0 ⟨a,b⟩ ⟨c,d⟩=dY ⟨a,b⟩ d):=rfl;go_enter func318,ntmps318;go_wp2_with fail;refine(CB a b d _ h3 h4).mono ?_;rintro e w1⟨rfl,b1⟩;obtain⟨_,_,_,hz,bw⟩:=bM b1;obtain⟨m0,m1,kh,kj,mq⟩:=aH hz;have BW:=hid bw;clear b1 bw hz;cases hr:dY ⟨a,b⟩ d with
 | none =>have EE:Hid (_=none):=E.trans hr;have MQ:=hid (mq (.int .i16 0) (.int .i16 0));clear mq hr E;simp only[dN];go_wp2_with fail;exact bodyPost_ret (v:=.tuple #[.agg #[.int .i16 0,.int .i16 0],.bool false]) (by simp[results,results318,go_sem,MQ.1,MQ.2]) rfl ⟨dn EE.out,(BW.setCell (p:=⟨w.heap.size+1+1+1,0,none⟩) (by show w.heap.size<=w.heap.size+1+1+1;omega) _).setCell (p:=⟨w.heap.size+1+1+1,1,none⟩) (by show w.heap.size<=w.heap.size+1+1+1;omega) _⟩
 | some v =>have EE:Hid (_=some v):=E.trans hr;have MQ:=hid (mq (.int .i16 v.a) (.int .i16 v.b));clear mq hr E;simp only[dN];go_wp2_with fail;exact bodyPost_ret (v:=.tuple #[.agg #[.int .i16 v.a,.int .i16 v.b],.bool true]) (by simp[results,results318,go_sem,MQ.1,MQ.2]) rfl ⟨cI EE.out,(BW.setCell (p:=⟨w.heap.size+1+1+1,0,none⟩) (by show w.heap.size<=w.heap.size+1+1+1;omega) _).setCell (p:=⟨w.heap.size+1+1+1,1,none⟩) (by show w.heap.size<=w.heap.size+1+1+1;omega) _⟩
theorem I2(dv:Value)(a b c d:Int)(w:Wd)(_:-32768<=c)(_:c<=32767)(_:-32768<=d)(_:d<=32767) :
  Calls prog 318 #[.agg #[dv],.int .i64 1,.agg #[.int .i16 a,.int .i16 b],.agg #[.int .i16 c,.int .i16 d]] w fun e w'=>e=.returned (dN (dy 1 ⟨a,b⟩ ⟨c,d⟩))/\Below w.heap.size w w':=by
 have E:Hid (dy 1 ⟨a,b⟩ ⟨c,d⟩=cV ⟨a,b⟩ ⟨-32768,d⟩):=rfl;go_enter func318,ntmps318;go_wp2_with fail;refine(o6 a b (-32768) d _).mono ?_;rintro e w1⟨rfl,b1⟩;obtain⟨_,_,_,hz,bw⟩:=bM b1;obtain⟨m0,m1,kh,kj,mq⟩:=aH hz;have BW:=hid bw;clear b1 bw hz;cases hr:cV ⟨a,b⟩ ⟨-32768,d⟩ with
 | none =>have EE:Hid (_=none):=E.trans hr;have MQ:=hid (mq (.int .i16 0) (.int .i16 0));clear mq hr E;simp only[dN];go_wp2_with fail;exact bodyPost_ret (v:=.tuple #[.agg #[.int .i16 0,.int .i16 0],.bool false]) (by simp[results,results318,go_sem,MQ.1,MQ.2]) rfl ⟨dn EE.out,(BW.setCell (p:=⟨w.heap.size+1+1+1,0,none⟩) (by show w.heap.size<=w.heap.size+1+1+1;omega) _).setCell (p:=⟨w.heap.size+1+1+1,1,none⟩) (by show w.heap.size<=w.heap.size+1+1+1;omega) _⟩
 | some v =>have EE:Hid (_=some v):=E.trans hr;have MQ:=hid (mq (.int .i16 v.a) (.int .i16 v.b));clear mq hr E;simp only[dN];go_wp2_with fail;exact bodyPost_ret (v:=.tuple #[.agg #[.int .i16 v.a,.int .i16 v.b],.bool true]) (by simp[results,results318,go_sem,MQ.1,MQ.2]) rfl ⟨cI EE.out,(BW.setCell (p:=⟨w.heap.size+1+1+1,0,none⟩) (by show w.heap.size<=w.heap.size+1+1+1;omega) _).setCell (p:=⟨w.heap.size+1+1+1,1,none⟩) (by show w.heap.size<=w.heap.size+1+1+1;omega) _⟩
theorem Jp(dv:Value)(a b c d:Int)(w:Wd)(_:-32768<=c)(_:c<=32767)(_:-32768<=d)(_:d<=32767) :
  Calls prog 318 #[.agg #[dv],.int .i64 2,.agg #[.int .i16 a,.int .i16 b],.agg #[.int .i16 c,.int .i16 d]] w fun e w'=>e=.returned (dN (dy 2 ⟨a,b⟩ ⟨c,d⟩))/\Below w.heap.size w w':=by
 have E:Hid (dy 2 ⟨a,b⟩ ⟨c,d⟩=cV ⟨a,b⟩ ⟨c,d⟩):=rfl;go_enter func318,ntmps318;go_wp2_with fail;refine(o6 a b c d _).mono ?_;rintro e w1⟨rfl,b1⟩;obtain⟨_,_,_,hz,bw⟩:=bM b1;obtain⟨m0,m1,kh,kj,mq⟩:=aH hz;have BW:=hid bw;clear b1 bw hz;cases hr:cV ⟨a,b⟩ ⟨c,d⟩ with
 | none =>have EE:Hid (_=none):=E.trans hr;have MQ:=hid (mq (.int .i16 0) (.int .i16 0));clear mq hr E;simp only[dN];go_wp2_with fail;exact bodyPost_ret (v:=.tuple #[.agg #[.int .i16 0,.int .i16 0],.bool false]) (by simp[results,results318,go_sem,MQ.1,MQ.2]) rfl ⟨dn EE.out,(BW.setCell (p:=⟨w.heap.size+1+1+1,0,none⟩) (by show w.heap.size<=w.heap.size+1+1+1;omega) _).setCell (p:=⟨w.heap.size+1+1+1,1,none⟩) (by show w.heap.size<=w.heap.size+1+1+1;omega) _⟩
 | some v =>have EE:Hid (_=some v):=E.trans hr;have MQ:=hid (mq (.int .i16 v.a) (.int .i16 v.b));clear mq hr E;simp only[dN];go_wp2_with fail;exact bodyPost_ret (v:=.tuple #[.agg #[.int .i16 v.a,.int .i16 v.b],.bool true]) (by simp[results,results318,go_sem,MQ.1,MQ.2]) rfl ⟨cI EE.out,(BW.setCell (p:=⟨w.heap.size+1+1+1,0,none⟩) (by show w.heap.size<=w.heap.size+1+1+1;omega) _).setCell (p:=⟨w.heap.size+1+1+1,1,none⟩) (by show w.heap.size<=w.heap.size+1+1+1;omega) _⟩
theorem JN(dv:Value)(a b c d:Int)(w:Wd)(h1:-32768<=c)(h2:c<=32767)(h3:-32768<=d)(h4:d<=32767) :
  Calls prog 318 #[.agg #[dv],.int .i64 3,.agg #[.int .i16 a,.int .i16 b],.agg #[.int .i16 c,.int .i16 d]] w fun e w'=>e=.returned (dN (dy 3 ⟨a,b⟩ ⟨c,d⟩))/\Below w.heap.size w w':=by
 have E:Hid (dy 3 ⟨a,b⟩ ⟨c,d⟩=dS ⟨a,b⟩ ⟨c,d⟩):=rfl;go_enter func318,ntmps318;go_wp2_with fail;refine(Iz a b c d _ h1 h2 h3 h4).mono ?_;rintro e w1⟨rfl,b1⟩;obtain⟨_,_,_,hz,bw⟩:=bM b1;obtain⟨m0,m1,kh,kj,mq⟩:=aH hz;have BW:=hid bw;clear b1 bw hz;cases hr:dS ⟨a,b⟩ ⟨c,d⟩ with
 | none =>have EE:Hid (_=none):=E.trans hr;have MQ:=hid (mq (.int .i16 0) (.int .i16 0));clear mq hr E;simp only[dN];go_wp2_with fail;exact bodyPost_ret (v:=.tuple #[.agg #[.int .i16 0,.int .i16 0],.bool false]) (by simp[results,results318,go_sem,MQ.1,MQ.2]) rfl ⟨dn EE.out,(BW.setCell (p:=⟨w.heap.size+1+1+1,0,none⟩) (by show w.heap.size<=w.heap.size+1+1+1;omega) _).setCell (p:=⟨w.heap.size+1+1+1,1,none⟩) (by show w.heap.size<=w.heap.size+1+1+1;omega) _⟩
 | some v =>have EE:Hid (_=some v):=E.trans hr;have MQ:=hid (mq (.int .i16 v.a) (.int .i16 v.b));clear mq hr E;simp only[dN];go_wp2_with fail;exact bodyPost_ret (v:=.tuple #[.agg #[.int .i16 v.a,.int .i16 v.b],.bool true]) (by simp[results,results318,go_sem,MQ.1,MQ.2]) rfl ⟨cI EE.out,(BW.setCell (p:=⟨w.heap.size+1+1+1,0,none⟩) (by show w.heap.size<=w.heap.size+1+1+1;omega) _).setCell (p:=⟨w.heap.size+1+1+1,1,none⟩) (by show w.heap.size<=w.heap.size+1+1+1;omega) _⟩
theorem Ic(dv:Value)(a b c d:Int)(w:Wd)(_:-32768<=c)(_:c<=32767)(_:-32768<=d)(_:d<=32767) :
  Calls prog 318 #[.agg #[dv],.int .i64 4,.agg #[.int .i16 a,.int .i16 b],.agg #[.int .i16 c,.int .i16 d]] w fun e w'=>e=.returned (dN (dy 4 ⟨a,b⟩ ⟨c,d⟩))/\Below w.heap.size w w':=by
 have E:Hid (dy 4 ⟨a,b⟩ ⟨c,d⟩=cV ⟨a,b⟩ ⟨c,32767⟩):=rfl;go_enter func318,ntmps318;go_wp2_with fail;refine(o6 a b c 32767 _).mono ?_;rintro e w1⟨rfl,b1⟩;obtain⟨_,_,_,hz,bw⟩:=bM b1;obtain⟨m0,m1,kh,kj,mq⟩:=aH hz;have BW:=hid bw;clear b1 bw hz;cases hr:cV ⟨a,b⟩ ⟨c,32767⟩ with
 | none =>have EE:Hid (_=none):=E.trans hr;have MQ:=hid (mq (.int .i16 0) (.int .i16 0));clear mq hr E;simp only[dN];go_wp2_with fail;exact bodyPost_ret (v:=.tuple #[.agg #[.int .i16 0,.int .i16 0],.bool false]) (by simp[results,results318,go_sem,MQ.1,MQ.2]) rfl ⟨dn EE.out,(BW.setCell (p:=⟨w.heap.size+1+1+1,0,none⟩) (by show w.heap.size<=w.heap.size+1+1+1;omega) _).setCell (p:=⟨w.heap.size+1+1+1,1,none⟩) (by show w.heap.size<=w.heap.size+1+1+1;omega) _⟩
 | some v =>have EE:Hid (_=some v):=E.trans hr;have MQ:=hid (mq (.int .i16 v.a) (.int .i16 v.b));clear mq hr E;simp only[dN];go_wp2_with fail;exact bodyPost_ret (v:=.tuple #[.agg #[.int .i16 v.a,.int .i16 v.b],.bool true]) (by simp[results,results318,go_sem,MQ.1,MQ.2]) rfl ⟨cI EE.out,(BW.setCell (p:=⟨w.heap.size+1+1+1,0,none⟩) (by show w.heap.size<=w.heap.size+1+1+1;omega) _).setCell (p:=⟨w.heap.size+1+1+1,1,none⟩) (by show w.heap.size<=w.heap.size+1+1+1;omega) _⟩
theorem J4(dv:Value)(a b c d:Int)(w:Wd)(h1:-32768<=c)(h2:c<=32767)(_:-32768<=d)(_:d<=32767) :
  Calls prog 318 #[.agg #[dv],.int .i64 5,.agg #[.int .i16 a,.int .i16 b],.agg #[.int .i16 c,.int .i16 d]] w fun e w'=>e=.returned (dN (dy 5 ⟨a,b⟩ ⟨c,d⟩))/\Below w.heap.size w w':=by
 have E:Hid (dy 5 ⟨a,b⟩ ⟨c,d⟩=ea ⟨a,b⟩ c):=rfl;go_enter func318,ntmps318;go_wp2_with fail;refine(BB a b c _ h1 h2).mono ?_;rintro e w1⟨rfl,b1⟩;obtain⟨_,_,_,hz,bw⟩:=bM b1;obtain⟨m0,m1,kh,kj,mq⟩:=aH hz;have BW:=hid bw;clear b1 bw hz;cases hr:ea ⟨a,b⟩ c with
 | none =>have EE:Hid (_=none):=E.trans hr;have MQ:=hid (mq (.int .i16 0) (.int .i16 0));clear mq hr E;simp only[dN];go_wp2_with fail;exact bodyPost_ret (v:=.tuple #[.agg #[.int .i16 0,.int .i16 0],.bool false]) (by simp[results,results318,go_sem,MQ.1,MQ.2]) rfl ⟨dn EE.out,(BW.setCell (p:=⟨w.heap.size+1+1+1,0,none⟩) (by show w.heap.size<=w.heap.size+1+1+1;omega) _).setCell (p:=⟨w.heap.size+1+1+1,1,none⟩) (by show w.heap.size<=w.heap.size+1+1+1;omega) _⟩
 | some v =>have EE:Hid (_=some v):=E.trans hr;have MQ:=hid (mq (.int .i16 v.a) (.int .i16 v.b));clear mq hr E;simp only[dN];go_wp2_with fail;exact bodyPost_ret (v:=.tuple #[.agg #[.int .i16 v.a,.int .i16 v.b],.bool true]) (by simp[results,results318,go_sem,MQ.1,MQ.2]) rfl ⟨cI EE.out,(BW.setCell (p:=⟨w.heap.size+1+1+1,0,none⟩) (by show w.heap.size<=w.heap.size+1+1+1;omega) _).setCell (p:=⟨w.heap.size+1+1+1,1,none⟩) (by show w.heap.size<=w.heap.size+1+1+1;omega) _⟩
theorem L5(dv:Value)(r:Nat)(hr:r<6)(a b c d:Int)(w:Wd)(h1:-32768<=c)(h2:c<=32767)(h3:-32768<=d)(h4:d<=32767) :
  Calls prog 318 #[.agg #[dv],.int .i64 (r:Nat),.agg #[.int .i16 a,.int .i16 b],.agg #[.int .i16 c,.int .i16 d]] w fun e w'=>e=.returned (dN (dy r ⟨a,b⟩ ⟨c,d⟩))/\Below w.heap.size w w':=by
 rcases(show r=0∨r=1∨r=2∨r=3∨r=4∨r=5 from by omega) with rfl | rfl | rfl | rfl | rfl | rfl
 ·exact Je dv a b c d w h1 h2 h3 h4
 ·exact I2 dv a b c d w h1 h2 h3 h4
 ·exact Jp dv a b c d w h1 h2 h3 h4
 ·exact JN dv a b c d w h1 h2 h3 h4
 ·exact Ic dv a b c d w h1 h2 h3 h4
 ·exact J4 dv a b c d w h1 h2 h3 h4
theorem AU(g off cap:Nat)(steps:List Int)(n:Int)(w:Wd)(hg:g<w.heap.size)(hl:(steps.length:Int)<=1000000)(hc:∀i x,steps[i]?=some x->w.cell? ⟨g,off+i,none⟩=some (.int .i16 x)) :
  Calls prog 336 #[.agg #[.slice (some ⟨g,off,none⟩) steps.length cap],.int .i16 n] w fun e w'=>e=.returned (.int .i16 (cd steps n))/\Below w.heap.size w w':=by
 have NG:Hid (∀i x,steps[i]?=some x->(w.alloc (.cells #[.slice (some ⟨g,off,none⟩) steps.length cap] 133)).cell? ⟨g,off+i,none⟩=some (.int .i16 x)):=fun i x h=>by rw[(below_alloc1 w _).cell (p:=⟨g,off+i,none⟩) hg];exact hc i x h
 clear hc hg;go_enter func336,ntmps336;go_wp2_with fail
 go_loop [5,11] (fun v5 v11=>∃(j:Nat) (st:Int),j<=steps.length/\v11=.int .i64 j/\v5=.int .i16 st/\Hid (cd steps n=(steps.drop j).foldl (fun st s=>if s<=n then max st s else st) st)) (fun _ v11=>steps.length - (intOf v11).toNat)
 case atStart=>exact⟨0,-32768,Nat.zero_le _,rfl,rfl,rfl⟩
 case round =>
  obtain⟨j,st,hj,rfl,rfl,hq⟩:=hrel;by_cases dW:j<steps.length
  ·obtain⟨x,hx⟩:∃x,steps[j]?=some x:=⟨_,List.getElem?_eq_getElem dW⟩
   have hcx:=NG.out j x hx;have hd:steps.drop j=x :: steps.drop (j+1):=by rw[List.drop_eq_getElem_cons dW,(List.getElem?_eq_some_iff.1 hx).2]
   have HD:Hid (cd steps n=(steps.drop (j+1)).foldl (fun st s=>if s<=n then max st s else st) (if x<=n then max st x else st)):=by unfold Hid;rw[hq.out,hd];rfl
   clear hd hx;by_cases hle:x<=n
   ·rw[if_pos hle]at HD
    go_wp2_with fail
    all_goals exact⟨⟨j+1,_,by omega,by go_num,rfl,by unfold Hid;rw[HD.out]<;>congr 1<;>omega⟩,by simp[intOf];omega⟩
   ·rw[if_neg hle]at HD
    go_wp2_with fail
    all_goals exact⟨⟨j+1,_,by omega,by go_num,rfl,HD⟩,by simp[intOf];omega⟩
  ·have E:Hid (cd steps n=st):=by
    unfold Hid;rw[hq.out,List.drop_of_length_le (by omega)];rfl
   go_wp2_with fail;go_returns;exact⟨cX E.symm,by go_grown⟩
theorem AK(g off cap:Nat)(steps:List Int)(n:Int)(w:Wd)(hg:g<w.heap.size)(hl:(steps.length:Int)<=1000000)(hc:∀i x,steps[i]?=some x->w.cell? ⟨g,off+i,none⟩=some (.int .i16 x)) :
  Calls prog 329 #[.agg #[.slice (some ⟨g,off,none⟩) steps.length cap],.int .i16 n] w fun e w'=>e=.returned (.int .i16 (br steps n))/\Below w.heap.size w w':=by
 have NG:Hid (∀i x,steps[i]?=some x->(w.alloc (.cells #[.slice (some ⟨g,off,none⟩) steps.length cap] 133)).cell? ⟨g,off+i,none⟩=some (.int .i16 x)):=fun i x h=>by rw[(below_alloc1 w _).cell (p:=⟨g,off+i,none⟩) hg];exact hc i x h
 clear hc hg;go_enter func329,ntmps329;go_wp2_with fail
 go_loop [5,11] (fun v5 v11=>∃(j:Nat) (st:Int),j<=steps.length/\v11=.int .i64 j/\v5=.int .i16 st/\Hid (br steps n=(steps.drop j).foldl (fun st s=>if n<=s then min st s else st) st)) (fun _ v11=>steps.length - (intOf v11).toNat)
 case atStart=>exact⟨0,32767,Nat.zero_le _,rfl,rfl,rfl⟩
 case round =>
  obtain⟨j,st,hj,rfl,rfl,hq⟩:=hrel;by_cases dW:j<steps.length
  ·obtain⟨x,hx⟩:∃x,steps[j]?=some x:=⟨_,List.getElem?_eq_getElem dW⟩
   have hcx:=NG.out j x hx;have hd:steps.drop j=x :: steps.drop (j+1):=by rw[List.drop_eq_getElem_cons dW,(List.getElem?_eq_some_iff.1 hx).2]
   have HD:Hid (br steps n=(steps.drop (j+1)).foldl (fun st s=>if n<=s then min st s else st) (if n<=x then min st x else st)):=by unfold Hid;rw[hq.out,hd];rfl
   clear hd hx;by_cases hle:n<=x
   ·rw[if_pos hle]at HD
    go_wp2_with fail
    all_goals exact⟨⟨j+1,_,by omega,by go_num,rfl,by unfold Hid;rw[HD.out]<;>congr 1<;>omega⟩,by simp[intOf];omega⟩
   ·rw[if_neg hle]at HD
    go_wp2_with fail
    all_goals exact⟨⟨j+1,_,by omega,by go_num,rfl,HD⟩,by simp[intOf];omega⟩
  ·have E:Hid (br steps n=st):=by
    unfold Hid;rw[hq.out,List.drop_of_length_le (by omega)];rfl
   go_wp2_with fail;go_returns;exact⟨cX E.symm,by go_grown⟩
def o0(w:Wd)(v:Value)(steps:List Int):Prop:=∃g off cap,v=.slice (some ⟨g,off,none⟩) steps.length cap/\g<w.heap.size/\(steps.length:Int)<=1000000/\∀i x,steps[i]?=some x->w.cell? ⟨g,off+i,none⟩=some (.int .i16 x)
theorem o0.below(h:o0 w v steps)(b:Below w.heap.size w w'):o0 w' v steps:=by obtain⟨g,off,cap,rfl,hg,hl,hc⟩:=h;exact⟨g,off,cap,rfl,Nat.lt_of_lt_of_le hg b.size,hl,fun i x hx=>by rw[b.cell (p:=⟨g,off+i,none⟩) hg];exact hc i x hx⟩
structure gG(w:Wd)(v:Value)(p q c d:Int)(W:Wd):Prop where
 o:W.heap[w.heap.size]?=some (.cells #[v] 133)
 x:W.heap[w.heap.size+1]?=some (.cells #[.int .i16 p,.int .i16 q] 131)
 y:W.heap[w.heap.size+1+1]?=some (.cells #[.int .i16 c,.int .i16 d] 131)
 z:W.heap[w.heap.size+1+1+1]?=some (.cells #[.int .i16 0,.int .i16 0] 131)
 b:Below w.heap.size w W
theorem gG.call(h:gG w v p q c d W)(k:Below W.heap.size W W'):gG w v p q c d W' :=
 ⟨(k.block _ (ah h.o)).trans h.o,(k.block _ (ah h.x)).trans h.x,(k.block _ (ah h.y)).trans h.y,(k.block _ (ah h.z)).trans h.z,h.b.trans (k.mono h.b.size)⟩
theorem gG.UJ(h:gG w v p q c d W)(u:Int):gG w v u q c d (W.setCell ⟨w.heap.size+1,0,none⟩ (.int .i16 u)) :=
 ⟨by rw[Below.heap_setCell _ _ _ _ (by show w.heap.size≠w.heap.size+1;omega)];exact h.o,by rw[ai h.x 0 (.int .i16 u)];rfl,by rw[Below.heap_setCell _ _ _ _ (by show w.heap.size+1+1≠w.heap.size+1;omega)];exact h.y,by rw[Below.heap_setCell _ _ _ _ (by show w.heap.size+1+1+1≠w.heap.size+1;omega)];exact h.z,h.b.setCell (p:=⟨w.heap.size+1,0,none⟩) (Nat.le_succ _) _⟩
theorem gG.U7(h:gG w v p q c d W)(u:Int):gG w v p u c d (W.setCell ⟨w.heap.size+1,1,none⟩ (.int .i16 u)) :=
 ⟨by rw[Below.heap_setCell _ _ _ _ (by show w.heap.size≠w.heap.size+1;omega)];exact h.o,by rw[ai h.x 1 (.int .i16 u)];rfl,by rw[Below.heap_setCell _ _ _ _ (by show w.heap.size+1+1≠w.heap.size+1;omega)];exact h.y,by rw[Below.heap_setCell _ _ _ _ (by show w.heap.size+1+1+1≠w.heap.size+1;omega)];exact h.z,h.b.setCell (p:=⟨w.heap.size+1,1,none⟩) (Nat.le_succ _) _⟩
theorem gG.res(h:gG w v p q c d W)(u u':Value):((W.setCell ⟨w.heap.size+1+1+1,0,none⟩ u).setCell ⟨w.heap.size+1+1+1,1,none⟩ u').cell? ⟨w.heap.size+1+1+1,0,none⟩=some u/\((W.setCell ⟨w.heap.size+1+1+1,0,none⟩ u).setCell ⟨w.heap.size+1+1+1,1,none⟩ u').cell? ⟨w.heap.size+1+1+1,1,none⟩=some u'/\Below w.heap.size w ((W.setCell ⟨w.heap.size+1+1+1,0,none⟩ u).setCell ⟨w.heap.size+1+1+1,1,none⟩ u') :=
 ⟨((aH h.z).2.2.2.2 u u').1,((aH h.z).2.2.2.2 u u').2,(h.b.setCell (p:=⟨w.heap.size+1+1+1,0,none⟩) (by show w.heap.size<=w.heap.size+1+1+1;omega) _).setCell (p:=⟨w.heap.size+1+1+1,1,none⟩) (by show w.heap.size<=w.heap.size+1+1+1;omega) _⟩
theorem gG.cells(h:gG w v p q c d W):W.cell? ⟨w.heap.size,0,none⟩=some v/\W.cell? ⟨w.heap.size+1,0,none⟩=some (.int .i16 p)/\W.cell? ⟨w.heap.size+1,1,none⟩=some (.int .i16 q)/\W.cell? ⟨w.heap.size+1+1,0,none⟩=some (.int .i16 c)/\W.cell? ⟨w.heap.size+1+1,1,none⟩=some (.int .i16 d)/\W.cell? ⟨w.heap.size+1+1+1,0,none⟩=some (.int .i16 0)/\W.cell? ⟨w.heap.size+1+1+1,1,none⟩=some (.int .i16 0)/\W.frozen? ⟨w.heap.size+1,0,none⟩=false/\W.frozen? ⟨w.heap.size+1,1,none⟩=false/\W.frozen? ⟨w.heap.size+1+1+1,0,none⟩=false/\W.frozen? ⟨w.heap.size+1+1+1,1,none⟩=false :=
 ⟨cell_of h.o 0 rfl,cell_of h.x 0 rfl,cell_of h.x 1 rfl,cell_of h.y 0 rfl,cell_of h.y 1 rfl,cell_of h.z 0 rfl,cell_of h.z 1 rfl,aw h.x 0,aw h.x 1,aw h.z 0,aw h.z 1⟩
theorem Bz(v:Value)(steps:List Int)(n:Int)(w:Wd)(h:o0 w v steps) :
  Calls prog 336 #[.agg #[v],.int .i16 n] w (fun e w'=>e=.returned (.int .i16 (cd steps n))/\Below w.heap.size w w') /\
  Calls prog 329 #[.agg #[v],.int .i16 n] w (fun e w'=>e=.returned (.int .i16 (br steps n))/\Below w.heap.size w w'):=by
 obtain⟨g,off,cap,rfl,hg,hl,hc⟩:=h;exact⟨AU g off cap steps n w hg hl hc,AK g off cap steps n w hg hl hc⟩
theorem MS(v:Value)(steps:List Int)(a b c d:Int)(w:Wd)(hS:o0 w v steps) :
  Calls prog 327 #[.agg #[v],.agg #[.int .i16 a,.int .i16 b],.agg #[.int .i16 c,.int .i16 d]] w fun e w'=>e=.returned (.agg #[.int .i16 (if c<a then cd steps c else a),.int .i16 (if b<d then br steps d else b)])/\Below w.heap.size w w':=by
 have HS:Hid (∀W n,Below w.heap.size w W->_/\_):=fun W n h=>Bz v steps n W (hS.below h)
 clear hS;by_cases h1:c<a
 ·have e1:(if c<a then cd steps c else a)=cd steps c:=if_pos h1
  by_cases h2:b<d
  ·have e2:(if b<d then br steps d else b)=br steps d:=if_pos h2
   rw[e1,e2];have C1:=(HS.out (((((w.alloc (.cells #[v] 133)).alloc (.cells #[.int .i16 a,.int .i16 b] 131)).alloc (.cells #[.int .i16 c,.int .i16 d] 131)).alloc (.cells #[.int .i16 0,.int .i16 0] 131))) c (by go_grown)).1;generalize cd steps c=s1 at *;have FT:Hid (∀W,Below w.heap.size w W->Calls prog 329 #[.agg #[v],.int .i16 d] W (fun e w'=>e=.returned (.int .i16 (br steps d))/\Below W.heap.size W w')):=fun W h=>(HS.out W d h).2
   clear HS e1 e2;generalize br steps d=s2 at *;go_enter func327,ntmps327;go_wp2_with fail;refine C1.mono ?_;rintro e w1⟨rfl,b1⟩;obtain⟨k1,k2,k3,k4,k5⟩:=bM b1;have A0:Hid (gG w v a b c d w1):=⟨k1,k2,k3,k4,k5⟩;obtain⟨q0,q1,q2,q3,q4,q5,q6,q7,q8,q9,XV⟩:=A0.cells;have A1:Hid (gG w v s1 b c d (w1.setCell ⟨w.heap.size+1,0,none⟩ (.int .i16 s1))):=A0.UJ s1;obtain⟨r0,r1,r2,r3,r4,r5,r6,r7,r8,r9,XT⟩:=A1.cells;clear k1 k2 k3 k4 k5 b1 C1;go_wp2_with fail;refine(FT.out _ A1.b).mono ?_;rintro e w2⟨rfl,b2⟩;have A2:Hid (gG w v s1 b c d w2):=A1.call b2;have A3:Hid (gG w v s1 s2 c d (w2.setCell ⟨w.heap.size+1,1,none⟩ (.int .i16 s2))):=A2.U7 s2;clear q0 q1 q2 q3 q4 q5 q6 q7 q8 q9 XV r0 r1 r2 r3 r4 r5 r6 r7 r8 r9 XT b2;obtain⟨q0,q1,q2,q3,q4,q5,q6,q7,q8,q9,XV⟩:=A2.cells;obtain⟨r0,r1,r2,r3,r4,r5,r6,r7,r8,r9,XT⟩:=A3.cells;have R:=hid (A3.res (.int .i16 s1) (.int .i16 s2));go_wp2_with fail;exact bodyPost_ret (v:=.agg #[.int .i16 s1,.int .i16 s2]) (by simp[results,results327,go_sem,R.1,R.2.1]) rfl ⟨rfl,R.2.2⟩
  ·have e2:(if b<d then br steps d else b)=b:=if_neg h2
   rw[e1,e2];have C1:=(HS.out (((((w.alloc (.cells #[v] 133)).alloc (.cells #[.int .i16 a,.int .i16 b] 131)).alloc (.cells #[.int .i16 c,.int .i16 d] 131)).alloc (.cells #[.int .i16 0,.int .i16 0] 131))) c (by go_grown)).1;generalize cd steps c=s1 at *;clear HS e1 e2;go_enter func327,ntmps327;go_wp2_with fail;refine C1.mono ?_;rintro e w1⟨rfl,b1⟩;obtain⟨k1,k2,k3,k4,k5⟩:=bM b1;have A0:Hid (gG w v a b c d w1):=⟨k1,k2,k3,k4,k5⟩;obtain⟨q0,q1,q2,q3,q4,q5,q6,q7,q8,q9,XV⟩:=A0.cells;have A1:Hid (gG w v s1 b c d (w1.setCell ⟨w.heap.size+1,0,none⟩ (.int .i16 s1))):=A0.UJ s1;obtain⟨r0,r1,r2,r3,r4,r5,r6,r7,r8,r9,XT⟩:=A1.cells;have R:=hid (A1.res (.int .i16 s1) (.int .i16 b));clear k1 k2 k3 k4 k5 b1 C1;go_wp2_with fail;exact bodyPost_ret (v:=.agg #[.int .i16 s1,.int .i16 b]) (by simp[results,results327,go_sem,R.1,R.2.1]) rfl ⟨rfl,R.2.2⟩
 ·have e1:(if c<a then cd steps c else a)=a:=if_neg h1
  by_cases h2:b<d
  ·have e2:(if b<d then br steps d else b)=br steps d:=if_pos h2
   rw[e1,e2];have C1:=(HS.out (((((w.alloc (.cells #[v] 133)).alloc (.cells #[.int .i16 a,.int .i16 b] 131)).alloc (.cells #[.int .i16 c,.int .i16 d] 131)).alloc (.cells #[.int .i16 0,.int .i16 0] 131))) d (by go_grown)).2;generalize br steps d=s1 at *;clear HS e1 e2;go_enter func327,ntmps327;go_wp2_with fail;refine C1.mono ?_;rintro e w1⟨rfl,b1⟩;obtain⟨k1,k2,k3,k4,k5⟩:=bM b1;have A0:Hid (gG w v a b c d w1):=⟨k1,k2,k3,k4,k5⟩;obtain⟨q0,q1,q2,q3,q4,q5,q6,q7,q8,q9,XV⟩:=A0.cells;have A1:Hid (gG w v a s1 c d (w1.setCell ⟨w.heap.size+1,1,none⟩ (.int .i16 s1))):=A0.U7 s1;obtain⟨r0,r1,r2,r3,r4,r5,r6,r7,r8,r9,XT⟩:=A1.cells;have R:=hid (A1.res (.int .i16 a) (.int .i16 s1));clear k1 k2 k3 k4 k5 b1 C1;go_wp2_with fail;exact bodyPost_ret (v:=.agg #[.int .i16 a,.int .i16 s1]) (by simp[results,results327,go_sem,R.1,R.2.1]) rfl ⟨rfl,R.2.2⟩
  ·have e2:(if b<d then br steps d else b)=b:=if_neg h2
   rw[e1,e2];clear HS e1 e2;go_enter func327,ntmps327;go_wp2_with fail;go_returns;exact⟨rfl,by go_grown⟩
theorem zZ:(prog.info? 3).map (fun i=>(i.zero,i.size,i.bytes))=some (some (.int .i64 0),1,8):=by kernel_rfl
def ints(zs:List Int):List Value:=zs.map fun z=>.int .i64 z
def mF(base:Nat)(w:Wd)(v:Value)(zs:List Int):Prop:=w.ownsRow base 3 1 v zs.length (ints zs)
theorem mF.form(h:mF base w v zs):∃a c,v=.slice a zs.length c:=by
 rcases h.2 with⟨rfl,hz⟩ | ⟨g,cap,cur,rfl,_⟩
 ·exact⟨none,0,by rw[hz]⟩
 ·exact⟨_,_,rfl⟩
theorem iD{o:Obj}(hb:base<=w.heap.size)(h:mF base w v zs)(jG:w2.ownsRow base 3 1 v' (zs.length+2) (ints zs ++ [.int .i64 x,.int .i64 y]))(hg:(w.alloc o).grownBy w2 v.ownBlock)(b0:Below base w0 w):mF base w2 v' (zs ++ [x,y])/\Below base w0 w2:=by refine⟨?_,b0.grown (ot hg) hb (fun k hk=>(bj h k hk).1)⟩;unfold mF ints at *;rw[List.length_append,List.map_append];exact jG
theorem EL(a b:Int)(w:Wd)(h1:-32768<=a)(h2:a<=b)(h3:b<=32767) :
  Calls prog 341 #[.agg #[.int .i16 a,.int .i16 b]] w fun e w'=>∃v,e=.returned v/\mF w.heap.size w' v (dk ⟨a,b⟩)/\Below w.heap.size w w':=by
 obtain⟨i64,uk,uo,um,ug⟩:=info_parts zZ;go_enter func341,ntmps341;go_wp2_with fail;refine(ff a b _ h1 (by omega) (by omega) h3).mono ?_;rintro e w1⟨rfl,b1⟩;have BW:Hid (Below w.heap.size w w1):=(jW b1).1;have R0:Hid (mF w.heap.size w1 (.slice none 0 0) []):=World.ownsRow_nil _ _ _ _;have Oe:=BW.size;clear b1;by_cases ha:a<0
 ·by_cases hb:0<b
  ·have E:Hid (dk ⟨a,b⟩=([] ++ [a,min b (-1)]) ++ [max a 1,b]):=by unfold Hid dk;simp[ha,hb]
   go_wp2_with (first
    | (at_builtin;refine wpList_append_own_at _ rfl _ _ 35 rfl w.heap.size 3 i64 (.int .i64 0) 1 8 underlying35 uk uo um ug rfl (by decide) _ _ _ rfl (R0.alloc _) ⟨w1.heap.size,0,none⟩ 2 2 [.int .i64 a,.int .i64 (min b (-1))] rfl rfl (World.news_of_block (cs:=#[.int .i64 a,.int .i64 (min b (-1))]) (t:=3) (fr:=(0,0)) (heap_alloc_new _ _)) ?q1 ?q2 ?q3 ?q4 ?_))
   case q1=>intro u hu;simp at hu;rcases hu with rfl | rfl<;>rfl
   case q2=>unfold maxLen;simp
   case q3=>simp
   case q4=>simp;omega
   intro v2 w2 gj dX _ _;obtain⟨r2,b2⟩:=iD Oe R0.out gj dX BW.out;obtain⟨a2,c2,rfl⟩:=r2.form;have R2:=hid r2;have B2:=hid b2;have Zg:=b2.size;clear gj dX r2 b2;go_wp2_with (first
    | (at_builtin;refine wpList_append_own_at _ rfl _ _ 35 rfl w.heap.size 3 i64 (.int .i64 0) 1 8 underlying35 uk uo um ug rfl (by decide) _ _ _ rfl (R2.alloc _) ⟨w2.heap.size,0,none⟩ 2 2 [.int .i64 (max a 1),.int .i64 b] rfl rfl (World.news_of_block (cs:=#[.int .i64 (max a 1),.int .i64 b]) (t:=3) (fr:=(0,0)) (heap_alloc_new _ _)) ?q1 ?q2 ?q3 ?q4 ?_))
   case q1=>intro u hu;simp at hu;rcases hu with rfl | rfl<;>rfl
   case q2=>unfold maxLen;simp
   case q3=>simp
   case q4=>simp;omega
   intro v3 w3 ir eM _ _;obtain⟨r3,b3⟩:=iD Zg R2.out ir eM B2.out;obtain⟨a3,c3,rfl⟩:=r3.form;have R3:=hid r3;have B3:=hid b3;clear ir eM r3 b3;go_wp2_with fail;go_returns;exact⟨_,rfl,by rw[E.out];exact R3.out,B3.out⟩
  ·have E:Hid (dk ⟨a,b⟩=[] ++ [a,min b (-1)]):=by unfold Hid dk;simp[ha,hb]
   go_wp2_with (first
    | (at_builtin;refine wpList_append_own_at _ rfl _ _ 35 rfl w.heap.size 3 i64 (.int .i64 0) 1 8 underlying35 uk uo um ug rfl (by decide) _ _ _ rfl (R0.alloc _) ⟨w1.heap.size,0,none⟩ 2 2 [.int .i64 a,.int .i64 (min b (-1))] rfl rfl (World.news_of_block (cs:=#[.int .i64 a,.int .i64 (min b (-1))]) (t:=3) (fr:=(0,0)) (heap_alloc_new _ _)) ?q1 ?q2 ?q3 ?q4 ?_))
   case q1=>intro u hu;simp at hu;rcases hu with rfl | rfl<;>rfl
   case q2=>unfold maxLen;simp
   case q3=>simp
   case q4=>simp;omega
   intro v2 w2 gj dX _ _;obtain⟨r2,b2⟩:=iD Oe R0.out gj dX BW.out;obtain⟨a2,c2,rfl⟩:=r2.form;have R2:=hid r2;have B2:=hid b2;clear gj dX r2 b2;go_wp2_with fail;go_returns;exact⟨_,rfl,by rw[E.out];exact R2.out,B2.out⟩
 ·by_cases hb:0<b
  ·have E:Hid (dk ⟨a,b⟩=[] ++ [max a 1,b]):=by unfold Hid dk;simp[ha,hb]
   go_wp2_with (first
    | (at_builtin;refine wpList_append_own_at _ rfl _ _ 35 rfl w.heap.size 3 i64 (.int .i64 0) 1 8 underlying35 uk uo um ug rfl (by decide) _ _ _ rfl (R0.alloc _) ⟨w1.heap.size,0,none⟩ 2 2 [.int .i64 (max a 1),.int .i64 b] rfl rfl (World.news_of_block (cs:=#[.int .i64 (max a 1),.int .i64 b]) (t:=3) (fr:=(0,0)) (heap_alloc_new _ _)) ?q1 ?q2 ?q3 ?q4 ?_))
   case q1=>intro u hu;simp at hu;rcases hu with rfl | rfl<;>rfl
   case q2=>unfold maxLen;simp
   case q3=>simp
   case q4=>simp;omega
   intro v2 w2 gj dX _ _;obtain⟨r2,b2⟩:=iD Oe R0.out gj dX BW.out;obtain⟨a2,c2,rfl⟩:=r2.form;have R2:=hid r2;have B2:=hid b2;clear gj dX r2 b2;go_wp2_with fail;go_returns;exact⟨_,rfl,by rw[E.out];exact R2.out,B2.out⟩
  ·have E:Hid (dk ⟨a,b⟩=[]):=by unfold Hid dk;simp[ha,hb]
   go_wp2_with fail;go_returns;exact⟨_,rfl,by rw[E.out];exact R0.out,BW.out⟩
theorem Ly(zs:List Int):Lib.minOf (zs.take zs.length)=nP zs:=by
 rw[List.take_length];cases zs with
 | nil=>rfl
 | cons x xs=>show(x :: xs).foldl min x=xs.foldl min x;rw[List.foldl_cons]<;>congr 1<;>omega
theorem Mq(zs:List Int):Lib.maxOf (zs.take zs.length)=nT zs:=by
 rw[List.take_length];cases zs with
 | nil=>rfl
 | cons x xs=>show(x :: xs).foldl max x=xs.foldl max x;rw[List.foldl_cons]<;>congr 1<;>omega
theorem G8(g off cap:Nat)(zs:List Int)(w:Wd)(hg:g<w.heap.size)(hn:0<zs.length)(hbig:zs.length<=1000000)(hc:∀j,j<zs.length->w.cell? ⟨g,off+j,none⟩=some (.int .i64 (zs.getD j 0))) :
  Calls prog 335 #[.slice (some ⟨g,off,none⟩) zs.length cap] w fun e w'=>e=.returned (.agg #[.int .i16 (cu zs).a,.int .i16 (cu zs).b])/\Below w.heap.size w w':=by
 have Gc:nP zs<=nT zs:=by
  obtain⟨x,hx⟩:∃x,x∈zs:=by
   cases zs with
   | nil=>simp at hn
   | cons x xs=>exact⟨x,by simp⟩
  exact Int.le_trans (Gs hx) (Gl hx)
 have Kh:=slices_Min_int g off zs.length cap zs (w.alloc (.cells #[.int .i16 0,.int .i16 0] 131)) hn (Nat.le_refl _) (by omega) (fun j hj=>by rw[(below_alloc1 w _).cell (p:=⟨g,off+j,none⟩) hg];exact hc j hj);have hmax:=slices_Max_int g off zs.length cap zs (w.alloc (.cells #[.int .i16 0,.int .i16 0] 131)) hn (Nat.le_refl _) (by omega) (fun j hj=>by rw[(below_alloc1 w _).cell (p:=⟨g,off+j,none⟩) hg];exact hc j hj);rw[Ly]at Kh;rw[Mq]at hmax;unfold cu;generalize nP zs=p at *;generalize nT zs=q at *;have Kh:Calls prog 339 #[.slice (some ⟨g,off,none⟩) zs.length cap] (w.alloc (.cells #[.int .i16 0,.int .i16 0] 131)) fun e w'=>e=.returned (.int .i64 p)/\w'=w.alloc (.cells #[.int .i16 0,.int .i16 0] 131):=Kh
 have hmax:Calls prog 340 #[.slice (some ⟨g,off,none⟩) zs.length cap] (w.alloc (.cells #[.int .i16 0,.int .i16 0] 131)) fun e w'=>e=.returned (.int .i64 q)/\w'=w.alloc (.cells #[.int .i16 0,.int .i16 0] 131):=hmax
 generalize zs.length=m at *;clear hc hn hbig hg;by_cases h1:p < -32768
 ·have E:Hid (cJ p q=⟨-32768,32767⟩):=by unfold Hid cJ;rw[if_pos (.inl h1)];rfl
  go_enter func335,ntmps335;go_wp2_with fail;refine Kh.mono ?_;rintro e w1⟨rfl,rfl⟩;go_wp2_with fail;refine hmax.mono ?_;rintro e w1⟨rfl,rfl⟩;go_wp2_with fail;go_returns;exact⟨by rw[E.out],by go_grown⟩
 ·by_cases h2:32767<q
  ·have E:Hid (cJ p q=⟨-32768,32767⟩):=by unfold Hid cJ;rw[if_pos (.inr h2)];rfl
   have nM:decide (p < -32768)=false:=by simpa using h1
   go_enter func335,ntmps335;go_wp2_with fail;refine Kh.mono ?_;rintro e w1⟨rfl,rfl⟩;go_wp2_with fail;refine hmax.mono ?_;rintro e w1⟨rfl,rfl⟩;go_wp2_with fail;go_returns;exact⟨by rw[E.out],by go_grown⟩
  ·have E:Hid (cJ p q=⟨p,q⟩):=by unfold Hid cJ;rw[if_neg (by omega)]
   have nM:decide (p < -32768)=false:=by simpa using h1
   have Hj:decide (32767<q)=false:=by simpa using h2
   go_enter func335,ntmps335;go_wp2_with fail;refine Kh.mono ?_;rintro e w1⟨rfl,rfl⟩;go_wp2_with fail;refine hmax.mono ?_;rintro e w1⟨rfl,rfl⟩;go_wp2_with fail;go_returns;exact⟨by rw[E.out],by go_grown⟩
theorem mF.cell(h:mF base w v zs)(db:zs≠[]):∃g c,v=.slice (some ⟨g,0,none⟩) zs.length c/\base<=g/\g<w.heap.size/\∀j z,zs[j]?=some z->w.cell? ⟨g,j,none⟩=some (.int .i64 z):=by
 have Uv:=h.1
 rcases h.2 with⟨_,hz⟩ | ⟨g,cap,cur,rfl,WH,hh,hnc,VO,Uc,Nx⟩
 ·exact absurd (List.eq_nil_of_length_eq_zero hz) db
 ·refine⟨g,cap,rfl,WH,ah hh,fun j z hz=>?_⟩
  refine cell_of hh j ?_;have h2:j<zs.length:=(List.getElem?_eq_some_iff.1 hz).1;have h3:cur.toList[j]?=(ints zs)[j]?:=by rw[<-Nx,List.getElem?_take,if_pos (by omega)]
  rw[<-Array.getElem?_toList,h3];unfold ints;rw[List.getElem?_map,hz];rfl
theorem mQ(h1:-32768<=a)(h2:a<=32767):-32768<=a.tdiv q/\a.tdiv q<=32768:=by
 have h:(a.tdiv q).natAbs<=a.natAbs:=by rw[Int.natAbs_tdiv];exact Nat.div_le_self _ _
 omega
theorem vw(hq:q∈dk ⟨a,b⟩):q≠0:=by
 unfold dk at hq;simp only[List.mem_append]at hq
 rcases hq with hq | hq
 ·split at hq
  ·simp at hq;omega
  ·simp at hq
 ·split at hq
  ·simp at hq;omega
  ·simp at hq
def ee(a b:Int)(zs:List Int):List Int:=zs.flatMap fun q=>[a.tdiv q,b.tdiv q]
theorem lG(a b:Int)(zs:List Int):(ee a b zs).length=2*zs.length:=by
 induction zs with
 | nil=>rfl
 | cons x xs ih =>unfold ee at *;rw[List.flatMap_cons,List.length_append,ih];simp;omega
theorem I3(a b c d:Int)(w:Wd)(h1:-32768<=a)(h2:a<=b)(h3:b<=32767)(h4:-32768<=c)(h5:c<=d)(h6:d<=32767) :
  Calls prog 337 #[.agg #[.int .i16 a,.int .i16 b],.agg #[.int .i16 c,.int .i16 d]] w fun e w'=>e=.returned (dN (dO ⟨a,b⟩ ⟨c,d⟩))/\Below w.heap.size w w':=by
 obtain⟨i64,uk,uo,um,ug⟩:=info_parts zZ;go_enter func337,ntmps337;go_wp2_with fail;refine(ff a b _ h1 (by omega) (by omega) h3).mono ?_;rintro e w1⟨rfl,b1⟩;obtain⟨hx,hy,hz,bw⟩:=bY b1;obtain⟨y0,y1,nA,nB,yq⟩:=aH hy;have HZ:=hid hz;have BW:=hid bw;clear b1 hz bw hy hx nA nB yq;go_wp2_with fail;refine(EL c d _ h4 h5 h6).mono ?_;rintro e w2⟨v,rfl,r2,b2⟩;have ek:w2.heap[w.heap.size+1+1]?=_:=(b2.block _ (ah HZ.out)).trans HZ.out;have jt:=hid ek;have B2:Hid (Below w.heap.size w w2):=BW.trans (b2.mono BW.size);have HNE:Hid (∀q∈dk ⟨c,d⟩,q≠0):=fun q hq=>vw hq
 have TW:Hid ((dk ⟨c,d⟩).length<=4):=by unfold Hid dk;rw[List.length_append];split<;>split<;>simp
 have EQ:Hid (dO ⟨a,b⟩ ⟨c,d⟩=if dk ⟨c,d⟩=[] then none else some (cu (ee a b (dk ⟨c,d⟩)))):=rfl;generalize dk ⟨c,d⟩=zs at *;obtain⟨av,cv,rfl⟩:=r2.form;have R2:=hid r2;clear ek b2 y0 y1 r2;have hlen:(zs.length:Int)<=4:=by have:=TW.out;omega
 go_wp2_with fail
 go_loopw [8,19] (fun v8 v19 wr=>∃j:Nat,j<=zs.length/\v19=.int .i64 j/\Hid (mF w2.heap.size wr v8 (ee a b (zs.take j))/\Below w2.heap.size w2 wr)) (fun _ v19 _=>zs.length - (intOf v19).toNat)
 case atStart=>exact⟨0,Nat.zero_le _,rfl,World.ownsRow_nil _ _ _ _,Below.refl _ _⟩
 case round =>
  obtain⟨j,hj,rfl,hq⟩:=hrel;obtain⟨aq,cq,rfl⟩:=hq.1.form;by_cases dW:j<zs.length
  ·obtain⟨z,hz⟩:∃z,zs[j]?=some z:=⟨_,List.getElem?_eq_getElem dW⟩
   have db:zs≠[]:=by intro e;subst e;simp at dW
   obtain⟨g,cv',hv,xA,hg,gJ⟩:=R2.cell db;injection hv with e1 e2 e3
   subst e1;have NA:wr.cell? ⟨g,j,none⟩=some (.int .i64 z):=by rw[hq.2.cell (p:=⟨g,j,none⟩) hg];exact gJ j z hz
   have Hq:z≠0:=HNE.out z (List.mem_of_getElem? hz);have Oe:=hq.2.size;have AY:Hid (ee a b (zs.take (j+1))=ee a b (zs.take j) ++ [a.tdiv z,b.tdiv z]):=by have hk:=List.getElem?_eq_some_iff.1 hz;unfold Hid ee;rw[List.take_succ_eq_append_getElem hk.1,hk.2,List.flatMap_append];simp
   obtain⟨ta1,ta2⟩:=mQ (q:=z) h1 (by omega:a<=32767);obtain⟨tb1,tb2⟩:=mQ (a:=b) (q:=z) (by omega) h3;clear hz gJ e2 e3;have rV:IntKind.i64.wrap (a.tdiv z)=a.tdiv z:=by rw[IntWalk.i64_in]<;>omega
   have Wp:IntKind.i64.wrap (b.tdiv z)=b.tdiv z:=by rw[IntWalk.i64_in]<;>omega
   have WO:(ee a b (zs.take j)).length<=100:=by
    have h1:=TW.out;have h2:(zs.take j).length<=4:=by rw[List.length_take];omega
    rw[lG];omega
   have hn:(ee a b (zs.take j)).length+2<=maxLen:=by unfold maxLen;omega
   have Ud:((ee a b (zs.take j)).length+2)*8<=140737488355328:=by omega
   have eN:=hq.1;go_wp2_with (fail)
   go_region_law
    ((refine step_append_lies _ (by rfl) _ _ _ (by rfl) w2.heap.size 3 i64 (.int .i64 0) 1 8 underlying35 uk uo um ug rfl (by omega) (.slice aq (ee a b (zs.take j)).length cq) (ee a b (zs.take j)).length (ints (ee a b (zs.take j))) (by rfl) ((eN.alloc _).drew)
       ⟨wr.heap.size,0,none⟩ 2 2 [.int .i64 (a.tdiv z),.int .i64 (b.tdiv z)] (by rfl) (by rfl) (World.news_of_block (cs:=#[.int .i64 (a.tdiv z),.int .i64 (b.tdiv z)]) (t:=3) (fr:=(0,0)) (heap_alloc_new wr _)) (by simp[Value.oneCell'])
       (by omega) hn Ud (by simp;omega) (wr.heap.size+1) (by simp) ?_;intro gg cap w3 ir eM S5 Th))
   all_goals
    have HQ:Hid (mF w2.heap.size w3 (.slice (some ⟨gg,0,none⟩) ((ee a b (zs.take j)).length+2) cap) (ee a b (zs.take (j+1)))/\Below w2.heap.size w2 w3):=by unfold Hid;rw[AY.out];exact iD (o:=.cells #[.int .i64 (a.tdiv z),.int .i64 (b.tdiv z)] 3) Oe eN ir ⟨eM.os,eM.tape,eM.output,eM.size,eM.block⟩ hq.2
    clear ir eM S5 Th eN rV Wp hn Ud WO;go_wp2_with (fail);exact⟨⟨j+1,by omega,by go_num,HQ⟩,by simp[intOf];omega⟩
  ·have ej:zs.take j=zs:=List.take_of_length_le (by omega)
   have js:wr.heap[w.heap.size+1+1]?=_:=(hq.2.block _ (ah jt.out)).trans jt.out;have Kv:=hid js;have B3:Hid (Below w.heap.size w wr):=B2.trans (hq.2.mono B2.size);have eN:mF w2.heap.size wr (.slice aq (ee a b (zs.take j)).length cq) (ee a b (zs.take j)):=hq.1;rw[ej]at eN ⊢;have WO:(ee a b zs).length<=100:=by have h1:=TW.out;rw[lG];omega
   obtain⟨m0,m1,kh,kj,mq⟩:=aH js;by_cases db:zs=[]
   ·subst db
    have E:Hid (dO ⟨a,b⟩ ⟨c,d⟩=none):=by unfold Hid;rw[EQ.out,if_pos rfl]
    have MQ:=hid (mq (.int .i16 0) (.int .i16 0));clear mq eN js hq;have e0:(ee a b []).length=0:=rfl;rw[e0];go_wp2_with fail;exact bodyPost_ret (v:=.tuple #[.agg #[.int .i16 0,.int .i16 0],.bool false]) (by simp[results,results337,go_sem,MQ.1,MQ.2]) rfl ⟨dn E.out,(B3.setCell (p:=⟨w.heap.size+1+1,0,none⟩) (by show w.heap.size<=w.heap.size+1+1;omega) _).setCell (p:=⟨w.heap.size+1+1,1,none⟩) (by show w.heap.size<=w.heap.size+1+1;omega) _⟩
   ·have E:Hid (dO ⟨a,b⟩ ⟨c,d⟩=some (cu (ee a b zs))):=by unfold Hid;rw[EQ.out,if_neg db]
    have NO:ee a b zs≠[]:=by
     intro e;have h1:=lG a b zs;rw[e]at h1;have h2:zs.length=0:=by simp at h1;omega
     exact db (List.eq_nil_of_length_eq_zero h2)
    obtain⟨g,cc,hv,xA,hg,gJ⟩:=eN.cell NO;injection hv with e1 e2 e3
    subst e1;subst e3;have TI:0<(ee a b zs).length:=List.length_pos_iff.2 NO;have HH:Hid (Calls _ _ _ _ _):=G8 g 0 cq (ee a b zs) wr hg TI (by omega) (fun i hi=>by rw[Nat.zero_add];refine gJ i _ ?_;rw[List.getD_eq_getElem?_getD,List.getElem?_eq_getElem hi];rfl)
    generalize cu (ee a b zs)=hvv at *;generalize (ee a b zs).length=m at *;have hm0:¬ ((m:Int)=0):=by omega
    have uQ:((m:Int) == 0)=false:=by simpa using hm0
    clear mq eN js hq gJ;go_wp2_with fail;refine HH.mono ?_;rintro e w4⟨rfl,b4⟩;have od:w4.heap[w.heap.size+1+1]?=_:=(b4.block _ (ah Kv.out)).trans Kv.out;obtain⟨m0,m1,kh,kj,mq⟩:=aH od;have MQ:=hid (mq (.int .i16 hvv.a) (.int .i16 hvv.b));have B4:Hid (Below w.heap.size w w4):=B3.trans (b4.mono B3.size);clear mq b4 od;go_wp2_with fail;exact bodyPost_ret (v:=.tuple #[.agg #[.int .i16 hvv.a,.int .i16 hvv.b],.bool true]) (by simp[results,results337,go_sem,MQ.1,MQ.2]) rfl ⟨cI E.out,(B4.setCell (p:=⟨w.heap.size+1+1,0,none⟩) (by show w.heap.size<=w.heap.size+1+1;omega) _).setCell (p:=⟨w.heap.size+1+1,1,none⟩) (by show w.heap.size<=w.heap.size+1+1;omega) _⟩
theorem qX(h:a<=b):cu [a,b]=cJ a b:=by unfold cu nP nT;simp only[List.foldl_cons,List.foldl_nil];rw[Int.min_eq_left h,Int.max_eq_right h]
theorem Dd(zs:List Int)(cap:Nat)(w:Wd)(t:TypeId)(hn:0<zs.length)(hbig:zs.length<=1000000) :
  Calls prog 335 #[.slice (some ⟨w.heap.size,0,none⟩) zs.length cap] (w.alloc (.cells (zs.map (fun z=>Value.int .i64 z)).toArray t)) fun e w'=>e=.returned (.agg #[.int .i16 (cu zs).a,.int .i16 (cu zs).b])/\Below w.heap.size w w':=by
 refine(G8 w.heap.size 0 cap zs _ (by simp) hn hbig (fun j hj=>?_)).mono ?_
 ·refine cell_of (heap_alloc_new _ _) _ ?_
  simp[hj]
 ·rintro e w'⟨rfl,b⟩
  exact⟨rfl,(below_alloc1 w _).trans (b.mono (by simp))⟩
theorem pj(x y:Int)(w:Wd)(t:TypeId) :
  Calls prog 335 #[.slice (some ⟨w.heap.size,0,none⟩) 2 2] (w.alloc (.cells #[.int .i64 x,.int .i64 y] t)) fun e w'=>e=.returned (.agg #[.int .i16 (cu [x,y]).a,.int .i16 (cu [x,y]).b])/\Below w.heap.size w w':=Dd [x,y] 2 w t (by simp) (by simp)
theorem IK(x y z u:Int)(w:Wd)(t:TypeId) :
  Calls prog 335 #[.slice (some ⟨w.heap.size,0,none⟩) 4 4] (w.alloc (.cells #[.int .i64 x,.int .i64 y,.int .i64 z,.int .i64 u] t)) fun e w'=>e=.returned (.agg #[.int .i16 (cu [x,y,z,u]).a,.int .i16 (cu [x,y,z,u]).b])/\Below w.heap.size w w':=Dd [x,y,z,u] 4 w t (by simp) (by simp)
theorem IC(dv:Value)(a b:Int)(w:Wd)(h1:-32768<=a)(h2:a<=b)(h3:b<=32767) :
  Calls prog 323 #[.agg #[dv],.agg #[.int .i16 a,.int .i16 b]] w fun e w'=>e=.returned (.agg #[.int .i16 (cJ (-b) (-a)).a,.int .i16 (cJ (-b) (-a)).b])/\Below w.heap.size w w':=by
 rw[<-qX (show -b<=-a by omega)];have HH:Hid (∀W:Wd,Calls prog 335 #[.slice (some ⟨W.heap.size,0,none⟩) 2 2] (W.alloc (.cells #[.int .i64 (-b),.int .i64 (-a)] 3)) fun e w'=>e=.returned (.agg #[.int .i16 (cu [-b,-a]).a,.int .i16 (cu [-b,-a]).b])/\Below W.heap.size W w'):=fun W=>pj (-b) (-a) W 3
 generalize cu [-b,-a]=hv at *;go_enter func323,ntmps323;go_wp2_with fail;refine(ff a b _ h1 (by omega) (by omega) h3).mono ?_;rintro e w1⟨rfl,b1⟩;obtain⟨_,_,hz,bw⟩:=bY b1;have HZ:=hid hz;have BW:=hid bw;clear b1 hz bw;go_wp2_with fail;refine(HH.out w1).mono ?_;rintro e w2⟨rfl,b2⟩;have ek:w2.heap[w.heap.size+1+1]?=_:=(b2.block _ (ah HZ.out)).trans HZ.out;obtain⟨m0,m1,kh,kj,mq⟩:=aH ek;have MQ:=hid (mq (.int .i16 hv.a) (.int .i16 hv.b));have B2:Hid (Below w.heap.size w w2):=BW.trans (b2.mono BW.size);clear mq b2 ek;go_wp2_with fail;exact bodyPost_ret (v:=.agg #[.int .i16 hv.a,.int .i16 hv.b]) (by simp[results,results323,go_sem,MQ.1,MQ.2]) rfl ⟨rfl,(B2.setCell (p:=⟨w.heap.size+1+1,0,none⟩) (by show w.heap.size<=w.heap.size+1+1;omega) _).setCell (p:=⟨w.heap.size+1+1,1,none⟩) (by show w.heap.size<=w.heap.size+1+1;omega) _⟩
theorem zM(a b c d:Int)(w:Wd)(h1:-32768<=a)(h2:a<=b)(h3:b<=32767)(h4:-32768<=c)(h5:c<=d)(h6:d<=32767) :
  Calls prog 338 #[.agg #[.int .i16 a,.int .i16 b],.agg #[.int .i16 c,.int .i16 d]] w fun e w'=>e=.returned (dN (gz ⟨a,b⟩ ⟨c,d⟩))/\Below w.heap.size w w':=by
 go_enter func338,ntmps338;go_wp2_with fail;refine(ff a b _ h1 (by omega) (by omega) h3).mono ?_;rintro e w1⟨rfl,b1⟩;obtain⟨hx,hy,hz,bw⟩:=bY b1;obtain⟨y0,y1,nA,nB,yq⟩:=aH hy;have HZ:=hid hz;have BW:=hid bw;clear b1 hz bw hy hx nA nB yq;go_wp2_with fail;refine(ff c d _ h4 (by omega) (by omega) h6).mono ?_;rintro e w2⟨rfl,b2⟩;have ek:w2.heap[w.heap.size+1+1]?=_:=(b2.block _ (ah HZ.out)).trans HZ.out;have jt:=hid ek;have B2:Hid (Below w.heap.size w w2):=BW.trans (b2.mono BW.size);obtain⟨m0,m1,kh,kj,mq⟩:=aH ek;have MQ0:=hid (mq (.int .i16 0) (.int .i16 0));clear b2 y0 y1 mq ek;by_cases WR:max (-c) d - 1<0
 ·have E:Hid (gz ⟨a,b⟩ ⟨c,d⟩=none):=by unfold Hid gz;rw[if_pos WR]
  go_wp2_with fail;exact bodyPost_ret (v:=.tuple #[.agg #[.int .i16 0,.int .i16 0],.bool false]) (by simp[results,results338,go_sem,MQ0.1,MQ0.2]) rfl ⟨dn E.out,(B2.setCell (p:=⟨w.heap.size+1+1,0,none⟩) (by show w.heap.size<=w.heap.size+1+1;omega) _).setCell (p:=⟨w.heap.size+1+1,1,none⟩) (by show w.heap.size<=w.heap.size+1+1;omega) _⟩
 ·have E:Hid (gz ⟨a,b⟩ ⟨c,d⟩=some (cu [(min (max a (-(max (-c) d - 1))) 0),(max (min b (max (-c) d - 1)) 0)])):=by
   unfold Hid gz;rw[if_neg WR,qX (by omega)]
  have hh:=pj (min (max a (-(max (-c) d - 1))) 0) (max (min b (max (-c) d - 1)) 0) w2 3;generalize hvq:cu [(min (max a (-(max (-c) d - 1))) 0),(max (min b (max (-c) d - 1)) 0)]=hv at *;have EE:=hid E;have HH:=hid hh;clear hh hvq E MQ0;go_wp2_with fail;refine HH.mono ?_;rintro e w3⟨rfl,b3⟩;have js:w3.heap[w.heap.size+1+1]?=_:=(b3.block _ (ah jt.out)).trans jt.out;obtain⟨m0,m1,kh,kj,mq⟩:=aH js;have MQ:=hid (mq (.int .i16 hv.a) (.int .i16 hv.b));have B3:Hid (Below w.heap.size w w3):=B2.trans (b3.mono B2.size);clear mq b3 js;go_wp2_with fail;exact bodyPost_ret (v:=.tuple #[.agg #[.int .i16 hv.a,.int .i16 hv.b],.bool true]) (by simp[results,results338,go_sem,MQ.1,MQ.2]) rfl ⟨cI EE.out,(B3.setCell (p:=⟨w.heap.size+1+1,0,none⟩) (by show w.heap.size<=w.heap.size+1+1;omega) _).setCell (p:=⟨w.heap.size+1+1,1,none⟩) (by show w.heap.size<=w.heap.size+1+1;omega) _⟩
theorem gW(h1:-32768<=a)(h2:a<=32767)(h3:-32768<=c)(h4:c<=32767):-2147483648<=a*c/\a*c<=2147483648:=by
 have h:(a*c).natAbs<=32768*32768:=by rw[Int.natAbs_mul];exact Nat.mul_le_mul (by omega) (by omega)
 omega
theorem KU(dv:Value)(a b c d:Int)(w:Wd)(h1:-32768<=a)(h2:a<=b)(h3:b<=32767)(h4:-32768<=c)(h5:c<=d)(h6:d<=32767) :
  Calls prog 328 #[.agg #[dv],.int .i64 0,.agg #[.int .i16 a,.int .i16 b],.agg #[.int .i16 c,.int .i16 d]] w fun e w'=>e=.returned (dN (cp 0 ⟨a,b⟩ ⟨c,d⟩))/\Below w.heap.size w w':=by
 have E0:Hid (cp 0 ⟨a,b⟩ ⟨c,d⟩=some (cu [(a+c),(b+d)])):=by unfold Hid;rw[qX (by omega)];rfl
 have Q4:Hid (∀W:Wd,Calls prog 335 #[.slice (some ⟨W.heap.size,0,none⟩) 2 2] (W.alloc (.cells #[.int .i64 (a+c),.int .i64 (b+d)] 3)) fun e w'=>e=.returned (.agg #[.int .i16 (cu [(a+c),(b+d)]).a,.int .i16 (cu [(a+c),(b+d)]).b])/\Below W.heap.size W w'):=fun W=>pj (a+c) (b+d) W 3
 generalize cu [(a+c),(b+d)]=hv at *;have E:=hid E0;clear E0;go_enter func328,ntmps328;go_wp2_with fail;refine(ff a b _ h1 (by omega) (by omega) h3).mono ?_;rintro e w1⟨rfl,b1⟩;obtain⟨ho,hx,hy,hz,bw⟩:=bM b1;obtain⟨y0,y1,nA,nB,yq⟩:=aH hy;have HX:Hid (_=_):=hx;have HY:=hid hy;have HZ:=hid hz;have BW:=hid bw;clear b1 hz bw hy hx ho nA nB yq;go_wp2_with fail;refine(ff c d _ h4 (by omega) (by omega) h6).mono ?_;rintro e w2⟨rfl,b2⟩;have ek:w2.heap[w.heap.size+1+1+1]?=_:=(b2.block _ (ah HZ.out)).trans HZ.out;have my:w2.heap[w.heap.size+1]?=_:=(b2.block _ (ah HX.out)).trans HX.out;have uU:w2.heap[w.heap.size+1+1]?=_:=(b2.block _ (ah HY.out)).trans HY.out;have jt:=hid ek;obtain⟨x0,x1,Kq,Kz,xq⟩:=aH my;clear y0 y1;obtain⟨y0,y1,nA,nB,yq⟩:=aH uU;have B2:Hid (Below w.heap.size w w2):=BW.trans (b2.mono BW.size);clear b2 my uU ek Kq Kz nA nB xq yq;have HH:=hid (Q4.out w2);clear Q4;go_wp2_with fail;refine HH.mono ?_;rintro e w3⟨rfl,b3⟩;have js:w3.heap[w.heap.size+1+1+1]?=_:=(b3.block _ (ah jt.out)).trans jt.out;obtain⟨m0,m1,kh,kj,mq⟩:=aH js;have MQ:=hid (mq (.int .i16 hv.a) (.int .i16 hv.b));have B3:Hid (Below w.heap.size w w3):=B2.trans (b3.mono B2.size);clear mq b3 js x0 x1 y0 y1;go_wp2_with fail;exact bodyPost_ret (v:=.tuple #[.agg #[.int .i16 hv.a,.int .i16 hv.b],.bool true]) (by simp[results,results328,go_sem,MQ.1,MQ.2]) rfl ⟨cI E.out,(B3.setCell (p:=⟨w.heap.size+1+1+1,0,none⟩) (by show w.heap.size<=w.heap.size+1+1+1;omega) _).setCell (p:=⟨w.heap.size+1+1+1,1,none⟩) (by show w.heap.size<=w.heap.size+1+1+1;omega) _⟩
theorem Mt(dv:Value)(a b c d:Int)(w:Wd)(h1:-32768<=a)(h2:a<=b)(h3:b<=32767)(h4:-32768<=c)(h5:c<=d)(h6:d<=32767) :
  Calls prog 328 #[.agg #[dv],.int .i64 1,.agg #[.int .i16 a,.int .i16 b],.agg #[.int .i16 c,.int .i16 d]] w fun e w'=>e=.returned (dN (cp 1 ⟨a,b⟩ ⟨c,d⟩))/\Below w.heap.size w w':=by
 have E0:Hid (cp 1 ⟨a,b⟩ ⟨c,d⟩=some (cu [(a - d),(b - c)])):=by unfold Hid;rw[qX (by omega)];rfl
 have Q4:Hid (∀W:Wd,Calls prog 335 #[.slice (some ⟨W.heap.size,0,none⟩) 2 2] (W.alloc (.cells #[.int .i64 (a - d),.int .i64 (b - c)] 3)) fun e w'=>e=.returned (.agg #[.int .i16 (cu [(a - d),(b - c)]).a,.int .i16 (cu [(a - d),(b - c)]).b])/\Below W.heap.size W w'):=fun W=>pj (a - d) (b - c) W 3
 generalize cu [(a - d),(b - c)]=hv at *;have E:=hid E0;clear E0;go_enter func328,ntmps328;go_wp2_with fail;refine(ff a b _ h1 (by omega) (by omega) h3).mono ?_;rintro e w1⟨rfl,b1⟩;obtain⟨ho,hx,hy,hz,bw⟩:=bM b1;obtain⟨y0,y1,nA,nB,yq⟩:=aH hy;have HX:Hid (_=_):=hx;have HY:=hid hy;have HZ:=hid hz;have BW:=hid bw;clear b1 hz bw hy hx ho nA nB yq;go_wp2_with fail;refine(ff c d _ h4 (by omega) (by omega) h6).mono ?_;rintro e w2⟨rfl,b2⟩;have ek:w2.heap[w.heap.size+1+1+1]?=_:=(b2.block _ (ah HZ.out)).trans HZ.out;have my:w2.heap[w.heap.size+1]?=_:=(b2.block _ (ah HX.out)).trans HX.out;have uU:w2.heap[w.heap.size+1+1]?=_:=(b2.block _ (ah HY.out)).trans HY.out;have jt:=hid ek;obtain⟨x0,x1,Kq,Kz,xq⟩:=aH my;clear y0 y1;obtain⟨y0,y1,nA,nB,yq⟩:=aH uU;have B2:Hid (Below w.heap.size w w2):=BW.trans (b2.mono BW.size);clear b2 my uU ek Kq Kz nA nB xq yq;have HH:=hid (Q4.out w2);clear Q4;go_wp2_with fail;refine HH.mono ?_;rintro e w3⟨rfl,b3⟩;have js:w3.heap[w.heap.size+1+1+1]?=_:=(b3.block _ (ah jt.out)).trans jt.out;obtain⟨m0,m1,kh,kj,mq⟩:=aH js;have MQ:=hid (mq (.int .i16 hv.a) (.int .i16 hv.b));have B3:Hid (Below w.heap.size w w3):=B2.trans (b3.mono B2.size);clear mq b3 js x0 x1 y0 y1;go_wp2_with fail;exact bodyPost_ret (v:=.tuple #[.agg #[.int .i16 hv.a,.int .i16 hv.b],.bool true]) (by simp[results,results328,go_sem,MQ.1,MQ.2]) rfl ⟨cI E.out,(B3.setCell (p:=⟨w.heap.size+1+1+1,0,none⟩) (by show w.heap.size<=w.heap.size+1+1+1;omega) _).setCell (p:=⟨w.heap.size+1+1+1,1,none⟩) (by show w.heap.size<=w.heap.size+1+1+1;omega) _⟩
theorem LL(dv:Value)(a b c d:Int)(w:Wd)(h1:-32768<=a)(h2:a<=b)(h3:b<=32767)(h4:-32768<=c)(h5:c<=d)(h6:d<=32767) :
  Calls prog 328 #[.agg #[dv],.int .i64 2,.agg #[.int .i16 a,.int .i16 b],.agg #[.int .i16 c,.int .i16 d]] w fun e w'=>e=.returned (dN (cp 2 ⟨a,b⟩ ⟨c,d⟩))/\Below w.heap.size w w':=by
 have E0:Hid (cp 2 ⟨a,b⟩ ⟨c,d⟩=some (cu [(a*c),(a*d),(b*c),(b*d)])):=rfl;have Q4:Hid (∀W:Wd,Calls prog 335 #[.slice (some ⟨W.heap.size,0,none⟩) 4 4] (W.alloc (.cells #[.int .i64 (a*c),.int .i64 (a*d),.int .i64 (b*c),.int .i64 (b*d)] 3)) fun e w'=>e=.returned (.agg #[.int .i16 (cu [(a*c),(a*d),(b*c),(b*d)]).a,.int .i16 (cu [(a*c),(a*d),(b*c),(b*d)]).b])/\Below W.heap.size W w'):=fun W=>IK (a*c) (a*d) (b*c) (b*d) W 3
 generalize cu [(a*c),(a*d),(b*c),(b*d)]=hv at *;have E:=hid E0;clear E0;obtain⟨p1,p2⟩:=gW h1 (by omega:a<=32767) h4 (by omega:c<=32767);obtain⟨p3,p4⟩:=gW h1 (by omega:a<=32767) (by omega:-32768<=d) h6;obtain⟨p5,p6⟩:=gW (by omega:-32768<=b) h3 h4 (by omega:c<=32767);obtain⟨p7,p8⟩:=gW (by omega:-32768<=b) h3 (by omega:-32768<=d) h6;go_enter func328,ntmps328;go_wp2_with fail;refine(ff a b _ h1 (by omega) (by omega) h3).mono ?_;rintro e w1⟨rfl,b1⟩;obtain⟨ho,hx,hy,hz,bw⟩:=bM b1;obtain⟨y0,y1,nA,nB,yq⟩:=aH hy;have HX:Hid (_=_):=hx;have HY:=hid hy;have HZ:=hid hz;have BW:=hid bw;clear b1 hz bw hy hx ho nA nB yq;go_wp2_with fail;refine(ff c d _ h4 (by omega) (by omega) h6).mono ?_;rintro e w2⟨rfl,b2⟩;have ek:w2.heap[w.heap.size+1+1+1]?=_:=(b2.block _ (ah HZ.out)).trans HZ.out;have my:w2.heap[w.heap.size+1]?=_:=(b2.block _ (ah HX.out)).trans HX.out;have uU:w2.heap[w.heap.size+1+1]?=_:=(b2.block _ (ah HY.out)).trans HY.out;have jt:=hid ek;obtain⟨x0,x1,Kq,Kz,xq⟩:=aH my;clear y0 y1;obtain⟨y0,y1,nA,nB,yq⟩:=aH uU;have B2:Hid (Below w.heap.size w w2):=BW.trans (b2.mono BW.size);clear b2 my uU ek Kq Kz nA nB xq yq;have HH:=hid (Q4.out w2);clear Q4;go_wp2_with fail;refine HH.mono ?_;rintro e w3⟨rfl,b3⟩;have js:w3.heap[w.heap.size+1+1+1]?=_:=(b3.block _ (ah jt.out)).trans jt.out;obtain⟨m0,m1,kh,kj,mq⟩:=aH js;have MQ:=hid (mq (.int .i16 hv.a) (.int .i16 hv.b));have B3:Hid (Below w.heap.size w w3):=B2.trans (b3.mono B2.size);clear mq b3 js x0 x1 y0 y1;go_wp2_with fail;exact bodyPost_ret (v:=.tuple #[.agg #[.int .i16 hv.a,.int .i16 hv.b],.bool true]) (by simp[results,results328,go_sem,MQ.1,MQ.2]) rfl ⟨cI E.out,(B3.setCell (p:=⟨w.heap.size+1+1+1,0,none⟩) (by show w.heap.size<=w.heap.size+1+1+1;omega) _).setCell (p:=⟨w.heap.size+1+1+1,1,none⟩) (by show w.heap.size<=w.heap.size+1+1+1;omega) _⟩
theorem MX(dv:Value)(a b c d:Int)(w:Wd)(h1:-32768<=a)(h2:a<=b)(h3:b<=32767)(h4:-32768<=c)(h5:c<=d)(h6:d<=32767) :
  Calls prog 328 #[.agg #[dv],.int .i64 3,.agg #[.int .i16 a,.int .i16 b],.agg #[.int .i16 c,.int .i16 d]] w fun e w'=>e=.returned (dN (cp 3 ⟨a,b⟩ ⟨c,d⟩))/\Below w.heap.size w w':=by
 have E:Hid (cp 3 ⟨a,b⟩ ⟨c,d⟩=dO ⟨a,b⟩ ⟨c,d⟩):=rfl;go_enter func328,ntmps328;go_wp2_with fail;refine(ff a b _ h1 (by omega) (by omega) h3).mono ?_;rintro e w1⟨rfl,b1⟩;obtain⟨ho,hx,hy,hz,bw⟩:=bM b1;obtain⟨y0,y1,nA,nB,yq⟩:=aH hy;have HX:Hid (_=_):=hx;have HY:=hid hy;have HZ:=hid hz;have BW:=hid bw;clear b1 hz bw hy hx ho nA nB yq;go_wp2_with fail;refine(ff c d _ h4 (by omega) (by omega) h6).mono ?_;rintro e w2⟨rfl,b2⟩;have ek:w2.heap[w.heap.size+1+1+1]?=_:=(b2.block _ (ah HZ.out)).trans HZ.out;have my:w2.heap[w.heap.size+1]?=_:=(b2.block _ (ah HX.out)).trans HX.out;have uU:w2.heap[w.heap.size+1+1]?=_:=(b2.block _ (ah HY.out)).trans HY.out;have jt:=hid ek;obtain⟨x0,x1,Kq,Kz,xq⟩:=aH my;clear y0 y1;obtain⟨y0,y1,nA,nB,yq⟩:=aH uU;have B2:Hid (Below w.heap.size w w2):=BW.trans (b2.mono BW.size);clear b2 my uU ek Kq Kz nA nB xq yq;go_wp2_with fail;refine(I3 a b c d w2 h1 h2 h3 h4 h5 h6).mono ?_;rintro e w3⟨rfl,b3⟩;have js:w3.heap[w.heap.size+1+1+1]?=_:=(b3.block _ (ah jt.out)).trans jt.out;obtain⟨m0,m1,kh,kj,mq⟩:=aH js;have B3:Hid (Below w.heap.size w w3):=B2.trans (b3.mono B2.size);clear b3 js x0 x1 y0 y1;cases hr:dO ⟨a,b⟩ ⟨c,d⟩ with
 | none =>have EE:Hid (_=none):=E.trans hr;have MQ:=hid (mq (.int .i16 0) (.int .i16 0));clear mq hr E;simp only[dN];go_wp2_with fail;exact bodyPost_ret (v:=.tuple #[.agg #[.int .i16 0,.int .i16 0],.bool false]) (by simp[results,results328,go_sem,MQ.1,MQ.2]) rfl ⟨dn EE.out,(B3.setCell (p:=⟨w.heap.size+1+1+1,0,none⟩) (by show w.heap.size<=w.heap.size+1+1+1;omega) _).setCell (p:=⟨w.heap.size+1+1+1,1,none⟩) (by show w.heap.size<=w.heap.size+1+1+1;omega) _⟩
 | some v =>have EE:Hid (_=some v):=E.trans hr;have MQ:=hid (mq (.int .i16 v.a) (.int .i16 v.b));clear mq hr E;simp only[dN];go_wp2_with fail;exact bodyPost_ret (v:=.tuple #[.agg #[.int .i16 v.a,.int .i16 v.b],.bool true]) (by simp[results,results328,go_sem,MQ.1,MQ.2]) rfl ⟨cI EE.out,(B3.setCell (p:=⟨w.heap.size+1+1+1,0,none⟩) (by show w.heap.size<=w.heap.size+1+1+1;omega) _).setCell (p:=⟨w.heap.size+1+1+1,1,none⟩) (by show w.heap.size<=w.heap.size+1+1+1;omega) _⟩
theorem LG(dv:Value)(a b c d:Int)(w:Wd)(h1:-32768<=a)(h2:a<=b)(h3:b<=32767)(h4:-32768<=c)(h5:c<=d)(h6:d<=32767) :
  Calls prog 328 #[.agg #[dv],.int .i64 4,.agg #[.int .i16 a,.int .i16 b],.agg #[.int .i16 c,.int .i16 d]] w fun e w'=>e=.returned (dN (cp 4 ⟨a,b⟩ ⟨c,d⟩))/\Below w.heap.size w w':=by
 have E:Hid (cp 4 ⟨a,b⟩ ⟨c,d⟩=gz ⟨a,b⟩ ⟨c,d⟩):=rfl;go_enter func328,ntmps328;go_wp2_with fail;refine(ff a b _ h1 (by omega) (by omega) h3).mono ?_;rintro e w1⟨rfl,b1⟩;obtain⟨ho,hx,hy,hz,bw⟩:=bM b1;obtain⟨y0,y1,nA,nB,yq⟩:=aH hy;have HX:Hid (_=_):=hx;have HY:=hid hy;have HZ:=hid hz;have BW:=hid bw;clear b1 hz bw hy hx ho nA nB yq;go_wp2_with fail;refine(ff c d _ h4 (by omega) (by omega) h6).mono ?_;rintro e w2⟨rfl,b2⟩;have ek:w2.heap[w.heap.size+1+1+1]?=_:=(b2.block _ (ah HZ.out)).trans HZ.out;have my:w2.heap[w.heap.size+1]?=_:=(b2.block _ (ah HX.out)).trans HX.out;have uU:w2.heap[w.heap.size+1+1]?=_:=(b2.block _ (ah HY.out)).trans HY.out;have jt:=hid ek;obtain⟨x0,x1,Kq,Kz,xq⟩:=aH my;clear y0 y1;obtain⟨y0,y1,nA,nB,yq⟩:=aH uU;have B2:Hid (Below w.heap.size w w2):=BW.trans (b2.mono BW.size);clear b2 my uU ek Kq Kz nA nB xq yq;go_wp2_with fail;refine(zM a b c d w2 h1 h2 h3 h4 h5 h6).mono ?_;rintro e w3⟨rfl,b3⟩;have js:w3.heap[w.heap.size+1+1+1]?=_:=(b3.block _ (ah jt.out)).trans jt.out;obtain⟨m0,m1,kh,kj,mq⟩:=aH js;have B3:Hid (Below w.heap.size w w3):=B2.trans (b3.mono B2.size);clear b3 js x0 x1 y0 y1;cases hr:gz ⟨a,b⟩ ⟨c,d⟩ with
 | none =>have EE:Hid (_=none):=E.trans hr;have MQ:=hid (mq (.int .i16 0) (.int .i16 0));clear mq hr E;simp only[dN];go_wp2_with fail;exact bodyPost_ret (v:=.tuple #[.agg #[.int .i16 0,.int .i16 0],.bool false]) (by simp[results,results328,go_sem,MQ.1,MQ.2]) rfl ⟨dn EE.out,(B3.setCell (p:=⟨w.heap.size+1+1+1,0,none⟩) (by show w.heap.size<=w.heap.size+1+1+1;omega) _).setCell (p:=⟨w.heap.size+1+1+1,1,none⟩) (by show w.heap.size<=w.heap.size+1+1+1;omega) _⟩
 | some v =>have EE:Hid (_=some v):=E.trans hr;have MQ:=hid (mq (.int .i16 v.a) (.int .i16 v.b));clear mq hr E;simp only[dN];go_wp2_with fail;exact bodyPost_ret (v:=.tuple #[.agg #[.int .i16 v.a,.int .i16 v.b],.bool true]) (by simp[results,results328,go_sem,MQ.1,MQ.2]) rfl ⟨cI EE.out,(B3.setCell (p:=⟨w.heap.size+1+1+1,0,none⟩) (by show w.heap.size<=w.heap.size+1+1+1;omega) _).setCell (p:=⟨w.heap.size+1+1+1,1,none⟩) (by show w.heap.size<=w.heap.size+1+1+1;omega) _⟩
theorem OB(dv:Value)(k:Nat)(hk:k<5)(a b c d:Int)(w:Wd)(h1:-32768<=a)(h2:a<=b)(h3:b<=32767)(h4:-32768<=c)(h5:c<=d)(h6:d<=32767) :
  Calls prog 328 #[.agg #[dv],.int .i64 (k:Nat),.agg #[.int .i16 a,.int .i16 b],.agg #[.int .i16 c,.int .i16 d]] w fun e w'=>e=.returned (dN (cp k ⟨a,b⟩ ⟨c,d⟩))/\Below w.heap.size w w':=by
 rcases(show k=0∨k=1∨k=2∨k=3∨k=4 from by omega) with rfl | rfl | rfl | rfl | rfl
 ·exact KU dv a b c d w h1 h2 h3 h4 h5 h6
 ·exact Mt dv a b c d w h1 h2 h3 h4 h5 h6
 ·exact LL dv a b c d w h1 h2 h3 h4 h5 h6
 ·exact MX dv a b c d w h1 h2 h3 h4 h5 h6
 ·exact LG dv a b c d w h1 h2 h3 h4 h5 h6
end
end Go.Proofs.YtiopfihjmkfdmaaGreatDoor
