import Derived.Test.YtiopfihjmkfdmaaGreatDoorB1
import Derived.Test.YtiopfihjmkfdmaaGreatDoorB20
import Derived.Test.YtiopfihjmkfdmaaGreatDoorB27
import Derived.Test.YtiopfihjmkfdmaaGreatDoorB28
import Derived.Carry
import Derived.SevenTiedAt
import Derived.ShutString
import Derived.Test.YtiopfihjmkfdmaaGreatDoorCards
import Derived.Test.YtiopfihjmkfdmaaGreatDoorTie
namespace Go.Proofs.YtiopfihjmkfdmaaGreatDoor
open Go.Proofs.Tryz Sp
open Go.RowKit
set_option maxRecDepth 100000
set_option maxHeartbeats 16000000
theorem B9(s:ByteArray)(cU ao narrow aj:Int)(th:Bool)(w:Wd)(hs:s.size<=1048576)(hL:Laid w){er:Nat × Nat}(ht:Sp.tree s.data.toList=.error er) :
  Calls prog 32 #[.string s,.agg #[.int .i64 cU,.int .i64 ao,.int .i64 narrow,.int .i64 aj,.bool th]] w fun e w'=>∃v,e=.returned (.tuple #[.agg #[.slice none 0 0,.slice none 0 0],v])/\iR w' w.heap.size v er/\Below w.heap.size w w':=by
 obtain⟨k0,k1,kb⟩:=eY (w:=w) (o1:=.cells #[.int .i64 cU,.int .i64 ao,.int .i64 narrow,.int .i64 aj,.bool th] 58) (o2:=.cells #[.slice none 0 0,.slice none 0 0] 64) (Below.refl _ _);have dI:((w.alloc (.cells #[.int .i64 cU,.int .i64 ao,.int .i64 narrow,.int .i64 aj,.bool th] 58)).alloc (.cells #[.slice none 0 0,.slice none 0 0] 64)).heap.size=w.heap.size+1+1:=by simp
 have hc:=ly WI.RC s ((w.alloc (.cells #[.int .i64 cU,.int .i64 ao,.int .i64 narrow,.int .i64 aj,.bool th] 58)).alloc (.cells #[.slice none 0 0,.slice none 0 0] 64)) hs (hL.below kb hL.size);have K1:=hid k1;have KB:=hid kb;clear k0 k1 kb;cases hr:Sp.parse Sp.Tr s.data.toList with
 | ok xs=>unfold Sp.tree at ht;rw[hr]at ht;cases ht
 | error Yr =>
  obtain rfl:Yr=er:=by unfold Sp.tree at ht;rw[hr]at ht;cases ht;rfl
  rw[hr]at hc;clear ht;go_enter func32,ntmps32;go_wp2_with fail;generalize (w.alloc (.cells #[.int .i64 cU,.int .i64 ao,.int .i64 narrow,.int .i64 aj,.bool th] 58)).alloc (.cells #[.slice none 0 0,.slice none 0 0] 64)=wz at *;refine hc.mono ?_;rintro e w1⟨v,rfl,hv,b1⟩;obtain⟨tv,uv,rfl⟩:=sA hv;have kC:(w1.alloc (.cells #[.slice none 0 0,.int .i64 0,.int .i64 0,.slice none 0 0] 86)).heap[w.heap.size+1]?=some (.cells #[.slice none 0 0,.slice none 0 0] 64):=heap_alloc_old (by rw[b1.block _ (by omega)];exact K1.out);have c0:=cell_of kC 0 (v:=.slice none 0 0) rfl;have c1:=cell_of kC 1 (v:=.slice none 0 0) rfl;have f0:=aw kC 0;have f1:=aw kC 1;have h2:=ai (ai kC 0 (.slice none 0 0)) 1 (.slice none 0 0);have Q0:Hid (_=_):=cell_of h2 0 (v:=.slice none 0 0) rfl;have Q1:Hid (_=_):=cell_of h2 1 (v:=.slice none 0 0) rfl;have HV:Hid (iR (((w1.alloc (.cells #[.slice none 0 0,.int .i64 0,.int .i64 0,.slice none 0 0] 86)).setCell ⟨w.heap.size+1,0,none⟩ (.slice none 0 0)).setCell ⟨w.heap.size+1,1,none⟩ (.slice none 0 0)) w.heap.size (.iface tv uv) Yr) :=
   (((hv.laid _).set (by omega)).set (by omega)).weaken (by omega)
  have B:Hid (Below w.heap.size w (((w1.alloc (.cells #[.slice none 0 0,.int .i64 0,.int .i64 0,.slice none 0 0] 86)).setCell ⟨w.heap.size+1,0,none⟩ (.slice none 0 0)).setCell ⟨w.heap.size+1,1,none⟩ (.slice none 0 0))) :=
   (((KB.trans (b1.mono (by omega))).alloc (by have:=b1.size;omega) _).setCell (p:=⟨w.heap.size+1,0,none⟩) (by show w.heap.size<=w.heap.size+1;omega) _).setCell (p:=⟨w.heap.size+1,1,none⟩) (by show w.heap.size<=w.heap.size+1;omega) _
  clear hv hc kC h2;go_wp2_with fail;exact bodyPost_ret (v:=.tuple #[.agg #[.slice none 0 0,.slice none 0 0],.iface tv uv]) (by simp[results,results32,go_sem,Q0.out,Q1.out]) rfl ⟨_,rfl,HV.out,B.out⟩
theorem qE(n m:Int)(w:Wd):Calls prog 42 #[.int .i64 n,.int .i64 m] w fun e w'=>e=.returned (.bool (decide (0<=n/\n<=m)))/\w'=w:=by
 by_cases h1:0<=n
 ·by_cases h2:n<=m
  ·rw[show decide (0<=n/\n<=m)=true from decide_eq_true ⟨h1,h2⟩]
   go_enter func42,ntmps42;go_wp2_with fail;go_ret;exact⟨rfl,rfl⟩
  ·rw[show decide (0<=n/\n<=m)=false from decide_eq_false (fun h=>h2 h.2)]
   go_enter func42,ntmps42;go_wp2_with fail;go_ret;exact⟨rfl,rfl⟩
 ·rw[show decide (0<=n/\n<=m)=false from decide_eq_false (fun h=>h1 h.1)]
  go_enter func42,ntmps42;go_wp2_with fail;go_ret;exact⟨rfl,rfl⟩
theorem Cb(cU ao narrow aj:Int)(th:Bool)(hc:¬ ((cU=0∨cU=1)/\0<=ao/\ao<=4/\0<=narrow/\narrow<=3/\0<=aj/\aj<=3))(w:Wd) :
  Calls prog 49 #[.agg #[.int .i64 cU,.int .i64 ao,.int .i64 narrow,.int .i64 aj,.bool th]] w fun e w'=>e=.returned (.bool false)/\Below w.heap.size w w':=by
 have main:(¬ cU=0/\¬ cU=1)∨((cU=0∨¬ cU=0/\cU=1)/\((¬ (0<=ao/\ao<=4))∨(0<=ao/\ao<=4)/\((¬ (0<=narrow/\narrow<=3))∨(0<=narrow/\narrow<=3)/\¬ (0<=aj/\aj<=3)))):=by omega
 have H1:Hid (∀W,Calls _ _ _ W _):=fun W=>qE ao 4 W
 have H2:Hid (∀W,Calls _ _ _ W _):=fun W=>qE narrow 3 W
 have H3:Hid (∀W,Calls _ _ _ W _):=fun W=>qE aj 3 W
 clear hc
 rcases main with⟨d0,d1⟩ | ⟨rfl | ⟨d0,rfl⟩,a | ⟨a,b | ⟨b,c⟩⟩⟩
 ·clear H1 H2 H3
  go_enter func49,ntmps49;go_wp2_with fail;go_ret;exact⟨rfl,by go_grown⟩
 all_goals
  try rw[decide_eq_false a]at H1
  try rw[decide_eq_true a]at H1
  try rw[decide_eq_false b]at H2
  try rw[decide_eq_true b]at H2
  try rw[decide_eq_false c]at H3
  try clear a
  try clear b
  try clear c
  try clear d0
  go_enter func49,ntmps49;go_wp2_with fail;refine(H1.out _).mono ?_;rintro r w1⟨rfl,rfl⟩;go_wp2_with fail;try
   refine(H2.out _).mono ?_;rintro r w1⟨rfl,rfl⟩;go_wp2_with fail
  try
   refine(H3.out _).mono ?_;rintro r w1⟨rfl,rfl⟩;go_wp2_with fail
  go_ret;exact⟨rfl,by go_grown⟩
theorem Cu(s:ByteArray)(cU ao narrow aj:Int)(th:Bool)(w:Wd)(hs:s.size<=1048576)(hL:Laid w){t:Sp.Bl}(ht:Sp.tree s.data.toList=.ok t)(Dz:¬ ((cU=0∨cU=1)/\0<=ao/\ao<=4/\0<=narrow/\narrow<=3/\0<=aj/\aj<=3)) :
  Calls prog 32 #[.string s,.agg #[.int .i64 cU,.int .i64 ao,.int .i64 narrow,.int .i64 aj,.bool th]] w fun e w'=>e=.returned (.tuple #[.agg #[.slice none 0 0,.slice none 0 0],.iface 26 (.int .i64 5)])/\Below w.heap.size w w':=by
 obtain⟨k0,k1,kb⟩:=eY (w:=w) (o1:=.cells #[.int .i64 cU,.int .i64 ao,.int .i64 narrow,.int .i64 aj,.bool th] 58) (o2:=.cells #[.slice none 0 0,.slice none 0 0] 64) (Below.refl _ _);have dI:((w.alloc (.cells #[.int .i64 cU,.int .i64 ao,.int .i64 narrow,.int .i64 aj,.bool th] 58)).alloc (.cells #[.slice none 0 0,.slice none 0 0] 64)).heap.size=w.heap.size+1+1:=by simp
 have hc:=ly WI.RC s ((w.alloc (.cells #[.int .i64 cU,.int .i64 ao,.int .i64 narrow,.int .i64 aj,.bool th] 58)).alloc (.cells #[.slice none 0 0,.slice none 0 0] 64)) hs (hL.below kb hL.size);have K0:=hid k0;have K1:=hid k1;have KB:=hid kb;have VJ:Hid (∀W,Calls _ _ _ W _):=fun W=>Cb cU ao narrow aj th Dz W
 clear k0 k1 kb Dz;cases hr:Sp.parse Sp.Tr s.data.toList with
 | error er=>unfold Sp.tree at ht;rw[hr]at ht;cases ht
 | ok xs =>
  rw[hr]at hc;clear ht hr;go_enter func32,ntmps32;go_wp2_with fail;generalize (w.alloc (.cells #[.int .i64 cU,.int .i64 ao,.int .i64 narrow,.int .i64 aj,.bool th] 58)).alloc (.cells #[.slice none 0 0,.slice none 0 0] 64)=wz at *;refine hc.mono ?_;rintro e w1⟨v,ct1,nvv,Uo,rfl,hv,b1,eN,_⟩;obtain⟨va,vn,vc,rfl⟩:=eU hv;obtain⟨na,nn,nc,rfl⟩:=nm eN;have Wb:(w1.alloc (.cells #[.slice va vn vc,.int .i64 ct1.1,.int .i64 ct1.2,.slice na nn nc] 86)).heap[w.heap.size]?=_:=heap_alloc_old ((b1.block _ (by omega)).trans K0.out);have kC:(w1.alloc (.cells #[.slice va vn vc,.int .i64 ct1.1,.int .i64 ct1.2,.slice na nn nc] 86)).heap[w.heap.size+1]?=_:=heap_alloc_old ((b1.block _ (by omega)).trans K1.out);have HN:Hid (_/\_/\_):=And.intro Wb (And.intro kC ((KB.trans (b1.mono (by omega))).alloc (by have:=b1.size;omega) (.cells #[.slice va vn vc,.int .i64 ct1.1,.int .i64 ct1.2,.slice na nn nc] 86)));clear hc hv eN Wb kC K0 K1 KB;go_upto_region 4 with fail;generalize w1.alloc (.cells #[.slice va vn vc,.int .i64 ct1.1,.int .i64 ct1.2,.slice na nn nc] 86)=W at *
  obtain⟨h0,h1,hb⟩:=HN.out;have g0:=cell_of h0 0 rfl;have g1:=cell_of h0 1 rfl;have g2:=cell_of h0 2 rfl;have g3:=cell_of h0 3 rfl;have g4:=cell_of h0 4 rfl;clear h0 h1 hb;go_wp2_with fail;refine(VJ.out _).mono ?_;rintro r w2⟨rfl,b2⟩;obtain⟨h0,h1,hb⟩:=HN.out;have nM:=(b2.block _ (ah h1)).trans h1;obtain⟨z0,z1,DT,DY,mq⟩:=aH nM;have MQ:=hid (mq (.slice none 0 0) (.slice none 0 0));have HB:Hid (Below w.heap.size w ((w2.setCell ⟨w.heap.size+1,0,none⟩ (.slice none 0 0)).setCell ⟨w.heap.size+1,1,none⟩ (.slice none 0 0))):=((hb.trans (b2.mono hb.size)).setCell (p:=⟨w.heap.size+1,0,none⟩) (Nat.le_succ _) _).setCell (p:=⟨w.heap.size+1,1,none⟩) (Nat.le_succ _) _;clear h0 h1 hb nM mq HN g0 g1 g2 g3 g4;go_wp2_with fail;exact bodyPost_ret (v:=.tuple #[.agg #[.slice none 0 0,.slice none 0 0],.iface 26 (.int .i64 5)]) (by simp[results,results32,go_sem,MQ.1,MQ.2]) rfl ⟨rfl,HB.out⟩
namespace RI
section
variable{a a':Option Addr}
theorem pI(s:ByteArray)(hs:s.size<=1048576)(cU ao narrow aj:Int)(th:Bool)(w:Wd)(k p:Int)
  (hP:Calls prog 32 #[.string s,.agg #[.int .i64 cU,.int .i64 ao,.int .i64 narrow,.int .i64 aj,.bool th]] w fun e w'=>∃t u,e=.returned (.tuple #[.agg #[.slice none 0 0,.slice none 0 0],.iface t u])/\(Calls prog 16 #[.iface t u] (w'.alloc (.cells #[.slice none 0 0,.slice none 0 0] 64)) fun e w2=>e=.returned (.tuple #[.int .i64 k,.int .i64 p])/\Below (w'.alloc (.cells #[.slice none 0 0,.slice none 0 0] 64)).heap.size (w'.alloc (.cells #[.slice none 0 0,.slice none 0 0] 64)) w2)/\Below w.heap.size w w')
  (hR:∀W:Wd,Calls prog 46 #[.string s,.agg #[.int .i64 cU,.int .i64 ao,.int .i64 narrow,.int .i64 aj,.bool th]] W fun e w'=>e=.returned (.tuple #[.slice none 0 0,.slice none 0 0,.int .i64 k,.int .i64 p])/\Below W.heap.size W w') :
  Calls prog 28 #[.string s,.int .i64 cU,.int .i64 ao,.int .i64 narrow,.int .i64 aj,.bool th] w fun e w'=>e=.returned (.bool true)/\Below w.heap.size w w':=by
 have fM:¬ (1048576:Int)<(s.size:Int):=by omega
 have HP:=hid hP;have HR:=hid hR;clear hP hR;go_enter func28,ntmps28;go_wp2_with fail;refine HP.mono ?_;rintro e w1⟨tt,uu,rfl,hT,b1⟩;have HB:Hid (Below w.heap.size w (w1.alloc (.cells #[.slice none 0 0,.slice none 0 0] 64))):=b1.trans ((below_alloc1 _ _).mono b1.size);have hx:=heap_alloc_new w1 (.cells #[.slice none 0 0,.slice none 0 0] 64);have HT:=hid hT;clear hT b1 HP;go_upto_region 4 with fail;generalize w1.alloc (.cells #[.slice none 0 0,.slice none 0 0] 64)=W at *
 generalize w1.heap.size=mo at *;go_wp2_with fail;refine HT.mono ?_;rintro e w2⟨rfl,b2⟩;have my:=(b2.block _ (ah hx)).trans hx;have kD:Hid (Below w.heap.size w w2):=HB.trans (b2.mono HB.size);clear b2 hx HB HT;go_wp2_with fail;refine(HR.out w2).mono ?_;rintro e w3⟨rfl,b3⟩;have xr:=(b3.block _ (ah my)).trans my;have yk:Hid (Below w.heap.size w w3):=kD.trans (b3.mono kD.size);clear b3 my kD HR;obtain⟨x0,x1,_⟩:=aH xr;go_wp2_with fail;refine(yu k w3).mono ?_;rintro e w4⟨rfl,rfl⟩;go_wp2_with fail
 go_loopw [21] (fun v wr=>v=.int .i64 0/\wr=w4) (fun _ _=>0)
 case atStart=>exact⟨rfl,rfl⟩
 case round =>
  obtain⟨rfl,rfl⟩:=hrel;go_wp2_with fail
  go_loopw [23] (fun v wq=>v=.int .i64 0/\wq=wr) (fun _ _=>0)
  case atStart=>exact⟨rfl,rfl⟩
  case round =>
   obtain⟨rfl,rfl⟩:=hrel;go_wp2_with fail;go_ret;exact⟨rfl,yk.out⟩
structure C0(w:Wd)(mo:Nat)(a:Option Addr)(n:Nat)(a':Option Addr)(m:Nat)(C:Rc)(F:jB)(W:Wd):Prop where
 x:W.heap[mo]?=some (.cells #[.slice a n n,.slice a' m m] 64)
 f:zY W a n a' m F
 ra:bx C F W
 b:Below w.heap.size w W
theorem C0.call{w:Wd}{mo:Nat}{n:Nat}{m:Nat}{C:Rc}{F:jB}{W W':Wd}(h:C0 w mo a n a' m C F W)(k:Below W.heap.size W W'):C0 w mo a n a' m C F W' :=
 ⟨(k.block _ (ah h.x)).trans h.x,h.f.below k,h.ra.call k,h.b.trans (k.mono h.b.size)⟩
theorem xO(s:ByteArray)(hs:s.size<=1048576)(ao narrow aj:Nat)(th:Bool)(w:Wd)(F:jB)
  (hP:Calls prog 32 #[.string s,.agg #[.int .i64 0,.int .i64 (ao:Nat),.int .i64 (narrow:Nat),.int .i64 (aj:Nat),.bool th]] w fun e w'=>∃v,e=.returned (.tuple #[v,.nilIface])/\yS w.heap.size w' v F/\Below w.heap.size w w')
  (hR:∀W:Wd,Calls prog 46 #[.string s,.agg #[.int .i64 0,.int .i64 (ao:Nat),.int .i64 (narrow:Nat),.int .i64 (aj:Nat),.bool th]] W fun e w'=>∃(C:Rc),e=.returned (.tuple #[.slice (some ⟨C.gf,0,none⟩) F.1.length F.1.length,.slice (some ⟨C.gs,0,none⟩) F.2.length F.2.length,.int .i64 0,.int .i64 0])/\bx C F w'/\Below W.heap.size W w') :
  Calls prog 28 #[.string s,.int .i64 0,.int .i64 (ao:Nat),.int .i64 (narrow:Nat),.int .i64 (aj:Nat),.bool th] w fun e w'=>e=.returned (.bool true)/\Below w.heap.size w w':=by
 have fM:¬ (1048576:Int)<(s.size:Int):=by omega
 have HP:=hid hP;have HR:=hid hR;clear hP hR;go_enter func28,ntmps28;go_wp2_with fail;refine HP.mono ?_;rintro e w1⟨v,rfl,hv,b1⟩;obtain⟨a,n,a',m,rfl,hV⟩:=zY.of hv;have hx:=heap_alloc_new w1 (.cells #[.slice a n n,.slice a' m m] 64);have bl:=below_alloc1 w1 (.cells #[.slice a n n,.slice a' m m] 64);have H1:Hid (zY (w1.alloc (.cells #[.slice a n n,.slice a' m m] 64)) a n a' m F/\Below w.heap.size w (w1.alloc (.cells #[.slice a n n,.slice a' m m] 64))/\(w1.alloc (.cells #[.slice a n n,.slice a' m m] 64)).heap[w1.heap.size]?=some (.cells #[.slice a n n,.slice a' m m] 64)):=⟨hV.below bl,b1.trans (bl.mono b1.size),hx⟩;have Ut:Hid (n=F.1.length/\m=F.2.length):=⟨hV.n,hV.m⟩;clear hv hV b1 bl hx HP;go_upto_region 4 with fail;generalize w1.alloc (.cells #[.slice a n n,.slice a' m m] 64)=W at *
 generalize w1.heap.size=mo at *;go_wp2_with fail;refine(KK W).mono ?_;rintro e w2⟨rfl,b2⟩;have H2:Hid (zY w2 a n a' m F/\Below w.heap.size w w2/\w2.heap[mo]?=some (.cells #[.slice a n n,.slice a' m m] 64)):=⟨H1.1.below b2,H1.2.1.trans (b2.mono H1.2.1.size),(b2.block _ (ah H1.2.2)).trans H1.2.2⟩;clear b2 H1;go_wp2_with fail;refine(HR.out w2).mono ?_;rintro e w3⟨C,rfl,Ye,b3⟩;have H3:Hid (C0 w mo a n a' m C F w3):=⟨(b3.block _ (ah H2.2.2)).trans H2.2.2,H2.1.below b3,Ye,H2.2.1.trans (b3.mono H2.2.1.size)⟩;have hf1:((n:Nat):Int)<=1000:=by have:=Ye.A4.1;have:=Ut.1;omega
 have hf2:((m:Nat):Int)<=1000:=by have:=Ye.A4.2;have:=Ut.2;omega
 rw[<-Ut.1,<-Ut.2];clear b3 H2 HR Ye;obtain⟨x0,x1,_⟩:=aH H3.x;go_wp2_with fail;refine(yu 0 w3).mono ?_;rintro e w4⟨rfl,rfl⟩;go_wp2_with fail;clear x0 x1
 go_loopw [21] (fun v wr=>∃j:Nat,j<=n/\v=.int .i64 j/\Hid (C0 w mo a n a' m C F wr)) (fun v _=>n - (intOf v).toNat)
 case atStart=>exact⟨0,Nat.zero_le _,rfl,H3⟩
 case round =>
  obtain⟨j,hj,rfl,hq⟩:=hrel;clear H3;by_cases Ro:j<n
  ·have uq:((j:Nat):Int)<((n:Nat):Int):=by omega
   obtain⟨st,gI⟩:∃st,F.1[j]?=some st:=⟨_,List.getElem?_eq_getElem (by have:=Ut.1;omega)⟩;obtain⟨g,rfl,_⟩:=hq.f.f j st gI;have f17:=WI.rm st;obtain⟨u,v,hu,hv,FV,_⟩:=hq.ra.f j st gI;obtain⟨va,vn,vc,ev⟩:=FV.form;injection ev with ev
   have ev2:=congrArg Array.toList ev;simp at ev2;obtain⟨rfl,rfl⟩:=ev2;obtain⟨J2,HJ⟩:∃J2,Hid (J2=j*2):=⟨_,rfl⟩;have HF:Hid (∀W:Wd,Below wr.heap.size wr W->W.heap[mo]?=some (.cells #[.slice (some ⟨g,0,none⟩) n n,.slice a' m m] 64)/\W.rangeAt g (j*17) (WI.sI st).toList/\W.cell? ⟨C.gf,J2,none⟩=some (.bool st.isNone)/\W.cell? ⟨C.gf,J2+1,none⟩=some (.slice va vn vc)/\dL W (.agg #[.bool st.isNone,.slice va vn vc]) st):=fun W bW=>by
    have hW:=hq.call bW;obtain⟨g',e',r1⟩:=hW.f.f j st gI;cases e'
    rw[HJ.out];exact⟨hW.x,r1,by rw[bW.cell (p:=⟨C.gf,j*2,none⟩) (iY hu)];exact hu,by rw[bW.cell (p:=⟨C.gf,j*2+1,none⟩) (iY hv)];exact hv,FV.below bW⟩
   have HQ:=hid hq;clear hu hv FV ev hq;go_upto_region 11 with fail;refine wp_region_held_drew (S:=fun w':Wd=>w'.heap[mo]?=some (.cells #[.slice (some ⟨g,0,none⟩) n n,.slice a' m m] 64)/\w'.rangeAt g (j*17) (WI.sI st).toList/\w'.cell? ⟨C.gf,J2,none⟩=some (.bool st.isNone)/\w'.cell? ⟨C.gf,J2+1,none⟩=some (.slice va vn vc)/\dL w' (.agg #[.bool st.isNone,.slice va vn vc]) st) (by kernel_rfl) (HF.out _ (Below.refl _ _).drew) (fun aa=>?_)
   have HD:Hid (Below wr.heap.size wr wr.drew):=(Below.refl _ _).drew;generalize wr.drew=V at *;refine tq 0 (.pointer (some ⟨mo,0,none⟩)) aa ?_;refine tk 1 (.slice (some ⟨g,0,none⟩) n n) rfl (fun w' h=>by have q:=cell_of h.1 0 (v:=.slice (some ⟨g,0,none⟩) n n) rfl;go_simp) aa ?_;refine tq 2 (.int .i64 (j:Nat)) aa ?_;refine tq 3 (.pointer (some ⟨g,j*17,none⟩)) aa ?_;refine mj 4 rfl (yieldsIf_load_mid (by rfl) _ _ rfl _ _ rfl (WI.sI st).toList _ (fun w' h=>h.2.1) underlying76 rfl (by rw[WI.Aw,Array.length_toList,f17])) aa ?_;refine tq 5 (.slice (some ⟨C.gf,0,none⟩) n n) aa ?_;refine tq 6 (.int .i64 (j:Nat)) aa ?_;refine tk 7 (.pointer (some ⟨C.gf,J2,none⟩)) rfl (fun w' h=>by rw[HJ.out];go_simp) aa ?_;refine tk 8 (.agg #[.bool st.isNone,.slice va vn vc]) rfl (fun w' h=>by have q:=h.2.2.1;have q2:=h.2.2.2.1;go_simp) aa ?_;have HC:=hid (wB st _ V aa.2.2.2.2);refine cH 9 fun K hK=>?_
   simp only[bT,gN,Array.toArray_toList];go_simp;refine HC.mono ?_;rintro e w8⟨rfl,b8⟩;have Tv:Hid (Below wr.heap.size wr w8):=HD.trans (b8.mono HD.size);clear HC aa b8 HD;go_wp2_with fail;refine hK.out _ _ (HF.out _ Tv.out) (fun aa=>?_);clear hK K;refine cH 10 fun K hK=>?_
   simp only[bT];go_simp;refine hK.out _ _ aa (fun _=>?_);clear hK K aa;refine wpAnyH_done (by kernel_rfl) ?_ _;have H9:Hid (C0 w mo (some ⟨g,0,none⟩) n a' m C F w8):=HQ.call Tv.out;clear HF HQ Tv;go_wp2_with fail;exact⟨⟨j+1,by omega,by go_num,H9⟩,by simp[intOf];omega⟩
  ·obtain rfl:j=n:=by omega
   go_wp2_with fail
   go_loopw [23] (fun v wq=>∃i:Nat,i<=m/\v=.int .i64 i/\Hid (C0 w mo a j a' m C F wq)) (fun v _=>m - (intOf v).toNat)
   case atStart=>exact⟨0,Nat.zero_le _,rfl,hq⟩
   case round =>
    obtain⟨i,hi,rfl,uS⟩:=hrel;clear hq;by_cases him:i<m
    ·have To:((i:Nat):Int)<((m:Nat):Int):=by omega
     obtain⟨q,Ue⟩:∃q,F.2[i]?=some q:=⟨_,List.getElem?_eq_getElem (by have:=Ut.2;omega)⟩;obtain⟨g,rfl,y0⟩:=uS.f.s i q Ue;obtain⟨y1,_⟩:=uS.ra.s i q Ue;obtain⟨x0,x1,_⟩:=aH uS.x;go_upto_region 17 with fail;go_quiet (fail)
     have H9:Hid (C0 w mo a j (some ⟨g,0,none⟩) m C F (wr.drewN nq)):=uS.call (ow _ _);clear uS x0 x1 y0 y1;go_wp2_with fail;exact⟨⟨i+1,by omega,by go_num,H9⟩,by simp[intOf];omega⟩
    ·obtain rfl:i=m:=by omega
     have KH:=hid uS.b;clear uS;go_wp2_with fail;go_ret;exact⟨rfl,KH.out⟩
end
end RI
section
namespace RI
section
variable{er:Nat × Nat}
theorem SU{src:Sp.Bs}(h:Sp.tree src=.error er):er.1≠0:=by have:=Pp src er (by rw[Sp.print,E7 Sp.Pr src,h]);omega
theorem Sy(s:ByteArray)(hmax:s.size<=1048576)(cU ao narrow aj:Int)(th:Bool)(w:Wd)(ht:Sp.tree s.data.toList=.error er) :
  Calls prog 46 #[.string s,.agg #[.int .i64 cU,.int .i64 ao,.int .i64 narrow,.int .i64 aj,.bool th]] w fun e w'=>e=.returned (.tuple #[.slice none 0 0,.slice none 0 0,.int .i64 (er.1:Nat),.int .i64 (er.2:Nat)])/\Below w.heap.size w w':=by
 have hr:=fun w':Wd=>oE s hmax w'
 unfold gY at hr;rw[ht]at hr;have HR:=hid hr;have hz:¬ ((er.1:Int)=0):=by have:=SU ht;omega
 have ek:((er.1:Int) == 0)=false:=by simpa using hz
 clear hr ht;go_enter func46,ntmps46;go_wp2_with fail;refine(HR.out _).mono ?_;rintro e w1⟨hb,rfl⟩;have HB:Hid (Below w.heap.size w w1):=(below_alloc1 _ _).trans (hb.mono (by simp));clear hb;go_wp2_with fail;try simp only[Exit.inBlock,Exit.then]
 refine bodyPost_ret (v:=.tuple #[.slice none 0 0,.slice none 0 0,.int .i64 (er.1:Int),.int .i64 (er.2:Int)]) (by simp[results,results46,go_sem]) rfl ?_;exact⟨rfl,HB.out⟩
def Fs(cU ao narrow aj:Int):Prop:=¬ ((cU=0∨cU=1)/\0<=ao/\ao<=4/\0<=narrow/\narrow<=3/\0<=aj/\aj<=3)
theorem SA(s:ByteArray)(hmax:s.size<=1048576)(cU ao narrow aj:Int)(th:Bool)(w:Wd){t:Bl}(ht:Sp.tree s.data.toList=.ok t)(hc:Fs cU ao narrow aj) :
  Calls prog 46 #[.string s,.agg #[.int .i64 cU,.int .i64 ao,.int .i64 narrow,.int .i64 aj,.bool th]] w fun e w'=>e=.returned (.tuple #[.slice none 0 0,.slice none 0 0,.int .i64 5,.int .i64 0])/\Below w.heap.size w w':=by
 have hr:=fun w':Wd=>oE s hmax w'
 unfold gY at hr;rw[ht]at hr;have HR:=hid hr;have main:(¬ cU=0/\¬ cU=1)∨(cU=0∨¬ cU=0/\cU=1)/\(ao<0∨(¬ ao<0)/\(4<ao∨(¬ 4<ao)/\(narrow<0∨(¬ narrow<0)/\(3<narrow∨(¬ 3<narrow)/\(aj<0∨(¬ aj<0)/\3<aj))))):=by unfold Fs at hc;omega
 clear hr ht hc;have h3:=heap_alloc_new w (.cells #[.int .i64 cU,.int .i64 ao,.int .i64 narrow,.int .i64 aj,.bool th] 117);have HH:=hid h3;clear h3
 rcases main with⟨d0,d1⟩ | ⟨rfl | ⟨d0,rfl⟩,a0 | ⟨a0,a1 | ⟨a1,a2 | ⟨a2,a3 | ⟨a3,a4 | ⟨a4,a5⟩⟩⟩⟩⟩⟩
 all_goals
  go_enter func46,ntmps46;go_wp2_with fail;refine(HR.out _).mono ?_;rintro e w1⟨hb,pb,rfl,_,_⟩;have HB:Hid (Below w.heap.size w w1):=(below_alloc1 _ _).trans (hb.mono (by simp));have h3:=(hb.block _ (ah HH.out)).trans HH.out;have c0:=cell_of h3 0 rfl;have c1:=cell_of h3 1 (v:=.int .i64 ao) rfl;have c2:=cell_of h3 2 (v:=.int .i64 narrow) rfl;have c3:=cell_of h3 3 (v:=.int .i64 aj) rfl;clear hb HR h3 HH;go_wp2_with fail;try simp only[Exit.inBlock,Exit.then]
  refine bodyPost_ret (v:=.tuple #[.slice none 0 0,.slice none 0 0,.int .i64 5,.int .i64 0]) (by simp[results,results46,go_sem]) rfl ?_;exact⟨rfl,HB.out⟩
end
end RI
end
section
namespace RI
theorem PN(s:ByteArray)(hmax:s.size<=1048576)(ao narrow aj:Nat)(hP:ao<=4/\narrow<=3/\aj<=3)(th:Bool)(w:Wd){t:Bl}(ht:Sp.tree s.data.toList=.ok t) :
  Calls prog 46 #[.string s,.agg #[.int .i64 0,.int .i64 (ao:Nat),.int .i64 (narrow:Nat),.int .i64 (aj:Nat),.bool th]] w fun e w'=>∃(C:Rc) (F:jB),e=.returned (.tuple #[.slice (some ⟨C.gf,0,none⟩) F.1.length F.1.length,.slice (some ⟨C.gs,0,none⟩) F.2.length F.2.length,.int .i64 0,.int .i64 0])/\bx C F w'/\F=da (oN (pr th t)) ⟨ao,narrow,aj⟩ t/\Below w.heap.size w w':=by
 have hr:=fun w':Wd=>oE s hmax w'
 unfold gY at hr;rw[ht]at hr;have HR:=hid hr;obtain⟨s1,s2,s3⟩:=vg ht;have HFW:Hid ((bu t).length<=800):=CY ht;have QW:Hid (Sp.Small (0,0) (Sp.pB t) (Sp.qB t)):=by unfold Hid Sp.Small;simp only;omega
 have tQ:=hid s3;obtain⟨n,hn⟩:∃n,n=Sp.pB t+1:=⟨_,rfl⟩;obtain⟨m,hm⟩:∃m,m=Sp.qB t:=⟨_,rfl⟩;have QZ:Hid (n=Sp.pB t+1/\m=Sp.qB t):=⟨hn,hm⟩;have VT:n<=401:=by omega
 have hm4:m<=400:=by omega
 obtain⟨cz,NA,Ku⟩:=OV n (by omega);have Tm:=hid NA;have Q8:=WI.wD m (by omega);obtain⟨sz,dI⟩:∃x,x=(WI.cQ (List.replicate m 0)).toArray:=⟨_,rfl⟩;rw[<-dI]at Q8;have uh:=hid dI;obtain⟨q1,q2,q3⟩:=hP;have p1:¬ ((ao:Nat):Int)<0:=by omega
 have p2:¬ 4<((ao:Nat):Int):=by omega
 have p3:¬ ((narrow:Nat):Int)<0:=by omega
 have p4:¬ 3<((narrow:Nat):Int):=by omega
 have p5:¬ ((aj:Nat):Int)<0:=by omega
 have p6:¬ 3<((aj:Nat):Int):=by omega
 have h3:=heap_alloc_new w (.cells #[.int .i64 0,.int .i64 (ao:Nat),.int .i64 (narrow:Nat),.int .i64 (aj:Nat),.bool th] 117);have HH:=hid h3;clear hr h3 s1 s2 s3 hn hm NA dI ht;go_enter func46,ntmps46;go_wp2_with fail;refine(HR.out _).mono ?_;rintro e w1⟨hb,pb,rfl,Rj,Dy⟩;have HB:Hid (Below w.heap.size w w1):=(below_alloc1 _ _).trans (hb.mono (by simp));have h3:=(hb.block _ (ah HH.out)).trans HH.out;obtain⟨ns,first,qa,qc,nv,ct,Yg,qL,Hf,DU,uS,hq3,XW⟩:=yD.az Dy QW.out;rw[<-QZ.1,<-QZ.2]at Yg;obtain⟨qs,Qe⟩:∃qs,qs=di t:=⟨_,rfl⟩;rw[<-Qe]at Yg DU uS XW;have HQS:=hid Qe;have hq8:qs.length<=800:=by rw[Qe,fZ,fV,List.length_map];exact HFW.out
 have mw:=hid qL;have Yb:=hid Hf;have HQ4:=hid XW;have KE:=hid Yg;have H3:=hid h3;clear Qe qL Hf XW hb Dy Rj HR HH Yg;have c0:=cell_of H3.out 0 (v:=.int .i64 0) rfl;have c1:=cell_of H3.out 1 (v:=.int .i64 (ao:Nat)) rfl;have c2:=cell_of H3.out 2 (v:=.int .i64 (narrow:Nat)) rfl;have c3:=cell_of H3.out 3 (v:=.int .i64 (aj:Nat)) rfl;clear h3;go_upto_region 6 with fail;clear c0 c1 c2 c3 p1 p2 p3 p4 p5 p6
 obtain⟨k3,e3⟩:∃k,k=w.heap.size:=⟨_,rfl⟩;rw[<-e3];rw[<-e3]at H3;clear e3
 go_cut [11] from 63 (fun v11 wc=>∃b gf gs:Nat,v11=.pointer (some ⟨b,0,none⟩)/\Hid (iA w1 ⟨w1.heap.size,b,pb,gf,gs,ao,narrow,aj,th,.slice none 0 0⟩ n m 0 wc))
 case first =>
  have Q6:w1.drew.heap[pb]?=some (.cells #[nv,.int .i64 first,.int .i64 (n:Nat),.int .i64 (m:Nat),.slice qa qs.length qc] 105)/\w1.drew.heap[k3]?=some (.cells #[.int .i64 0,.int .i64 (ao:Nat),.int .i64 (narrow:Nat),.int .i64 (aj:Nat),.bool th] 117):=⟨KE.out,H3.out⟩;refine wp_region_held_drew (S:=fun w':Wd=>w'.heap[pb]?=some (.cells #[nv,.int .i64 first,.int .i64 (n:Nat),.int .i64 (m:Nat),.slice qa qs.length qc] 105)/\w'.heap[k3]?=some (.cells #[.int .i64 0,.int .i64 (ao:Nat),.int .i64 (narrow:Nat),.int .i64 (aj:Nat),.bool th] 117)) (by kernel_rfl) Q6 (fun aa=>?_);refine tq 0 (.pointer (some ⟨pb,0,none⟩)) aa ?_;refine tk 1 (.agg #[.int .i64 0,.int .i64 (ao:Nat),.int .i64 (narrow:Nat),.int .i64 (aj:Nat),.bool th]) rfl (fun w' h=>by have q0:=cell_of h.2 0 rfl;have q1:=cell_of h.2 1 rfl;have q2:=cell_of h.2 2 rfl;have q3:=cell_of h.2 3 rfl;have q4:=cell_of h.2 4 rfl;go_simp) aa ?_;refine tq 2 (.pointer (some ⟨pb,0,none⟩)) aa ?_;refine tq 3 (.pointer (some ⟨pb,0,none⟩)) aa ?_;refine tq 4 (.pointer (some ⟨pb,2,none⟩)) aa ?_;refine tk 5 (.int .i64 (n:Nat)) rfl (fun w' h=>by have q:=cell_of h.1 2 rfl;go_simp) aa ?_;refine tq 7 (.pointer (some ⟨pb,0,none⟩)) aa ?_;refine tq 8 (.pointer (some ⟨pb,0,none⟩)) aa ?_;refine tq 9 (.pointer (some ⟨pb,3,none⟩)) aa ?_;refine tk 10 (.int .i64 (m:Nat)) rfl (fun w' h=>by have q:=cell_of h.1 3 rfl;go_simp) aa ?_;have HK:Hid (∀W W':Wd,Below W.heap.size W W'->(W.heap[pb]?=some (.cells #[nv,.int .i64 first,.int .i64 (n:Nat),.int .i64 (m:Nat),.slice qa qs.length qc] 105)/\W.heap[k3]?=some (.cells #[.int .i64 0,.int .i64 (ao:Nat),.int .i64 (narrow:Nat),.int .i64 (aj:Nat),.bool th] 117))->(W'.heap[pb]?=some (.cells #[nv,.int .i64 first,.int .i64 (n:Nat),.int .i64 (m:Nat),.slice qa qs.length qc] 105)/\W'.heap[k3]?=some (.cells #[.int .i64 0,.int .i64 (ao:Nat),.int .i64 (narrow:Nat),.int .i64 (aj:Nat),.bool th] 117))):=fun W W' b h=>⟨(b.block _ (ah h.1)).trans h.1,(b.block _ (ah h.2)).trans h.2⟩
  have HV:Hid (Below w1.heap.size w1 w1.drew):=(Below.refl _ _).drew;clear Q6;generalize w1.drew=V at *;refine Kn 6 11 (fun K hK=>?c1) (fun K hK=>?c2)
  case' c1 =>
   simp only[bT,gN];go_simp;refine hK.out _ _ (HK.out _ _ (below_alloc1 V (.cells cz 121)) aa) (fun aa=>?_);clear hK K;refine cH 11 fun K hK=>?_
   simp only[bT];go_simp;refine hK.out _ _ (HK.out _ _ (below_alloc1 _ (.cells sz 3)) aa) (fun aa=>?_);clear hK K;obtain⟨g1,g2,gb⟩:=eY (w:=V) (o1:=.cells cz 121) (o2:=.cells sz 3) (Below.refl _ _);have HX:Hid (((V.alloc (.cells cz 121)).alloc (.cells sz 3)).heap[V.heap.size]?=some (.cells cz 121)/\((V.alloc (.cells cz 121)).alloc (.cells sz 3)).heap[V.heap.size+1]?=some (.cells sz 3)/\Below w1.heap.size w1 ((V.alloc (.cells cz 121)).alloc (.cells sz 3))/\w1.heap.size<=V.heap.size/\w1.heap.size<=V.heap.size+1):=⟨g1,g2,HV.trans (gb.mono HV.size),HV.size,Nat.le_succ_of_le HV.size⟩;clear g1 g2 gb;generalize (V.alloc (.cells cz 121)).alloc (.cells sz 3)=X at *;generalize V.heap.size+1=gs at *;generalize V.heap.size=gf at *
  case' c2 =>
   simp only[bT,gN];go_simp;refine hK.out _ _ (HK.out _ _ (below_alloc1 V (.cells sz 3)) aa) (fun aa=>?_);clear hK K;refine cH 6 fun K hK=>?_
   simp only[bT];go_simp;refine hK.out _ _ (HK.out _ _ (below_alloc1 _ (.cells cz 121)) aa) (fun aa=>?_);clear hK K;obtain⟨g1,g2,gb⟩:=eY (w:=V) (o1:=.cells sz 3) (o2:=.cells cz 121) (Below.refl _ _);have HX:Hid (((V.alloc (.cells sz 3)).alloc (.cells cz 121)).heap[V.heap.size+1]?=some (.cells cz 121)/\((V.alloc (.cells sz 3)).alloc (.cells cz 121)).heap[V.heap.size]?=some (.cells sz 3)/\Below w1.heap.size w1 ((V.alloc (.cells sz 3)).alloc (.cells cz 121))/\w1.heap.size<=V.heap.size+1/\w1.heap.size<=V.heap.size):=⟨g2,g1,HV.trans (gb.mono HV.size),Nat.le_succ_of_le HV.size,HV.size⟩;clear g1 g2 gb;generalize (V.alloc (.cells sz 3)).alloc (.cells cz 121)=X at *;generalize V.heap.size+1=gf at *;generalize V.heap.size=gs at *
  all_goals
   have hbu:=Ng pb (ao:Nat) (narrow:Nat) (aj:Nat) th (some ⟨gf,0,none⟩) n (some ⟨gs,0,none⟩) m;refine tq 12 (.agg #[.pointer (some ⟨pb,0,none⟩),.int .i64 0,.int .i64 (ao:Nat),.int .i64 (narrow:Nat),.int .i64 (aj:Nat),.bool th,.slice none 0 0,.slice (some ⟨gf,0,none⟩) n n,.slice (some ⟨gs,0,none⟩) m m]) aa ?_;refine cH 13 fun K hK=>?_
   simp only[bT];go_simp;refine hK.out _ _ (HK.out _ _ (below_alloc1 X (.cells #[.pointer (some ⟨pb,0,none⟩),.int .i64 0,.int .i64 (ao:Nat),.int .i64 (narrow:Nat),.int .i64 (aj:Nat),.bool th,.slice none 0 0,.slice (some ⟨gf,0,none⟩) n n,.slice (some ⟨gs,0,none⟩) m m] 186)) aa) (fun aa=>?_);clear hK K;refine cH 14 fun K hK=>?_
   simp only[bT];go_simp;refine hK.out _ _ aa (fun _=>?_);clear hK K;refine wpAnyH_done (by kernel_rfl) ?_ _;have HZ:Hid (iA w1 ⟨w1.heap.size,X.heap.size,pb,gf,gs,ao,narrow,aj,th,.slice none 0 0⟩ n m 0 (X.alloc (.cells #[.pointer (some ⟨pb,0,none⟩),.int .i64 0,.int .i64 (ao:Nat),.int .i64 (narrow:Nat),.int .i64 (aj:Nat),.bool th,.slice none 0 0,.slice (some ⟨gf,0,none⟩) n n,.slice (some ⟨gs,0,none⟩) m m] 186))):=by obtain⟨x1,x2,x3,x4,x5⟩:=HX.out;have b:=below_alloc1 X (.cells #[.pointer (some ⟨pb,0,none⟩),.int .i64 0,.int .i64 (ao:Nat),.int .i64 (narrow:Nat),.int .i64 (aj:Nat),.bool th,.slice none 0 0,.slice (some ⟨gf,0,none⟩) n n,.slice (some ⟨gs,0,none⟩) m m] 186);exact⟨x3.trans (b.mono x3.size),heap_alloc_new _ _,⟨cz,(b.block _ (ah x1)).trans x1,Tm.out,fun p hp=>absurd hp (Nat.not_lt_zero _)⟩,by rw[<-uh.out];exact(b.block _ (ah x2)).trans x2,rfl,x3.size,x4,x5⟩
   clear hbu aa;go_wp2_with fail;go_meet;exact⟨_,gf,gs,rfl,HZ⟩
 case rest =>
  obtain⟨b,gf,gs,rfl,hAz⟩:=hcut;clear Ku Q8 Tm uh;go_wp2_with fail
  go_loopw [12] (fun v12 wr=>∃i:Nat,i<=n/\v12=.int .i64 i/\Hid (iA w1 ⟨w1.heap.size,b,pb,gf,gs,ao,narrow,aj,th,.slice none 0 0⟩ n m i wr)) (fun v12 _=>n - (intOf v12).toNat)
  case atStart=>exact⟨0,Nat.zero_le _,rfl,hAz⟩
  case round =>
   obtain⟨i,hi,rfl,hq⟩:=hrel;clear hAz;have rQ:=cell_of ((hq.DM.block _ (ah KE.out)).trans KE.out) 2 (v:=.int .i64 (n:Nat)) rfl;by_cases Zo:i<n
   ·have To:((i:Nat):Int)<((n:Nat):Int):=by omega
    have kC:((n:Nat):Int)<=401:=by omega
    obtain⟨J2,HJ⟩:∃J2,Hid (J2=i*2):=⟨_,rfl⟩;have HN:Hid (∀W:Wd,iA w1 ⟨w1.heap.size,b,pb,gf,gs,ao,narrow,aj,th,.slice none 0 0⟩ n m i W->iA w1 ⟨w1.heap.size,b,pb,gf,gs,ao,narrow,aj,th,.slice none 0 0⟩ n m (i+1) ((W.setCell ⟨gf,J2,none⟩ (.bool true)).setCell ⟨gf,J2+1,none⟩ (.slice none 0 0))):=fun W h=>by rw[HJ.out];exact h.pt Zo
    go_upto_region 10 with fail;have h0:iA w1 ⟨w1.heap.size,b,pb,gf,gs,ao,narrow,aj,th,.slice none 0 0⟩ n m i wr.drew:=hq.call (Below.refl _ _).drew
    have HF:Hid (∀W:Wd,iA w1 ⟨w1.heap.size,b,pb,gf,gs,ao,narrow,aj,th,.slice none 0 0⟩ n m i W->W.cell? ⟨b,7,none⟩=some (.slice (some ⟨gf,0,none⟩) n n)/\(∃u,W.cell? ⟨gf,J2,none⟩=some u)/\(∃u,W.cell? ⟨gf,J2+1,none⟩=some u)/\W.frozen? ⟨gf,J2,none⟩=false/\W.frozen? ⟨gf,J2+1,none⟩=false):=fun W h=>by obtain⟨c,c1,c2,_⟩:=h.gf;rw[HJ.out];exact⟨cell_of h.aV 7 rfl,⟨_,cell_of c1 _ (Array.getElem?_eq_getElem (by omega))⟩,⟨_,cell_of c1 _ (Array.getElem?_eq_getElem (by omega))⟩,aw c1 _,aw c1 _⟩
    refine wp_region_held_drew (S:=fun w':Wd=>w'.cell? ⟨b,7,none⟩=some (.slice (some ⟨gf,0,none⟩) n n)) (by kernel_rfl) (HF.out _ h0).1 (fun aa=>?_);have H0:=hid h0;clear h0 hq rQ;generalize wr.drew=V at *;refine tq 0 (.pointer (some ⟨b,0,none⟩)) aa ?_;refine tq 1 (.pointer (some ⟨b,0,none⟩)) aa ?_;refine tq 2 (.pointer (some ⟨b,7,none⟩)) aa ?_;refine tq 3 (.slice (some ⟨gf,0,none⟩) n n) aa ?_;refine tq 4 (.int .i64 (i:Nat)) aa ?_;refine cH 5 fun K hK=>?_
    simp only[bT,gN];go_simp;refine(fl _).mono ?_;rintro r w8⟨rfl,b8⟩;have H8:=hid (H0.call b8);go_wp2_with fail;refine hK.out _ _ (HF.out _ H8.out).1 (fun aa=>?_);clear hK K b8 H0;refine tk 6 (.pointer (some ⟨gf,J2,none⟩)) rfl (fun w' h=>by rw[HJ.out];go_simp) aa ?_;obtain⟨_,⟨u1,f1⟩,⟨u2,f2⟩,f3,f4⟩:=HF.out _ H8.out;have H9:=hid (HN.out _ H8.out);refine cH 7 fun K hK=>?_
    simp only[bT];go_simp;refine hK.out _ _ (by have q:=cell_of H9.aV 7 (v:=.slice (some ⟨gf,0,none⟩) n n) rfl;exact q) (fun _=>?_);clear hK K f1 f2 f3 f4 H8;refine wpAnyH_done (by kernel_rfl) ?_ _;go_wp2_with fail;exact⟨⟨i+1,by omega,by go_num,H9⟩,by simp[intOf];omega⟩
   ·obtain rfl:i=n:=by omega
    obtain⟨ii,To,hiz,his,hib⟩:=info_parts WI.MN;have HB0:Hid (w1.heap.size<=wr.heap.size/\b<wr.heap.size/\gf<wr.heap.size/\gs<wr.heap.size):=by obtain⟨c,c1,_,_⟩:=hq.gf;exact⟨hq.DM.size,ah hq.aV,ah c1,ah hq.gs⟩
    obtain⟨B,eB⟩:∃B,B=wr.heap.size:=⟨_,rfl⟩;have HBB:Hid (w1.heap.size<=B/\b<B/\gf<B/\gs<B):=by rw[eB];exact HB0.out
    have Bn:Hid (iA w1 ⟨w1.heap.size,b,pb,gf,gs,ao,narrow,aj,th,.slice none 0 0⟩ i m i wr/\wr.ownsRow B 3 1 (.slice none 0 0) (0*2) ((uG (qs.take 0)).map fun z=>.int .i64 z)/\B<=wr.heap.size):=⟨hq.out,⟨rfl,.inl ⟨rfl,rfl⟩⟩,by omega⟩;have HQI:Hid (∀q∈qs,Qx q):=by intro q hqm;rw[HQS.out,fZ]at hqm;exact tQ.out q hqm
    clear HB0 eB hq;go_wp2_with fail;clear rQ
    go_loopw [13] (fun Ta wr=>∃(j:Nat) (sv:Value),j<=qs.length/\(th=false->j=0)/\Ta=.int .i64 j/\Hid (iA w1 ⟨w1.heap.size,b,pb,gf,gs,ao,narrow,aj,th,sv⟩ i m i wr/\wr.ownsRow B 3 1 sv (j*2) ((uG (qs.take j)).map fun z=>.int .i64 z)/\B<=wr.heap.size)) (fun Ta _=>qs.length - (intOf Ta).toNat)
    case atStart=>exact⟨0,.slice none 0 0,Nat.zero_le _,fun _=>rfl,rfl,Bn⟩
    case round =>
     obtain⟨j,sv,hj,hjt,rfl,hq⟩:=hrel;clear Bn;have h3:=(hq.1.DM.block _ (ah H3.out)).trans H3.out;have Rj:=(hq.1.DM.block _ (ah KE.out)).trans KE.out;have g4:=cell_of h3 4 (v:=.bool th) rfl;have p4:=cell_of Rj 4 (v:=.slice qa qs.length qc) rfl;have aax:((qs.length:Nat):Int)<=2000:=by omega
     have Zs:=hid Rj;clear h3 Rj;have more:(th=true/\j<qs.length)∨(th=false∨th=true/\¬ j<qs.length):=by
      cases th<;>by_cases h:j<qs.length<;>simp[h]
     rcases more with⟨rfl,DH⟩ | NI
     ·obtain⟨q,Vx⟩:∃q,qs[j]?=some q:=⟨_,List.getElem?_eq_getElem DH⟩
      have uq:((j:Nat):Int)<((qs.length:Nat):Int):=by omega
      obtain⟨gq,rfl,hgq,hcq⟩:=HQ4.out j q Vx;have VZ:wr.cell? ⟨gq,j,none⟩=some (.int .i64 q):=by rw[hq.1.DM.cell (p:=⟨gq,j,none⟩) hgq];exact hcq
      obtain⟨i1,i2⟩:=HQI.out q (List.mem_of_getElem? Vx);have Xz:IntKind.i64.wrap (-q)=-q:=by rw[IntKind.wrap_i64];omega
      have jd:Hid ((uG (qs.take (j+1))).map (fun z=>Value.int .i64 z)=((uG (qs.take j)).map fun z=>Value.int .i64 z) ++ [.int .i64 q,.int .i64 (-q)]):=by unfold Hid;rw[Ld qs j q Vx,List.map_append];rfl
      have HGQ:=hid hgq;go_upto_region 14 with fail;have h0:iA w1 ⟨w1.heap.size,b,pb,gf,gs,ao,narrow,aj,true,sv⟩ i m i wr.drew:=hq.1.call (Below.refl _ _).drew
      have eN:wr.drew.ownsRow B 3 1 sv (j*2) ((uG (qs.take j)).map fun z=>Value.int .i64 z):=aZ hq.2.1 (fun _ _=>rfl);have hBW:B<=wr.drew.heap.size:=hq.2.2;have Q6:wr.drew.heap[pb]?=some (.cells #[nv,.int .i64 first,.int .i64 (i:Nat),.int .i64 (m:Nat),.slice (some ⟨gq,0,none⟩) qs.length qc] 105)/\wr.drew.cell? ⟨gq,j,none⟩=some (.int .i64 q):=⟨Zs.out,VZ⟩;obtain⟨sa,sc,rfl⟩:∃a c,sv=.slice a (j*2) c:=by
       rcases eN.2 with⟨a1,a2⟩ | ⟨g',cap,cur,a1,_⟩
       ·exact⟨none,0,by rw[a1,a2]⟩
       ·exact⟨_,_,a1⟩
      refine wp_region_held_drew (S:=fun w':Wd=>w'.heap[pb]?=some (.cells #[nv,.int .i64 first,.int .i64 (i:Nat),.int .i64 (m:Nat),.slice (some ⟨gq,0,none⟩) qs.length qc] 105)/\w'.cell? ⟨gq,j,none⟩=some (.int .i64 q)) (by kernel_rfl) Q6 (fun aa=>?_);clear Q6 g4 p4 Zs VZ hcq hgq hq;generalize wr.drew=V at *;have m6:=cell_of h0.aV 6 (v:=.slice sa (j*2) sc) rfl;refine tq 0 (.pointer (some ⟨b,0,none⟩)) aa ?_;refine tq 1 (.pointer (some ⟨b,0,none⟩)) aa ?_;refine tq 2 (.pointer (some ⟨b,0,none⟩)) aa ?_;refine tq 3 (.pointer (some ⟨b,6,none⟩)) aa ?_;refine tq 5 (.pointer (some ⟨pb,0,none⟩)) aa ?_;refine tq 6 (.pointer (some ⟨pb,0,none⟩)) aa ?_;refine tq 7 (.pointer (some ⟨pb,4,none⟩)) aa ?_;refine tk 8 (.slice (some ⟨gq,0,none⟩) qs.length qc) rfl (fun w' h=>by have q4:=cell_of h.1 4 (v:=.slice (some ⟨gq,0,none⟩) qs.length qc) rfl;go_simp) aa ?_;refine tq 9 (.int .i64 (j:Nat)) aa ?_;refine tq 10 (.pointer (some ⟨gq,j,none⟩)) aa ?_;refine tk 11 (.int .i64 q) rfl (fun w' h=>by have q4:=h.2;go_simp) aa ?_;refine tq 12 (.pointer (some ⟨pb,0,none⟩)) aa ?_;refine tq 13 (.pointer (some ⟨pb,0,none⟩)) aa ?_;refine tq 14 (.pointer (some ⟨pb,4,none⟩)) aa ?_;refine tk 15 (.slice (some ⟨gq,0,none⟩) qs.length qc) rfl (fun w' h=>by have q4:=cell_of h.1 4 (v:=.slice (some ⟨gq,0,none⟩) qs.length qc) rfl;go_simp) aa ?_;refine tq 16 (.int .i64 (j:Nat)) aa ?_;refine tq 17 (.pointer (some ⟨gq,j,none⟩)) aa ?_;refine tk 18 (.int .i64 q) rfl (fun w' h=>by have q4:=h.2;go_simp) aa ?_;refine tq 19 (.int .i64 (-q)) aa ?_;have X0:Hid (∀W W':Wd,Below w1.heap.size W W'->(W.heap[pb]?=some (.cells #[nv,.int .i64 first,.int .i64 (i:Nat),.int .i64 (m:Nat),.slice (some ⟨gq,0,none⟩) qs.length qc] 105)/\W.cell? ⟨gq,j,none⟩=some (.int .i64 q))->(W'.heap[pb]?=some (.cells #[nv,.int .i64 first,.int .i64 (i:Nat),.int .i64 (m:Nat),.slice (some ⟨gq,0,none⟩) qs.length qc] 105)/\W'.cell? ⟨gq,j,none⟩=some (.int .i64 q))):=fun W W' bb h=>⟨(bb.block _ (ah KE.out)).trans h.1,by rw[bb.cell (p:=⟨gq,j,none⟩) HGQ.out];exact h.2⟩
      have hwV:=h0.DM.size;have m6':(V.alloc (.cells #[.int .i64 q,.int .i64 (-q)] 3)).cell? ⟨b,6,none⟩=some (.slice sa (j*2) sc):=by rw[(below_alloc1 V (.cells #[.int .i64 q,.int .i64 (-q)] 3)).cell (p:=⟨b,6,none⟩) (ah h0.aV)];exact m6
      refine Kn 4 20 (fun K hK=>?d1) (fun K hK=>?d2)
      case' d1 =>
       simp only[bT,gN];go_simp;refine hK.out _ _ aa (fun aa=>?_);clear hK K;refine cH 20 fun K hK=>?_
       simp only[bT];go_simp;refine hK.out _ _ (X0.out _ _ ((below_alloc1 V (.cells #[.int .i64 q,.int .i64 (-q)] 3)).mono hwV) aa) (fun aa=>?_);clear hK K
      case' d2 =>
       simp only[bT,gN];go_simp;refine hK.out _ _ (X0.out _ _ ((below_alloc1 V (.cells #[.int .i64 q,.int .i64 (-q)] 3)).mono hwV) aa) (fun aa=>?_);clear hK K;refine cH 4 fun K hK=>?_
       simp only[bT];go_simp;refine hK.out _ _ aa (fun aa=>?_);clear hK K
      all_goals
       have hX:=h0.call (below_alloc1 V (.cells #[.int .i64 q,.int .i64 (-q)] 3));have ZI:(V.alloc (.cells #[.int .i64 q,.int .i64 (-q)] 3)).ownsRow B 3 1 (.slice sa (j*2) sc) (j*2) ((uG (qs.take j)).map fun z=>Value.int .i64 z):=aZ eN (fun k hk=>Below.heap_alloc _ _ _ (bj eN k hk).2.1);have pF:=heap_alloc_new V (.cells #[.int .i64 q,.int .i64 (-q)] 3);have hBX:B<=(V.alloc (.cells #[.int .i64 q,.int .i64 (-q)] 3)).heap.size:=by simp;omega
       clear m6 m6' h0 eN;generalize V.alloc (.cells #[.int .i64 q,.int .i64 (-q)] 3)=X at *;generalize V.heap.size=kx at *;obtain⟨v',w',hr,g2,g3,_,_⟩:=run_append_own_at (P:=prog) X B 35 35 3 ii (.int .i64 0) 1 8 underlying35 To hiz his hib rfl (by decide) _ _ _ ZI ⟨kx,0,none⟩ 2 2 [.int .i64 q,.int .i64 (-q)] rfl (World.news_of_block (cs:=#[.int .i64 q,.int .i64 (-q)]) (t:=3) (fr:=(0,0)) pF) (by simp[Value.oneCell']) (by unfold maxLen;omega) (by omega) hBX;have Yp:Below B X w':=(Below.refl _ _).grown g3 hBX (fun k hk=>(bj ZI k hk).1);obtain⟨u1,u2,u3,u4⟩:=HBB.out;have Xf:=hX.grown u1 Yp u2 u3 u4;obtain⟨gn,cn,rfl⟩:∃a c,v'=.slice a (j*2+2) c:=by
        rcases g2.2 with⟨_,a2⟩ | ⟨g',cap,cur,a1,_⟩
        ·omega
        ·exact⟨_,_,a1⟩
       refine cH 21 fun K hK=>?_
       simp only[bT];rw[if_pos (by rfl)];refine SG _ _ _ rfl rfl rfl hr ?_;simp only[Act.put];refine hK.out _ _ (X0.out _ _ (Yp.mono u1) aa) (fun aa=>?_);clear hK K hr;refine tq 22 (.pointer (some ⟨b,0,none⟩)) aa ?_;refine tq 23 (.pointer (some ⟨b,6,none⟩)) aa ?_;have x6:=cell_of Xf.aV 6 (v:=.slice sa (j*2) sc) rfl;have f6:=aw Xf.aV 6;have HF:Hid (iA w1 ⟨w1.heap.size,b,pb,gf,gs,ao,narrow,aj,true,.slice gn (j*2+2) cn⟩ i m i (w'.setCell ⟨b,6,none⟩ (.slice gn (j*2+2) cn))/\(w'.setCell ⟨b,6,none⟩ (.slice gn (j*2+2) cn)).ownsRow B 3 1 (.slice gn (j*2+2) cn) ((j+1)*2) ((uG (qs.take (j+1))).map fun z=>.int .i64 z)/\B<=(w'.setCell ⟨b,6,none⟩ (.slice gn (j*2+2) cn)).heap.size):=by
        refine⟨Xf.steps _,?_,?_⟩
        ·rw[jd.out,show(j+1)*2=j*2+2 by omega]
         exact aZ g2 (fun k hk=>Below.heap_setCell _ _ _ _ (by have:=(bj g2 k hk).1;show k≠b;omega))
        ·have:=Yp.size;simp only[World.setCell,Array.size_modify];omega
       refine cH 24 fun K hK=>?_
       simp only[bT];go_simp;refine hK.out _ _ (X0.out _ _ ((Below.refl _ _).setCell (p:=⟨b,6,none⟩) Xf.lb _) aa) (fun _=>?_);clear hK K x6 f6 Xf hX ZI pF g2 g3 Yp aa;refine wpAnyH_done (by kernel_rfl) ?_ _;go_wp2_with fail;exact⟨⟨j+1,_,by omega,(fun h=>by cases h),by go_num,HF⟩,by simp[intOf];omega⟩
     ·obtain⟨L,hL⟩:∃L:List Int,L=uG (qs.take j):=⟨_,rfl⟩
      have HL:Hid (L=if th then uG qs else []):=by
       unfold Hid
       rcases NI with rfl | ⟨rfl,hn⟩
       ·rw[hL,hjt rfl];rfl
       ·rw[hL,List.take_of_length_le (by omega)];rfl
      have Xv:gH ⟨w1.heap.size,b,pb,gf,gs,ao,narrow,aj,th,sv⟩ L wr:=by
       obtain⟨_,eN,_⟩:=hq.out;have hlen:L.length=j*2:=by rw[hL,PK,List.length_take,Nat.min_eq_left hj]
       refine⟨?_,by omega⟩
       rcases eN.2 with⟨a1,a2⟩ | ⟨DZ,cap,cur,a1,a2,a3,a4,a5,a6,a7⟩
       ·exact .inl ⟨List.eq_nil_of_length_eq_zero (by omega),a1⟩
       ·obtain⟨_,_,b3,b4⟩:=HBB.out
        refine .inr ⟨DZ,cap,cur,by rw[hlen];exact a1,a3,fun k z hz=>?_,by show DZ≠gf;omega,by show DZ≠gs;omega,by omega,a5⟩;have hk:=(List.getElem?_eq_some_iff.1 hz).1;have q2:(cur.toList.take (j*2*1))[k]?=some (.int .i64 z):=by rw[a7,List.getElem?_map,<-hL,hz];rfl
        rw[List.getElem?_take_of_lt (by omega)]at q2;rw[<-Array.getElem?_toList];exact q2
      have HSP:=hid Xv;have Hu:Hid (bx ⟨w1.heap.size,b,pb,gf,gs,ao,narrow,aj,th,sv⟩ (List.replicate i none,List.replicate m 0) wr):=hq.1.ra (by omega) (by omega);have Yv:=hid hq.1.DM;have Wa:gf<wr.heap.size/\gs<wr.heap.size:=by obtain⟨_,_,b3,b4⟩:=HBB.out;have:=hq.2.2;omega
      clear Xv hq hjt hL;have Rf:=Eo;obtain⟨zz,rS⟩:∃zz,zz=XJ:=⟨_,rfl⟩;rw[<-rS]at Rf;have Ty:Hid (zz=gF (fun _=>zT)):=by rw[rS];exact Li
      clear rS;have hE:(th=false∨th=true/\¬ ((j:Nat):Int)<((qs.length:Nat):Int)):=by
       rcases NI with h | ⟨h1,h2⟩
       ·exact .inl h
       ·exact .inr ⟨h1,by omega⟩
      clear NI;have Rl:=hid Wa;clear Wa
      rcases hE with hE | ⟨hE,hE2⟩
      all_goals
       rw[hE]at g4;clear hE;go_upto_region 16 with fail;obtain⟨y1,y2,yb⟩:=eY (w:=wr) (o1:=.cells zz 191) (o2:=.cells #[.bool false,.slice (some ⟨wr.heap.size,0,none⟩) 8 8] 121) (Below.refl _ _)
       have HY:Hid (bx _ _ _/\gH _ L _/\Below w1.heap.size w1 _):=And.intro (Hu.call yb) (And.intro (HSP.bF (RK.aB yb Hu.le)) (Yv.trans (yb.mono Yv.size)));have hlq:=Yv.size;clear yb Hu HSP Yv g4 p4 Zs Rf;try clear hE2
       generalize (wr.alloc (.cells zz 191)).alloc (.cells #[.bool false,.slice (some ⟨wr.heap.size,0,none⟩) 8 8] 121)=Y at *;obtain⟨kX,e14⟩:∃k,k=wr.heap.size+1:=⟨_,rfl⟩;rw[<-e14];rw[<-e14]at y2;have Vq:w1.heap.size<=kX/\gf<kX/\gs<kX:=by have:=Rl.out;omega
       clear e14 Rl;generalize wr.heap.size=mo at *;have HYY:Hid (Y.heap[mo]?=some (.cells zz 191)/\Y.heap[kX]?=some (.cells #[.bool false,.slice (some ⟨mo,0,none⟩) 8 8] 121)/\w1.heap.size<=kX/\gf<kX/\gs<kX):=⟨y1,y2,Vq⟩;clear y1 y2 hlq Vq;obtain⟨es,u,hu⟩:∃es u,cF ([-32768,32767] ++ L) ⟨w1.heap.size,b,pb,gf,gs,ao,narrow,aj,th,sv⟩ t (0,0) (some fun _=>zT)=(es,u):=⟨_,_,rfl⟩;obtain⟨Zu,rg2⟩:=Oo ([-32768,32767] ++ L) ⟨w1.heap.size,b,pb,gf,gs,ao,narrow,aj,th,sv⟩ QW.out (fun _=>zT) hu;have Tb:=Se ([-32768,32767] ++ L) ⟨w1.heap.size,b,pb,gf,gs,ao,narrow,aj,th,sv⟩ QW.out hu;rw[<-QZ.1,<-QZ.2]at Zu rg2 Tb;have Kf:=hid Tb;have Xg:=hid rg2;have hD:=fun(W:Wd) (h1:bx ⟨w1.heap.size,b,pb,gf,gs,ao,narrow,aj,th,sv⟩ (List.replicate i none,List.replicate m 0) W) (h2:gH ⟨w1.heap.size,b,pb,gf,gs,ao,narrow,aj,th,sv⟩ L W) (h3:Below w1.heap.size w1 W) (h4:W.heap[mo]?=some (.cells zz 191))=>RV ([-32768,32767] ++ L) L rfl (C:=⟨w1.heap.size,b,pb,gf,gs,ao,narrow,aj,th,sv⟩) ⟨q1,q2,q3⟩ mw.out tQ.out rfl (ah KE.out) Yb.out h3 h1 h2 (e:=fun _=>zT) (ge:=mo) (fun _=>GG) (by rw[<-Ty.out];exact h4) hu Zu
       have HDO:=hid hD;have N7:Hid (eK u):=by have q:eK (cF ([-32768,32767] ++ L) ⟨w1.heap.size,b,pb,gf,gs,ao,narrow,aj,th,sv⟩ t (0,0) (some fun _=>zT)).2:=Fp _ _ tQ.out (0,0) (fun e' h=>by cases h;exact fun _=>GG);rw[hu]at q;exact q
       clear hu Zu rg2 Tb hD
       -- does
       have Q6:Y.drew.heap[pb]?=some (.cells #[nv,.int .i64 first,.int .i64 (i:Nat),.int .i64 (m:Nat),.slice qa qs.length qc] 105):=(HY.2.2.block _ (ah KE.out)).trans KE.out;have HDC:=hid (HDO.out Y.drew (HY.1.call (Below.refl _ _).drew) (HY.2.1.bF (RK.aB (Below.refl _ _).drew HY.1.le)) (HY.2.2.trans ((Below.refl _ _).drew)) HYY.1);have Tc:Hid (Below w1.heap.size w1 Y.drew):=HY.2.2.trans ((Below.refl _ _).drew);have hk:Y.drew.heap[kX]?=some (.cells #[.bool false,.slice (some ⟨mo,0,none⟩) 8 8] 121):=HYY.2.1;have HKK:=hid hk;obtain⟨Bh,Qf,_⟩:=aH hk;refine wp_region_held_drew (S:=fun w':Wd=>w'.heap[pb]?=some (.cells #[nv,.int .i64 first,.int .i64 (i:Nat),.int .i64 (m:Nat),.slice qa qs.length qc] 105)) (by kernel_rfl) Q6 (fun aa=>?_);clear Q6 hk HDO HY;generalize Y.drew=V at *;refine tq 0 (.pointer (some ⟨b,0,none⟩)) aa ?_;refine tq 1 (.pointer (some ⟨pb,0,none⟩)) aa ?_;refine tq 2 (.pointer (some ⟨pb,0,none⟩)) aa ?_;refine tq 3 (.pointer (some ⟨pb,1,none⟩)) aa ?_;refine tk 4 (.int .i64 first) rfl (fun w' h=>by have q:=cell_of h 1 rfl;go_simp) aa ?_;refine cH 5 fun K hK=>?_
       simp only[bT,gN];go_simp;refine hK.out _ _ aa (fun aa=>?_);clear hK K;refine cH 6 fun K hK=>?_
       simp only[bT];go_simp;refine HDC.mono ?_;rintro r w2⟨a2,n2,c2,rfl,WW,k2,fM⟩;have xG:w2.heap[pb]?=some (.cells #[nv,.int .i64 first,.int .i64 (i:Nat),.int .i64 (m:Nat),.slice qa qs.length qc] 105):=(k2.below.block _ (ah KE.out)).trans aa;obtain⟨v1,v2,v3⟩:=HYY.2.2;have Vm:w2.heap[kX]?=some (.cells #[.bool false,.slice (some ⟨mo,0,none⟩) 8 8] 121):=(k2.others _ (ah HKK.out) (by show kX≠gf;omega) (by show kX≠gs;omega)).trans HKK.out;obtain⟨z0,z1,DT,DY,_⟩:=aH Vm;have QO:pb≠kX:=by have:=ah KE.out;omega
       have D0:((w2.setCell ⟨kX,0,none⟩ (.bool u.isNone)).setCell ⟨kX,1,none⟩ (.slice a2 n2 c2)).heap[pb]?=some (.cells #[nv,.int .i64 first,.int .i64 (i:Nat),.int .i64 (m:Nat),.slice qa qs.length qc] 105):=by rw[Below.heap_setCell _ _ _ _ QO,Below.heap_setCell _ _ _ _ QO];exact xG
       have Vn:Hid (bx ⟨w1.heap.size,b,pb,gf,gs,ao,narrow,aj,th,sv⟩ (WI.told ([-32768,32767] ++ L) true (List.replicate i none,List.replicate m 0) es) ((w2.setCell ⟨kX,0,none⟩ (.bool u.isNone)).setCell ⟨kX,1,none⟩ (.slice a2 n2 c2))/\dL ((w2.setCell ⟨kX,0,none⟩ (.bool u.isNone)).setCell ⟨kX,1,none⟩ (.slice a2 n2 c2)) (.agg #[.bool u.isNone,.slice a2 n2 c2]) u/\((w2.setCell ⟨kX,0,none⟩ (.bool u.isNone)).setCell ⟨kX,1,none⟩ (.slice a2 n2 c2)).heap[kX]?=some (Obj.cells #[.bool u.isNone,.slice a2 n2 c2] 121)/\Below w1.heap.size w1 ((w2.setCell ⟨kX,0,none⟩ (.bool u.isNone)).setCell ⟨kX,1,none⟩ (.slice a2 n2 c2))):=And.intro (WW.Jh Vm (by show kX≠gf;omega) (.bool u.isNone) (.slice a2 n2 c2)) (And.intro (fM.put Vm (.bool u.isNone) (.slice a2 n2 c2)) (And.intro (by rw[ai (ai Vm 0 (.bool u.isNone)) 1 (.slice a2 n2 c2)];rfl) (((Tc.trans k2.below).setCell (p:=⟨kX,0,none⟩) v1 _).setCell (p:=⟨kX,1,none⟩) v1 _)));clear Bh Qf WW k2 fM HDC Tc HKK Vm;go_wp2_with fail;refine hK.out _ _ xG (fun aa=>?_);clear hK K;refine cH 7 fun K hK=>?_
       simp only[bT];go_simp;refine hK.out _ _ D0 (fun aa=>?_);clear hK K;refine wpAnyH_done (by kernel_rfl) ?_ _;have yk:=hid D0;clear z0 z1 DT DY xG D0 aa;generalize (w2.setCell ⟨kX,0,none⟩ (.bool u.isNone)).setCell ⟨kX,1,none⟩ (.slice a2 n2 c2)=w3 at *;go_wp2_with fail
       -- come
       have hS1:w3.drew.heap[pb]?=some (.cells #[nv,.int .i64 first,.int .i64 (i:Nat),.int .i64 (m:Nat),.slice qa qs.length qc] 105)/\w3.drew.heap[kX]?=some (Obj.cells #[.bool u.isNone,.slice a2 n2 c2] 121):=⟨yk.out,Vn.2.2.1⟩;have XO:=hid (uY ([-32768,32767] ++ L) ⟨w1.heap.size,b,pb,gf,gs,ao,narrow,aj,th,sv⟩ _ ((Sp.pB t:Nat):Int) u _ true w3.drew (Vn.1.call (Below.refl _ _).drew) (Vn.2.1.below (Below.refl _ _).drew) N7.out Xg.out);have Tc:Hid (Below w1.heap.size w1 w3.drew):=Vn.2.2.2.trans ((Below.refl _ _).drew);have ZR:IntKind.i64.wrap (((i:Nat):Int) - 1)=((Sp.pB t:Nat):Int):=by rw[IntKind.wrap_i64,QZ.1];have:=VT;have:=QZ.1;omega
       refine wp_region_held_drew (S:=fun w':Wd=>w'.heap[pb]?=some (.cells #[nv,.int .i64 first,.int .i64 (i:Nat),.int .i64 (m:Nat),.slice qa qs.length qc] 105)/\w'.heap[kX]?=some (Obj.cells #[.bool u.isNone,.slice a2 n2 c2] 121)) (by kernel_rfl) hS1 (fun aa=>?_);clear hS1 yk Vn;generalize w3.drew=V3 at *;refine tq 0 (.pointer (some ⟨b,0,none⟩)) aa ?_;refine tq 1 (.pointer (some ⟨pb,0,none⟩)) aa ?_;refine tq 2 (.pointer (some ⟨pb,0,none⟩)) aa ?_;refine tq 3 (.pointer (some ⟨pb,2,none⟩)) aa ?_;refine tk 4 (.int .i64 (i:Nat)) rfl (fun w' h=>by have q:=cell_of h.1 2 rfl;go_simp) aa ?_;refine tq 5 (.int .i64 ((Sp.pB t:Nat):Int)) aa ?_;refine tk 6 (.agg #[.bool u.isNone,.slice a2 n2 c2]) rfl (fun w' h=>by have q:=cell_of h.2 0 (v:=.bool u.isNone) rfl;have q2:=cell_of h.2 1 (v:=.slice a2 n2 c2) rfl;go_simp) aa ?_;refine cH 7 fun K hK=>?_
       simp only[bT,gN];go_simp;refine XO.mono ?_;rintro r w4⟨rfl,P2,k4⟩;rw[Kf.out]at P2;have Nr:w4.heap[pb]?=some (.cells #[nv,.int .i64 first,.int .i64 (i:Nat),.int .i64 (m:Nat),.slice qa qs.length qc] 105)/\w4.heap[kX]?=some (Obj.cells #[.bool u.isNone,.slice a2 n2 c2] 121):=⟨(k4.below.block _ (ah KE.out)).trans aa.1,(k4.others _ (ah aa.2) (by show kX≠gf;omega) (by show kX≠gs;omega)).trans aa.2⟩;have DR:Hid (Below w1.heap.size w1 w4):=Tc.trans k4.below;have Ys:Hid (da (Dm ([-32768,32767] ++ L)) (hI ⟨w1.heap.size,b,pb,gf,gs,ao,narrow,aj,th,sv⟩) t=da (oN (pr th t)) ⟨ao,narrow,aj⟩ t):=by
        have q:pr th t=[-32768,32767] ++ L:=by unfold pr;rw[HL.out,HQS.out,fZ];rfl
        unfold Hid;rw[q];rfl
       obtain⟨F4,hF4⟩:∃F4:jB,F4=da (Dm ([-32768,32767] ++ L)) (hI ⟨w1.heap.size,b,pb,gf,gs,ao,narrow,aj,th,sv⟩) t:=⟨_,rfl⟩;rw[<-hF4]at P2;have HF4:Hid (F4=_):=hF4.trans Ys.out;have HR4:=hid P2;have m7:=cell_of P2.aV 7 (v:=.slice (some ⟨gf,0,none⟩) F4.1.length F4.1.length) rfl;have m8:=cell_of P2.aV 8 (v:=.slice (some ⟨gs,0,none⟩) F4.2.length F4.2.length) rfl;clear hF4 P2 k4 XO Tc aa Ys Kf Xg ZR;go_wp2_with fail;refine hK.out _ _ Nr (fun _=>?_);clear hK K Nr;refine wpAnyH_done (by kernel_rfl) ?_ _;go_wp2_with fail;go_quiet (fail);have HEN:Hid (bx ⟨w1.heap.size,b,pb,gf,gs,ao,narrow,aj,th,sv⟩ F4 (w4.drewN nq)/\Below w.heap.size w (w4.drewN nq)):=⟨HR4.call (ow _ _),HB.trans ((DR.trans ((ow _ _).mono DR.size)).mono HB.size)⟩;clear m7 m8 HR4 DR;go_wp2_with fail;try simp only[Exit.inBlock,Exit.then]
       refine bodyPost_ret (v:=.tuple #[.slice (some ⟨gf,0,none⟩) F4.1.length F4.1.length,.slice (some ⟨gs,0,none⟩) F4.2.length F4.2.length,.int .i64 0,.int .i64 0]) (by simp[results,results46,go_sem]) rfl ?_;exact⟨⟨w1.heap.size,b,pb,gf,gs,ao,narrow,aj,th,sv⟩,F4,rfl,HEN.1,HF4.out,HEN.2⟩
end RI
end
theorem Ed(th:Bool)(t:Sp.Bl):pr th t=pw th t:=by
 unfold pr pw aY;cases th with
 | false=>rfl
 | true =>simp only[if_true];rw[fV,List.flatMap_map]
theorem wQ(s:ByteArray)(ao narrow aj:Int)(th:Bool)(w:Wd)(hL:rj w)(hT:gw w) :
  Calls prog 28 #[.string s,.int .i64 0,.int .i64 ao,.int .i64 narrow,.int .i64 aj,.bool th] w fun e w'=>e=.returned (.bool true)/\Below w.heap.size w w':=by
 by_cases hs:1048576<s.size
 ·have fM:(1048576:Int)<(s.size:Int):=by omega
  go_enter func28,ntmps28;go_wp2_with fail;go_ret;exact⟨rfl,Below.refl _ _⟩
 have dw:s.size<=1048576:=by omega
 cases ht:Sp.tree s.data.toList with
 | error er =>refine RI.pI s dw 0 ao narrow aj th w (er.1:Nat) (er.2:Nat) ((B9 s 0 ao narrow aj th w dw hL.laid ht).mono ?_) (fun W=>RI.Sy s dw 0 ao narrow aj th W ht);rintro e w'⟨v,rfl,hv,b⟩;obtain⟨tv,uv,rfl⟩:=sA hv;have S9:=hL.after (b.trans ((below_alloc1 w' (.cells #[.slice none 0 0,.slice none 0 0] 64)).mono b.size));exact⟨tv,uv,rfl,Lr _ er _ _ S9.et S9.laid.size (hv.laid _),b⟩
 | ok t =>
  by_cases hc:RI.Fs 0 ao narrow aj
  ·refine RI.pI s dw 0 ao narrow aj th w 5 0 ((Cu s 0 ao narrow aj th w dw hL.laid ht hc).mono ?_) (fun W=>RI.SA s dw 0 ao narrow aj th W ht hc)
   rintro e w'⟨rfl,b⟩;have S9:=hL.after (b.trans ((below_alloc1 w' (.cells #[.slice none 0 0,.slice none 0 0] 64)).mono b.size));exact⟨_,_,rfl,vC 5 _ S9.et S9.laid.size,b⟩
  ·obtain⟨d,hd⟩:∃d:Nat,ao=(d:Int):=⟨ao.toNat,by unfold RI.Fs at hc;omega⟩
   obtain⟨n,hn⟩:∃n:Nat,narrow=(n:Int):=⟨narrow.toNat,by unfold RI.Fs at hc;omega⟩;obtain⟨u,hu⟩:∃u:Nat,aj=(u:Int):=⟨aj.toNat,by unfold RI.Fs at hc;omega⟩;subst hd hn hu;have hP:d<=4/\n<=3/\u<=3:=by unfold RI.Fs at hc;omega
   refine RI.xO s dw d n u th w (da (oN (pw th t)) ⟨d,n,u⟩ t) ?_ (fun W=>?_)
   ·have h:=xK s d n u th w dw hL.laid hT hP.1 hP.2.1 hP.2.2
    rw[ht]at h;exact h
   ·refine(RI.PN s dw d n u hP th W ht).mono ?_
    rintro e w'⟨C,F,rfl,h1,rfl,h3⟩;rw[Ed]at h1 ⊢;exact⟨C,rfl,h1,h3⟩
theorem zw(s:ByteArray)(ao narrow aj:Int)(th:Bool)(w:Wd)(hL:rj w)(hT:gw w) :
  Calls prog 9 #[.string s,.int .i64 ao,.int .i64 narrow,.int .i64 aj,.bool th] w fun e w'=>e=.returned (.bool true)/\Below w.heap.size w w':=by
 have HC:=hid (wQ s ao narrow aj th w hL hT);go_enter func9,ntmps9;go_wp2_with fail;refine HC.mono ?_;rintro e w'⟨rfl,b⟩;go_wp2_with fail;go_ret;exact⟨rfl,b⟩
section
open Go.ChangeShapes Go.WideShapes Go.ChangeAt Go.RowKit
open Go.ChangeMaps (open_string shut_string)
section
variable {H : Type}{enc : TypeId × Value->H}{P : Program}{w : Wd}{base : Nat}{spare : Nat->Bool}{held : Bool}
section
variable{t0 t1 t2 t3 t4:TypeId}
theorem Ap{args:Array Value}{ds:List (DataW H)}{ps:List MemPlace}(h:DataW.TrodAll enc P w base spare held [t0,t1,t2,t3,t4] args.toList ds ps) :
  ∃v0 v1 v2 v3 v4 d0 d1 d2 d3 d4 p0 p1 p2 p3 p4,args=#[v0,v1,v2,v3,v4]/\ds=[d0,d1,d2,d3,d4]/\ps=p0 ++ p1 ++ p2 ++ p3 ++ p4/\DataW.Trod enc P w base spare held t0 v0 d0 p0/\DataW.Trod enc P w base spare held t1 v1 d1 p1/\DataW.Trod enc P w base spare held t2 v2 d2 p2/\DataW.Trod enc P w base spare held t3 v3 d3 p3/\DataW.Trod enc P w base spare held t4 v4 d4 p4:=by
 obtain⟨v0,vs0,d0,ds0,p0,q0,XI,rfl,rfl,Uf,gA⟩:=trodAll_cons h;obtain⟨v1,vs1,d1,ds1,p1,q1,rfl,rfl,rfl,Oa,hr1⟩:=trodAll_cons gA;obtain⟨v2,vs2,d2,ds2,p2,q2,rfl,rfl,rfl,Ob,sL⟩:=trodAll_cons hr1;obtain⟨v3,vs3,d3,ds3,p3,q3,rfl,rfl,rfl,Uh,zp⟩:=trodAll_cons sL;obtain⟨v4,vs4,d4,ds4,p4,q4,rfl,rfl,rfl,Ul,qG⟩:=trodAll_cons zp;obtain⟨rfl,rfl,rfl⟩:=trodAll_nil qG;exact⟨v0,v1,v2,v3,v4,d0,d1,d2,d3,d4,p0,p1,p2,p3,p4,by rw[<-Array.toList_inj];exact XI,rfl,by simp,Uf,Oa,Ob,Uh,Ul⟩
theorem BO{v0 v1 v2 v3 v4:Value}{d0 d1 d2 d3 d4:DataW H}{p0 p1 p2 p3 p4:List MemPlace}(h0:DataW.Trod enc P w base spare held t0 v0 d0 p0)(h1:DataW.Trod enc P w base spare held t1 v1 d1 p1)
  (h2:DataW.Trod enc P w base spare held t2 v2 d2 p2) (h3:DataW.Trod enc P w base spare held t3 v3 d3 p3) (h4:DataW.Trod enc P w base spare held t4 v4 d4 p4):DataW.TrodAll enc P w base spare held [t0,t1,t2,t3,t4] [v0,v1,v2,v3,v4] [d0,d1,d2,d3,d4] (p0 ++ (p1 ++ (p2 ++ (p3 ++ p4)))):=⟨p0,p1 ++ (p2 ++ (p3 ++ p4)),h0,trodAll_mk4 h1 h2 h3 h4,rfl⟩
end
end
theorem x8(os:Os)(started:os.Started)(H:Type)(enc:TypeId × Value->H) :
  ReturnsInHanded {} checked os 9 .any (fun w args=>(Rows.boundsSpec.pre enc prog f9 [] false w args/\laidMetH prog Rows.boundsRow.laid w)/\sizedMet enc prog f9 (OpenSpec.ofChange Rows.boundsSpec) false w args)
   (Rows.boundsSpec.post enc prog f9 false true false false):=by
 refine returnsInHanded_of_change_and (C:=checked) (X:=fun w _=>laidMetH prog Rows.boundsRow.laid w) (fun _ _ _ hh h=>h.of_heap hh) own started (by kernel_rfl) func9
  (ChangeSpec.witness_shaped (enc:=enc) (C:=checked) (os:=os) (X:=fun w _=>laidMetH prog Rows.boundsRow.laid w) false (World.doorLaid prog 400 os) #[.string ByteArray.empty,.int .i64 0,.int .i64 0,.int .i64 0,.bool false] 8 rfl (World.shaped_of_RefB (by kernel_rfl) (by kernel_rfl)) (by kernel_rfl) (by kernel_rfl) (by kernel_rfl) (JO os _)) ?_
 intro W base args ds gs before QN hW _ _ hL _;have Kg:∀(j:Nat) t v,f9.params[j]?=some t->args[j]?=some v->Value.okWide prog W .any base t v:=QN;have Zn:=hW;obtain⟨p,q,hA0,hV,rfl,hfz,Xr⟩:=hW;have hA:DataW.TrodAll enc prog W 0 (fun _=>true) true f9.params.toList args.toList ds p:=hA0;rw[params9]at hA Kg;obtain⟨v0,v1,v2,v3,v4,d0,d1,d2,d3,d4,p0,p1,p2,p3,p4,rfl,rfl,rfl,h0,h1,h2,h3,h4⟩:=Ap hA;obtain⟨rfl,rfl⟩:=trodVars_none hV;obtain⟨s,rfl,rfl,rfl,ws⟩:=open_string underlying9 (Kg 0 9 v0 rfl rfl) h0;obtain⟨x1,rfl,rfl,rfl,w1⟩:=open_int underlying3 (Kg 1 3 v1 rfl rfl) h1;obtain⟨x2,rfl,rfl,rfl,w2⟩:=open_int underlying3 (Kg 2 3 v2 rfl rfl) h2;obtain⟨x3,rfl,rfl,rfl,w3⟩:=open_int underlying3 (Kg 3 3 v3 rfl rfl) h3;obtain⟨x4,rfl,rfl,rfl⟩:=open_bool underlying4 (Kg 4 4 v4 rfl rfl) h4;clear hA0 QN;obtain⟨S9,hTu⟩:=Mx hL;refine(zw s x1 x2 x3 x4 W S9 hTu).mono fun e W' ⟨he,DM⟩=>?_
 subst he;exact⟨_,rfl,_,_,_,[],_,[],Zn,trodAll_mk1 (shut_bool underlying4 _),BO (shut_string underlying9 ws) (shut_int underlying3 w1) (shut_int underlying3 w2) (shut_int underlying3 w3) (shut_bool underlying4 _),rfl,DM.frame _,fun h=>by cases h⟩
theorem xW:joinedFacts prog 9 f9 Rows.boundsSpec Rows.boundsRow=true :=
 Jw (by as_aux_lemma=>kernel_rfl) J6 BY (by as_aux_lemma=>kernel_rfl) (by as_aux_lemma=>kernel_rfl) rfl Oq rfl PD
  (by as_aux_lemma=>kernel_rfl) (by as_aux_lemma=>kernel_rfl) (by as_aux_lemma=>kernel_rfl) (by as_aux_lemma=>kernel_rfl)
  (by as_aux_lemma=>kernel_rfl) (by as_aux_lemma=>kernel_rfl) (by as_aux_lemma=>kernel_rfl) (by as_aux_lemma=>kernel_rfl) (by as_aux_lemma=>kernel_rfl)
  (by as_aux_lemma=>kernel_rfl) (by as_aux_lemma=>kernel_rfl) (by as_aux_lemma=>kernel_rfl) (by as_aux_lemma=>kernel_rfl) Sa rfl O5 PG (by as_aux_lemma=>kernel_rfl) (by as_aux_lemma=>kernel_rfl)
  (by as_aux_lemma=>kernel_rfl) (by as_aux_lemma=>kernel_rfl) (by as_aux_lemma=>kernel_rfl) (by as_aux_lemma=>kernel_rfl)
theorem Fo:Rows.BoundsSaid :=
 OpenClaim.holds_of_wide 9 f9 rfl rfl rfl rfl rfl rfl rfl ⟨rfl,rfl,rfl,rfl,rfl⟩ rfl rfl rfl rfl rfl (by as_aux_lemma=>kernel_rfl) func9 xW
  (of_decide_eq_true (by as_aux_lemma=>kernel_rfl)) (by unfold Func.isWrapper;first | (rw[if_pos (by decide +kernel)];kernel_rfl) | (rw[if_neg (by decide +kernel)];exact⟨rfl,rfl⟩))
  (fun os started H enc _=>x8 os started H enc)
theorem bounds_proved:Rows.BoundsCardSaid :=
 Claim7.holds_tied_plain_at .later [] [.data,.data,.data,.data,.data,.data,.data,.handle,.sentinel,.sentinel] true (true,Rows.boundsCard.stood.harness.2) true
  Fo (fun _ h=>by cases h) (by as_aux_lemma=>kernel_rfl) (fun _ h=>by cases h) bounds_row_tie rfl ⟨rfl,rfl⟩ (by as_aux_lemma=>kernel_rfl) rfl
  (fun f fn hf hfn=>by
    obtain rfl:f=9:=Option.some.inj ((show prog.funcNamed "invariants/invariantslaw.Bounds" = some 9 by as_aux_lemma=>kernel_rfl).symm.trans hf) |>.symm;obtain rfl:fn=f9:=(Option.some.inj (func9.symm.trans hfn)).symm;exact⟨by as_aux_lemma=>kernel_rfl,fun j t ht=>by
     rw[params9]at ht;have h3:t=9∨t=4∨t=3:=by
      rcases j with _ | _ | _ | _ | _ | j
      ·left;simpa using ht.symm
      ·right;right;simpa using ht.symm
      ·right;right;simpa using ht.symm
      ·right;right;simpa using ht.symm
      ·right;left;simpa using ht.symm
      ·simp at ht
     rcases h3 with rfl | rfl | rfl
     ·exact(show prog.wantsStandIn 9=false by as_aux_lemma=>kernel_rfl)
     ·exact(show prog.wantsStandIn 4=false by as_aux_lemma=>kernel_rfl)
     ·exact(show prog.wantsStandIn 3=false by as_aux_lemma=>kernel_rfl)⟩)
  (by as_aux_lemma=>kernel_rfl)
end
end Go.Proofs.YtiopfihjmkfdmaaGreatDoor
