import Derived.Test.YtiopfihjmkfdmaaGreatDoorB13
import Derived.Deep.Cut
import Derived.DeepKeys3
namespace Go.Proofs.YtiopfihjmkfdmaaGreatDoor
open Go.Proofs.Tryz Sp
open Go.RowKit
set_option maxRecDepth 100000
set_option maxHeartbeats 16000000
namespace WI
structure EV(C:Cx)(F:Fd)(wa:Array Value)(k:Nat)(W:Wd):Prop where
 o:W.heap[k]?=some (.cells wa 217)
 f:W.heap[C.fb]?=some (.cells #[.slice (some ⟨C.gf,0,none⟩) F.1.length C.cf,.slice (some ⟨C.gs,0,none⟩) F.2.length C.cs] 215)
theorem JA(C:Cx)(π:bO)(T:gB)(F:Fd)(w:Wd)(h:aM C π T F w)(q n:Nat)(hq:F.2[q]?=some n)(bad:Bool) :
  Calls prog 199 #[.agg (wk C true),.int .i64 (q:Nat),.bool bad] w fun e w'=>e=.returned (.tuple #[])/\aM C π T (cR (Dm π) F (.site (q:Int) bad)) w'/\ay C w w':=by
 have WO:q<F.2.length:=(List.getElem?_eq_some_iff.1 hq).1;have aaA:((q:Nat):Int)<((F.2.length:Nat):Int):=by omega
 have tR:(wk C true)[7]?=some (.pointer (some ⟨C.fb,0,none⟩)):=rfl;generalize wk C true=wa at *;have b0:Below w.heap.size w (w.alloc (.cells wa 217)).drew:=(below_alloc1 w _).drew;have HA:Hid (aM C π T F (w.alloc (.cells wa 217)).drew):=h.call b0;have HK:Hid (ay C w (w.alloc (.cells wa 217)).drew):=ay.aB b0 h.le;have ho:(w.alloc (.cells wa 217)).drew.heap[w.heap.size]?=some (.cells wa 217):=heap_alloc_new w _;have H0:Hid (EV C F wa w.heap.size (w.alloc (.cells wa 217)).drew):=⟨ho,HA.Bm⟩;have HC:Hid (_=_):=pU hq;have HQ:=hid hq;have d7:=cell_of (heap_alloc_new w (.cells wa 217)) 7 tR;have c1:(w.alloc (.cells wa 217)).cell? ⟨C.gs,q,none⟩=some (.int .i64 (n:Nat)):=cell_of HA.uX q HC.out;have f1:(w.alloc (.cells wa 217)).frozen? ⟨C.gs,q,none⟩=false:=aw HA.uX q;have db:w.heap.size≠C.gs:=by have:=h.lt.2.2.1;omega
 have VU:C.fb≠C.gs:=h.ne.2.1;have hle:((n:Nat):Int)=(n:Int):=rfl;clear h hq b0 ho hle;cases bad with
 | true =>
  go_enter func199,ntmps199;go_wp2_with fail;generalize w.alloc (.cells wa 217)=W at *;refine wp_region_held_drew (S:=fun w':Wd=>EV C F wa w.heap.size w') (by kernel_rfl) H0.out (fun aa=>?_);refine tq 0 (.pointer (some ⟨w.heap.size,7,none⟩)) aa ?_;refine tk 1 (.pointer (some ⟨C.fb,0,none⟩)) rfl (fun w' h=>by have d:=cell_of h.o 7 tR;go_simp) aa ?_;refine tq 2 (.pointer (some ⟨C.fb,0,none⟩)) aa ?_;refine tq 3 (.pointer (some ⟨C.fb,1,none⟩)) aa ?_;refine tk 4 (.slice (some ⟨C.gs,0,none⟩) F.2.length C.cs) rfl (fun w' h=>by have d:=cell_of h.f 1 rfl;go_simp) aa ?_;refine tq 5 (.int .i64 (q:Nat)) aa ?_;refine tq 6 (.pointer (some ⟨w.heap.size,7,none⟩)) aa ?_;refine tk 7 (.pointer (some ⟨C.fb,0,none⟩)) rfl (fun w' h=>by have d:=cell_of h.o 7 tR;go_simp) aa ?_;refine tq 8 (.pointer (some ⟨C.fb,0,none⟩)) aa ?_;refine tq 9 (.pointer (some ⟨C.fb,1,none⟩)) aa ?_;refine tk 10 (.slice (some ⟨C.gs,0,none⟩) F.2.length C.cs) rfl (fun w' h=>by have d:=cell_of h.f 1 rfl;go_simp) aa ?_;refine tq 11 (.int .i64 (q:Nat)) aa ?_;refine tq 12 (.pointer (some ⟨C.gs,q,none⟩)) aa ?_;refine tq 14 (.int .i64 2) aa ?_;refine cH 13 fun K hK=>?_
  simp only[bT,gN];go_simp;refine hK.out _ _ aa (fun aa=>?_);clear hK K;refine tk 15 (.int .i64 (max ((n:Nat):Int) 2)) rfl (fun w' h=>by go_simp) aa ?_;refine tq 16 (.pointer (some ⟨C.gs,q,none⟩)) aa ?_;refine cH 17 fun K hK=>?_
  simp only[bT,gN];go_simp;refine hK.out _ _ ⟨(Below.heap_setCell _ _ _ _ db).trans aa.o,(Below.heap_setCell _ _ _ _ VU).trans aa.f⟩ (fun _=>?_);clear hK K;refine wpAnyH_done (by kernel_rfl) ?_ _;go_wp2_with fail;have R:=hid (HA.site HQ.out true);rw[show((max n (if true=true then 2 else 1):Nat):Int)=max ((n:Nat):Int) 2 by simp;omega]at R;go_returns;exact⟨rfl,R.1,HK.trans R.2⟩
 | false =>
  go_enter func199,ntmps199;go_wp2_with fail;generalize w.alloc (.cells wa 217)=W at *;refine wp_region_held_drew (S:=fun w':Wd=>EV C F wa w.heap.size w') (by kernel_rfl) H0.out (fun aa=>?_);refine tq 0 (.pointer (some ⟨w.heap.size,7,none⟩)) aa ?_;refine tk 1 (.pointer (some ⟨C.fb,0,none⟩)) rfl (fun w' h=>by have d:=cell_of h.o 7 tR;go_simp) aa ?_;refine tq 2 (.pointer (some ⟨C.fb,0,none⟩)) aa ?_;refine tq 3 (.pointer (some ⟨C.fb,1,none⟩)) aa ?_;refine tk 4 (.slice (some ⟨C.gs,0,none⟩) F.2.length C.cs) rfl (fun w' h=>by have d:=cell_of h.f 1 rfl;go_simp) aa ?_;refine tq 5 (.int .i64 (q:Nat)) aa ?_;refine tq 6 (.pointer (some ⟨w.heap.size,7,none⟩)) aa ?_;refine tk 7 (.pointer (some ⟨C.fb,0,none⟩)) rfl (fun w' h=>by have d:=cell_of h.o 7 tR;go_simp) aa ?_;refine tq 8 (.pointer (some ⟨C.fb,0,none⟩)) aa ?_;refine tq 9 (.pointer (some ⟨C.fb,1,none⟩)) aa ?_;refine tk 10 (.slice (some ⟨C.gs,0,none⟩) F.2.length C.cs) rfl (fun w' h=>by have d:=cell_of h.f 1 rfl;go_simp) aa ?_;refine tq 11 (.int .i64 (q:Nat)) aa ?_;refine tq 12 (.pointer (some ⟨C.gs,q,none⟩)) aa ?_;refine tq 14 (.int .i64 1) aa ?_;refine cH 13 fun K hK=>?_
  simp only[bT,gN];go_simp;refine hK.out _ _ aa (fun aa=>?_);clear hK K;refine tk 15 (.int .i64 (max ((n:Nat):Int) 1)) rfl (fun w' h=>by go_simp) aa ?_;refine tq 16 (.pointer (some ⟨C.gs,q,none⟩)) aa ?_;refine cH 17 fun K hK=>?_
  simp only[bT,gN];go_simp;refine hK.out _ _ ⟨(Below.heap_setCell _ _ _ _ db).trans aa.o,(Below.heap_setCell _ _ _ _ VU).trans aa.f⟩ (fun _=>?_);clear hK K;refine wpAnyH_done (by kernel_rfl) ?_ _;go_wp2_with fail;have R:=hid (HA.site HQ.out false);rw[show((max n (if false=true then 2 else 1):Nat):Int)=max ((n:Nat):Int) 1 by simp;omega]at R;go_returns;exact⟨rfl,R.1,HK.trans R.2⟩
theorem EG(C:Cx)(q:Int)(bad:Bool)(w:Wd) :
  Calls prog 199 #[.agg (wk C false),.int .i64 q,.bool bad] w fun e w'=>e=.returned (.tuple #[])/\Below w.heap.size w w':=by
 have tR:(wk C false)[7]?=some (.pointer none):=rfl;generalize wk C false=wa at *;have d7:=cell_of (heap_alloc_new w (.cells wa 217)) 7 tR;go_enter func199,ntmps199;go_wp2_with fail;go_returns;exact⟨rfl,by go_grown⟩
theorem fN(C:Cx)(π:bO)(T:gB)(F:Fd)(b:Bool)(w:Wd)(h:aM C π T F w)(q:Int)(bad:Bool)(hr:df b F [.site q bad]) :
  Calls prog 199 #[.agg (wk C b),.int .i64 q,.bool bad] w fun e w'=>e=.returned (.tuple #[])/\aM C π T (told π b F [.site q bad]) w'/\ay C w w':=by
 cases b with
 | false =>refine(EG C q bad w).mono ?_;rintro e w'⟨rfl,k⟩;exact⟨rfl,h.call k,ay.aB k h.le⟩
 | true =>obtain⟨h1,h2⟩:=hr rfl _ (List.mem_singleton.2 rfl);obtain⟨n,rfl⟩:∃n:Nat,q=(n:Int):=⟨q.toNat,by omega⟩;exact JA C π T F w h n _ (List.getElem?_eq_getElem (by simpa using h2)) bad
end WI
theorem CI(k:Nat)(hk:k<5)(w:Wd) :
  Calls prog 240 #[.int .i64 k] w fun e w'=>e=.returned (.bool (decide (3<=k)))/\w'=w:=by
 have tS:k=3∨k=4∨(k<3/\¬ ((k:Int)=3)/\¬ ((k:Int)=4)):=by omega
 rcases tS with rfl | rfl | ⟨h2,h0,h1⟩
 ·go_enter func240,ntmps240
  go_wp2_with fail;go_ret;exact⟨rfl,rfl⟩
 ·go_enter func240,ntmps240
  go_wp2_with fail;go_ret;exact⟨rfl,rfl⟩
 ·have hl:Hid (decide (3<=k)=false):=by unfold Hid;simp;omega
  clear h2 hk;go_enter func240,ntmps240;go_wp2_with fail;go_ret;refine⟨bA ?_,rfl⟩;rw[hl.out];simp[h0,h1]
def Gf(t:TypeId)(u:Value)(p:Int):Prop:=∀w,(method 587 t u "Where").run prog w=.ok (72,.int .i64 p) w
theorem fB(p:Int)(w:Wd):Calls prog 72 #[.int .i64 p] w fun e w'=>e=.returned (.int .i64 p)/\w'=w:=by go_enter func72,ntmps72;go_wp2_with fail;go_ret;exact⟨rfl,rfl⟩
namespace WI
section
variable{wa c d u1 u2 ic wq sa:Array Value}
variable{c0 c1 c2 c3:Value}
variable{x y:Sp.Iv}
variable{k n i j kq ko kw ks p B:Nat}
variable{W W' w w0:Wd}
variable{π:bO}
variable{T:gB}
def kT(C:Cx)(π:bO)(T:gB)(F:Fd)(b:Bool)(vl vr:Value)(e:Fin 8->Sp.Iv)(es:List cr)(o:Option (Sp.Iv × Sp.Iv)):Prop :=
 ∀W,aM C π T F W->Calls prog 226 #[.agg (wk C b),vl,vr,.agg (aK (some e))] W (oW C π T F b W es o)
structure sN(wa:Array Value)(c0 c1 c2 c3:Value)(x y:Sp.Iv)(k n:Nat)(W:Wd):Prop where
 o:W.heap[k]?=some (.cells wa 217)
 c:W.heap[k+1]?=some (.cells #[c0,c1,c2,c3] 334)
 z:W.heap[k+1+1+1]?=some (.cells #[.int .i16 0,.int .i16 0] 131)
 x:W.heap[n]?=some (.cells #[.int .i16 x.a,.int .i16 x.b] 131)
 y:W.heap[n+1]?=some (.cells #[.int .i16 y.a,.int .i16 y.b] 131)
theorem sN.call(h:sN wa c0 c1 c2 c3 x y k n W)(b:Below W.heap.size W W'):sN wa c0 c1 c2 c3 x y k n W' :=
 ⟨(b.block _ (ah h.o)).trans h.o,(b.block _ (ah h.c)).trans h.c,(b.block _ (ah h.z)).trans h.z,(b.block _ (ah h.x)).trans h.x,(b.block _ (ah h.y)).trans h.y⟩
theorem sN.bF{C:Cx}{F:Fd}(h:sN wa c0 c1 c2 c3 x y w.heap.size n W)(h0:aM C π T F w)(b:ay C W W')(h1:w.heap.size<=w.heap.size+1)(h3:w.heap.size<=w.heap.size+1+1+1)(hn:w.heap.size<=n)(kC:w.heap.size<=n+1):sN wa c0 c1 c2 c3 x y w.heap.size n W' :=
 ⟨b.aW h0 (Nat.le_refl _) h.o,b.aW h0 h1 h.c,b.aW h0 h3 h.z,b.aW h0 hn h.x,b.aW h0 kC h.y⟩
theorem yC(k:Nat)(q:Int)(tl:TypeId)(ul:Value)(tr:TypeId)(ur:Value)(C:Cx)(π:bO)(T:gB)(F:Fd)(b:Bool)(w:Wd)(e:Fin 8->Sp.Iv)(es:List cr)(h:aM C π T F w)
  (hs:kT C π T F b (.iface tl ul) (.iface tr ur) e es none) :
  Calls prog 225 #[.agg (wk C b),.agg #[.int .i64 (k:Nat),.int .i64 q,.iface tl ul,.iface tr ur],.agg (aK (some e))] w (gL C π T F b w es none):=by
 obtain⟨k0,k1,k2,k3,kb⟩:=bM (w:=w) (o1:=.cells (wk C b) 217) (o2:=.cells #[.int .i64 (k:Nat),.int .i64 q,.iface tl ul,.iface tr ur] 334) (o3:=.cells (aK (some e)) 220) (o4:=.cells #[.int .i16 0,.int .i16 0] 131) (Below.refl _ _);have HW:=hs _ (h.call kb);have eg:=cC C b;have eH:=aF (some e);generalize wk C b=wa at *;generalize aK (some e)=xa at *;have K0:=hid k0;have K2:=hid k2;have K3:=hid k3;have c2:=cell_of k1 2 (v:=.iface tl ul) rfl;have c3:=cell_of k1 3 (v:=.iface tr ur) rfl;have HB:=hid kb;have HA:=hid h;have iM:w.heap.size<=w.heap.size+1+1+1:=by omega
 clear h k0 k1 k2 k3 kb hs;go_enter func225,ntmps225;go_wp2_with (first
  | (refine cm rfl _ rfl rfl K0.out eg ?_)
  | (refine bt rfl _ rfl rfl K2.out eH ?_))
 refine HW.mono ?_;rintro r w1⟨⟨i1,i2,i3,i4,rfl⟩,a1,b1⟩;obtain⟨_,_,n2⟩:=eY (w:=w1) (o1:=.cells #[.int .i16 i1,.int .i16 i2] 131) (o2:=.cells #[.int .i16 i3,.int .i16 i4] 131) (Below.refl _ _);have dI:w.heap.size<=w1.heap.size:=Nat.le_trans HB.size b1.below.size;have gT:=(n2.block _ (ah (b1.aW HA.out iM K3.out))).trans (b1.aW HA.out iM K3.out);obtain⟨m0,m1,kh,kj,_⟩:=aH gT;have H2:Hid (_=_):=cA gT (.int .i16 0) (.int .i16 0);have kD:Hid (Below w.heap.size w1 _):=Below.two (n2.mono dI) iM (.int .i16 0) (.int .i16 0);have nN:=hid a1;have mx:Hid (ay C w w1):=(ay.aB HB.out HA.le).trans b1;clear a1 b1 HW gT n2;go_wp2_with fail;have Q0:=cell_of H2.out 0 (v:=.int .i16 0) rfl;have Q1:=cell_of H2.out 1 (v:=.int .i16 0) rfl;refine bodyPost_ret (v:=.tuple #[.agg #[.int .i16 0,.int .i16 0],.bool false]) (by simp[results,results225,go_sem,Q0,Q1]) rfl ?_;exact⟨rfl,HA.upon nN.out kD.out,ay.upon HA.out mx.out kD.out⟩
theorem AA(k:Nat)(hk:k<5)(Ko:¬ 3<=k)(q:Int)(tl:TypeId)(ul:Value)(tr:TypeId)(ur:Value)(C:Cx)(π:bO)(T:gB)(F:Fd)(b:Bool)(w:Wd)(e:Fin 8->Sp.Iv)(es:List cr)(x y:Sp.Iv)(hx:Wv x)(hy:Wv y)(h:aM C π T F w)
  (hs:kT C π T F b (.iface tl ul) (.iface tr ur) e es (some (x,y))) :
  Calls prog 225 #[.agg (wk C b),.agg #[.int .i64 (k:Nat),.int .i64 q,.iface tl ul,.iface tr ur],.agg (aK (some e))] w (gL C π T F b w es (BH k x y)):=by
 obtain⟨k0,k1,k2,k3,kb⟩:=bM (w:=w) (o1:=.cells (wk C b) 217) (o2:=.cells #[.int .i64 (k:Nat),.int .i64 q,.iface tl ul,.iface tr ur] 334) (o3:=.cells (aK (some e)) 220) (o4:=.cells #[.int .i16 0,.int .i16 0] 131) (Below.refl _ _);have HW:=hs _ (h.call kb);have jo:=jy C b;have eg:=cC C b;have eH:=aF (some e);generalize wk C b=wa at *;generalize aK (some e)=xa at *;have K0:=hid k0;have K1:=hid k1;have K2:=hid k2;have K3:=hid k3;have c2:=cell_of k1 2 (v:=.iface tl ul) rfl;have c3:=cell_of k1 3 (v:=.iface tr ur) rfl;have HB:=hid kb;have HA:=hid h;have Kk:w.heap.size<=w.heap.size+1:=by omega
 have iM:w.heap.size<=w.heap.size+1+1+1:=by omega
 clear h k0 k1 k2 k3 kb hs;go_enter func225,ntmps225;go_wp2_with (first
  | (refine cm rfl _ rfl rfl K0.out eg ?_)
  | (refine bt rfl _ rfl rfl K2.out eH ?_))
 refine HW.mono ?_;rintro r w1⟨rfl,a1,b1⟩;obtain⟨nx,ny,n2⟩:=eY (w:=w1) (o1:=.cells #[.int .i16 x.a,.int .i16 x.b] 131) (o2:=.cells #[.int .i16 y.a,.int .i16 y.b] 131) (Below.refl _ _);have dI:w.heap.size<=w1.heap.size:=Nat.le_trans HB.size b1.below.size;have ek:=(n2.block _ (ah (b1.aW HA.out iM K3.out))).trans (b1.aW HA.out iM K3.out);have Wg:=(n2.block _ (ah (b1.aW HA.out (Nat.le_refl _) K0.out))).trans (b1.aW HA.out (Nat.le_refl _) K0.out);have xG:=(n2.block _ (ah (b1.aW HA.out Kk K1.out))).trans (b1.aW HA.out Kk K1.out);have jt:=hid ek;have Qn:=hid Wg;have kD:=hid xG;have NX:=hid nx;have NY:=hid ny;have N2:Hid (Below w.heap.size w1 _):=n2.mono dI;have HA2:Hid (aM C π T (told π b F es) _):=HA.upon a1 N2.out;have Vu:Hid (ay C w _):=ay.upon HA.out ((ay.aB HB.out HA.le).trans b1) N2.out;have e0:=cell_of xG 0 (v:=.int .i64 (k:Nat)) rfl;clear a1 b1 HW ek Wg xG n2 nx ny;go_wp2_with fail;refine(CI k hk _).mono ?_;rintro r w'⟨rfl,rfl⟩;generalize (w1.alloc (.cells #[.int .i16 x.a,.int .i16 x.b] 131)).alloc (.cells #[.int .i16 y.a,.int .i16 y.b] 131)=w2 at *;rw[decide_eq_false Ko];have Ze:=Qn;have NH:=kD;have NXn:=NX;have NYn:=NY;have Qm:=jt;have TS:=HA2;have UB:=Vu;have NK:w.heap.size<=w2.heap.size:=Nat.le_trans dI N2.size;have d0:=cell_of Ze.out 0 jo;have g0:=cell_of NH.out 0 (v:=.int .i64 (k:Nat)) rfl;obtain⟨x0,x1,_,_,_⟩:=aH NXn.out;obtain⟨y0,y1,_,_,_⟩:=aH NYn.out;have HD:=Qy TS.does hk hx hy;cases ho:BH k x y with
 | none =>have HE:=hid ho;rw[ho]at HD;clear ho;go_wp2_with fail;refine HD.mono ?_;rintro r w4⟨rfl,b4⟩;have h4:=(b4.block _ (ah Qm.out)).trans Qm.out;obtain⟨p0,p1,TH,S2,_⟩:=aH h4;have H5:Hid (_=_):=cA h4 (.int .i16 0) (.int .i16 0);have A5:Hid (Below w.heap.size w2 _):=Below.two (b4.mono (Nat.le_trans (Nat.le_refl _) NK)) iM (.int .i16 0) (.int .i16 0);clear b4 h4 HD;simp only[ub];go_wp2_with fail;have Q0:=cell_of H5.out 0 (v:=.int .i16 0) rfl;have Q1:=cell_of H5.out 1 (v:=.int .i16 0) rfl;refine bodyPost_ret (v:=.tuple #[.agg #[.int .i16 0,.int .i16 0],.bool false]) (by simp[results,results225,go_sem,Q0,Q1]) rfl ?_;exact⟨by rw[HE.out];rfl,HA.upon TS.out A5.out,ay.upon HA.out UB.out A5.out⟩
 | some z =>have HE:=hid ho;rw[ho]at HD;clear ho;go_wp2_with fail;refine HD.mono ?_;rintro r w4⟨rfl,b4⟩;have h4:=(b4.block _ (ah Qm.out)).trans Qm.out;obtain⟨p0,p1,TH,S2,_⟩:=aH h4;have H5:Hid (_=_):=cA h4 (.int .i16 z.a) (.int .i16 z.b);have A5:Hid (Below w.heap.size w2 _):=Below.two (b4.mono (Nat.le_trans (Nat.le_refl _) NK)) iM (.int .i16 z.a) (.int .i16 z.b);clear b4 h4 HD;simp only[ub];go_wp2_with fail;have Q0:=cell_of H5.out 0 (v:=.int .i16 z.a) rfl;have Q1:=cell_of H5.out 1 (v:=.int .i16 z.b) rfl;refine bodyPost_ret (v:=.tuple #[.agg #[.int .i16 z.a,.int .i16 z.b],.bool true]) (by simp[results,results225,go_sem,Q0,Q1]) rfl ?_;exact⟨by rw[HE.out];rfl,HA.upon TS.out A5.out,ay.upon HA.out UB.out A5.out⟩
theorem Cn(k:Nat)(hk:k<5)(Ko:3<=k)(q:Int)(tl:TypeId)(ul:Value)(tr:TypeId)(ur:Value)(C:Cx)(π:bO)(T:gB)(F:Fd)(b:Bool)(w:Wd)(e:Fin 8->Sp.Iv)(es:List cr)(x y:Sp.Iv)(hx:Wv x)(hy:Wv y)(h:aM C π T F w)
  (hs:kT C π T F b (.iface tl ul) (.iface tr ur) e es (some (x,y))) (hr:df b (told π b F es) [.site q (uK y)]) :
  Calls prog 225 #[.agg (wk C b),.agg #[.int .i64 (k:Nat),.int .i64 q,.iface tl ul,.iface tr ur],.agg (aK (some e))] w (gL C π T F b w (es ++ [.site q (uK y)]) (BH k x y)):=by
 obtain⟨k0,k1,k2,k3,kb⟩:=bM (w:=w) (o1:=.cells (wk C b) 217) (o2:=.cells #[.int .i64 (k:Nat),.int .i64 q,.iface tl ul,.iface tr ur] 334) (o3:=.cells (aK (some e)) 220) (o4:=.cells #[.int .i16 0,.int .i16 0] 131) (Below.refl _ _);have HW:=hs _ (h.call kb);have jo:=jy C b;have eg:=cC C b;have eH:=aF (some e);have ZA:Hid (∀W,aM C π T (told π b F es) W->Calls _ _ _ W _):=fun W hW=>fN C π T (told π b F es) b W hW q (uK y) hr
 generalize wk C b=wa at *;generalize aK (some e)=xa at *;have K0:=hid k0;have K1:=hid k1;have K2:=hid k2;have K3:=hid k3;have c2:=cell_of k1 2 (v:=.iface tl ul) rfl;have c3:=cell_of k1 3 (v:=.iface tr ur) rfl;have HB:=hid kb;have HA:=hid h;have Kk:w.heap.size<=w.heap.size+1:=by omega
 have iM:w.heap.size<=w.heap.size+1+1+1:=by omega
 clear h k0 k1 k2 k3 kb hs;go_enter func225,ntmps225;go_wp2_with (first
  | (refine cm rfl _ rfl rfl K0.out eg ?_)
  | (refine bt rfl _ rfl rfl K2.out eH ?_))
 refine HW.mono ?_;rintro r w1⟨rfl,a1,b1⟩;obtain⟨nx,ny,n2⟩:=eY (w:=w1) (o1:=.cells #[.int .i16 x.a,.int .i16 x.b] 131) (o2:=.cells #[.int .i16 y.a,.int .i16 y.b] 131) (Below.refl _ _);have dI:w.heap.size<=w1.heap.size:=Nat.le_trans HB.size b1.below.size;have ek:=(n2.block _ (ah (b1.aW HA.out iM K3.out))).trans (b1.aW HA.out iM K3.out);have Wg:=(n2.block _ (ah (b1.aW HA.out (Nat.le_refl _) K0.out))).trans (b1.aW HA.out (Nat.le_refl _) K0.out);have xG:=(n2.block _ (ah (b1.aW HA.out Kk K1.out))).trans (b1.aW HA.out Kk K1.out);have jt:=hid ek;have Qn:=hid Wg;have kD:=hid xG;have NX:=hid nx;have NY:=hid ny;have N2:Hid (Below w.heap.size w1 _):=n2.mono dI;have HA2:Hid (aM C π T (told π b F es) _):=HA.upon a1 N2.out;have Vu:Hid (ay C w _):=ay.upon HA.out ((ay.aB HB.out HA.le).trans b1) N2.out;have e0:=cell_of xG 0 (v:=.int .i64 (k:Nat)) rfl;clear a1 b1 HW ek Wg xG n2 nx ny;go_wp2_with fail;refine(CI k hk _).mono ?_;rintro r w'⟨rfl,rfl⟩;generalize (w1.alloc (.cells #[.int .i16 x.a,.int .i16 x.b] 131)).alloc (.cells #[.int .i16 y.a,.int .i16 y.b] 131)=w2 at *;rw[decide_eq_true Ko];have hyk:w.heap.size<=w1.heap.size+1:=by omega
 have XP:w.heap.size<=w1.heap.size:=dI;have b0:Below w.heap.size w2 w2.drew:=(Below.refl _ _).drew;have HAd:Hid (aM C π T (told π b F es) w2.drew):=HA.upon HA2.out b0;have HKd:Hid (ay C w w2.drew):=ay.upon HA.out Vu.out b0;have H0:Hid (sN wa (.int .i64 (k:Nat)) (.int .i64 q) (.iface tl ul) (.iface tr ur) x y w.heap.size w1.heap.size w2.drew):=⟨Qn.out,kD.out,jt.out,NX.out,NY.out⟩;go_wp2_with fail;refine wp_region_held_drew (S:=fun w':Wd=>sN wa (.int .i64 (k:Nat)) (.int .i64 q) (.iface tl ul) (.iface tr ur) x y w.heap.size w1.heap.size w') (by kernel_rfl) H0.out (fun aa=>?_);refine mj 0 rfl (yieldsIf_load_mid (by rfl) _ _ rfl _ _ rfl (wa).toList _ (fun w' h=>aT h.o) underlying217 rfl (by rw[fD,Array.length_toList,eg])) aa ?_;refine tq 1 (.pointer (some ⟨w.heap.size+1,1,none⟩)) aa ?_;refine tk 2 (.int .i64 q) rfl (fun w' h=>by have d:=cell_of h.c 1 (v:=.int .i64 q) rfl;go_simp) aa ?_;refine tq 3 (.pointer (some ⟨w.heap.size,0,none⟩)) aa ?_;refine tk 4 (.iface 133 C.dv) rfl (fun w' h=>by have d:=cell_of h.o 0 jo;go_simp) aa ?_;refine tk 5 (.agg #[.int .i16 y.a,.int .i16 y.b]) rfl (fun w' h=>by(have d0:=cell_of h.y 0 (v:=.int .i16 y.a) rfl);have d1:=cell_of h.y 1 (v:=.int .i16 y.b) rfl;go_simp) aa ?_;refine cH 6 fun K hK=>?_
 simp only[bT,gN,Array.toArray_toList];go_simp;refine(Ot HAd.does y).mono ?_;rintro r w5⟨rfl,b5⟩;go_wp2_with fail;have Rr:Hid (aM C π T (told π b F es) w5):=HAd.call b5;have Rg:Hid (ay C w w5):=HKd.more b5 HA.le;have zm:=aa.call b5;refine hK.out _ _ zm (fun aa=>?_);clear hK K zm b5;refine cH 7 fun K hK=>?_
 simp only[bT];go_simp;refine(ZA.out _ Rr.out).mono ?_;rintro r w3⟨rfl,a3,b3⟩;go_wp2_with fail;have uO:=aa.bF HA.out b3 Kk iM XP hyk;have TS:=hid a3;have UB:Hid (ay C w w3):=Rg.trans b3;have NK:w.heap.size<=w3.heap.size:=UB.below.size;have Ze:=hid uO.o;have NH:=hid uO.c;have Qm:=hid uO.z;have NXn:=hid uO.x;have NYn:=hid uO.y;refine hK.out _ _ uO (fun _=>?_);clear hK K uO a3 b3;refine wpAnyH_done (by kernel_rfl) ?_ _;have d0:=cell_of Ze.out 0 jo;have g0:=cell_of NH.out 0 (v:=.int .i64 (k:Nat)) rfl;obtain⟨x0,x1,_,_,_⟩:=aH NXn.out;obtain⟨y0,y1,_,_,_⟩:=aH NYn.out;have HD:=Qy TS.does hk hx hy;cases ho:BH k x y with
 | none =>have HE:=hid ho;rw[ho]at HD;clear ho;go_wp2_with fail;refine HD.mono ?_;rintro r w4⟨rfl,b4⟩;have h4:=(b4.block _ (ah Qm.out)).trans Qm.out;obtain⟨p0,p1,TH,S2,_⟩:=aH h4;have H5:Hid (_=_):=cA h4 (.int .i16 0) (.int .i16 0);have A5:Hid (Below w.heap.size w3 _):=Below.two (b4.mono (Nat.le_trans (Nat.le_refl _) NK)) iM (.int .i16 0) (.int .i16 0);clear b4 h4 HD;simp only[ub];go_wp2_with fail;have Q0:=cell_of H5.out 0 (v:=.int .i16 0) rfl;have Q1:=cell_of H5.out 1 (v:=.int .i16 0) rfl;refine bodyPost_ret (v:=.tuple #[.agg #[.int .i16 0,.int .i16 0],.bool false]) (by simp[results,results225,go_sem,Q0,Q1]) rfl ?_;exact⟨by rw[HE.out];rfl,by rw[aG];exact HA.upon TS.out A5.out,ay.upon HA.out UB.out A5.out⟩
 | some z =>have HE:=hid ho;rw[ho]at HD;clear ho;go_wp2_with fail;refine HD.mono ?_;rintro r w4⟨rfl,b4⟩;have h4:=(b4.block _ (ah Qm.out)).trans Qm.out;obtain⟨p0,p1,TH,S2,_⟩:=aH h4;have H5:Hid (_=_):=cA h4 (.int .i16 z.a) (.int .i16 z.b);have A5:Hid (Below w.heap.size w3 _):=Below.two (b4.mono (Nat.le_trans (Nat.le_refl _) NK)) iM (.int .i16 z.a) (.int .i16 z.b);clear b4 h4 HD;simp only[ub];go_wp2_with fail;have Q0:=cell_of H5.out 0 (v:=.int .i16 z.a) rfl;have Q1:=cell_of H5.out 1 (v:=.int .i16 z.b) rfl;refine bodyPost_ret (v:=.tuple #[.agg #[.int .i16 z.a,.int .i16 z.b],.bool true]) (by simp[results,results225,go_sem,Q0,Q1]) rfl ?_;exact⟨by rw[HE.out];rfl,by rw[aG];exact HA.upon TS.out A5.out,ay.upon HA.out UB.out A5.out⟩
theorem oP{fn:Func}{a b:Tmp}(F1:fn.results=#[.cell a 220,.cell b 220])(tmps:Array Value)(w:Wd)(ht:tmps.getD a undef=.pointer (some ⟨i,0,none⟩))(hu:tmps.getD b undef=.pointer (some ⟨j,0,none⟩))(h:Bk w i c 220)(hc:c.size=17)(k:Bk w j d 220)(hd:d.size=17) :
  (results fn tmps).run prog w=.ok (.tuple #[.agg c,.agg d]) w:=by
 have hl:=wK h hc;have Qg:=wK k hd;have Qp:tmps[a]?.getD undef=.pointer (some ⟨i,0,none⟩):=by rw[<-ht];simp
 have A6:tmps[b]?.getD undef=.pointer (some ⟨j,0,none⟩):=by rw[<-hu];simp
 unfold results;rw[F1];simp[asAddr,Qp,A6,hl,Qg]
def fQ(C:Cx)(π:bO)(T:gB)(F:Fd)(b:Bool)(w:Wd)(es:List cr)(s1 s2:ST)(r:Ending)(w':Wd):Prop :=
 r=.returned (.tuple #[.agg (aK s1),.agg (aK s2)])/\aM C π T (told π b F es) w'/\ay C w w'
structure sQ(na:Array Value)(k B:Nat)(w W:Wd):Prop where
 p:W.heap[k]?=some (.cells na 220)
 q:W.heap[k+1]?=some (.cells na 220)
 b:Below B w W
theorem Gg(w:Wd)(o1 o2 o3 o4 o5:Obj) :
  (((((w.alloc o1).alloc o2).alloc o3).alloc o4).alloc o5).heap[w.heap.size]?=some o1/\(((((w.alloc o1).alloc o2).alloc o3).alloc o4).alloc o5).heap[w.heap.size+1]?=some o2/\(((((w.alloc o1).alloc o2).alloc o3).alloc o4).alloc o5).heap[w.heap.size+1+1]?=some o3/\(((((w.alloc o1).alloc o2).alloc o3).alloc o4).alloc o5).heap[w.heap.size+1+1+1]?=some o4/\(((((w.alloc o1).alloc o2).alloc o3).alloc o4).alloc o5).heap[w.heap.size+1+1+1+1]?=some o5/\Below w.heap.size w (((((w.alloc o1).alloc o2).alloc o3).alloc o4).alloc o5):=by
 obtain⟨k0,k1,k2,k3,kb⟩:=bM (w:=w) (o1:=o1) (o2:=o2) (o3:=o3) (o4:=o4) (Below.refl _ _);refine⟨heap_alloc_old k0,heap_alloc_old k1,heap_alloc_old k2,heap_alloc_old k3,?_,kb.alloc kb.size _⟩;rw[show w.heap.size+1+1+1+1=((((w.alloc o1).alloc o2).alloc o3).alloc o4).heap.size by simp];exact heap_alloc_new _ _
theorem Io(k:Nat)(vl vr:Value)(C:Cx)(π:bO)(T:gB)(F:Fd)(b:Bool)(w:Wd)(h:aM C π T F w) :
  Calls prog 198 #[.agg (wk C b),.agg #[.int .i64 (k:Nat),vl,vr],.agg (aK none)] w (fQ C π T F b w [] none none):=by
 have z0:∀h:0<(aK none).size,(aK none)[0]=.bool false:=fun h=>ij none h
 have fu:=aF none;obtain⟨na,qH⟩:∃na,na=eX:=⟨_,rfl⟩;have rO:na.size=17:=by rw[qH];rfl
 have n1:na.all (·.oneCell')=true:=by rw[qH];exact aX none
 have pV:=hid qH;generalize wk C b=wa at *;generalize aK none=xa at *;have H0:Hid (sQ na (w.heap.size+1+1+1) w.heap.size w (((((w.alloc (.cells wa 217)).alloc (.cells #[.int .i64 (k:Nat),vl,vr] 285)).alloc (.cells xa 220)).alloc (.cells zS 220)).alloc (.cells zS 220)).drew):=by obtain⟨_,_,_,hp,hq,kb⟩:=Gg w (.cells wa 217) (.cells #[.int .i64 (k:Nat),vl,vr] 285) (.cells xa 220) (.cells zS 220) (.cells zS 220);rw[qH];exact⟨hp,hq,kb.drew⟩
 have HA:=hid h;clear h qH;go_enter func198,ntmps198;go_wp2_with fail;generalize ((((w.alloc (.cells wa 217)).alloc (.cells #[.int .i64 (k:Nat),vl,vr] 285)).alloc (.cells xa 220)).alloc (.cells zS 220)).alloc (.cells zS 220)=W at *;refine wp_region_held_drew (S:=fun w':Wd=>sQ na (w.heap.size+1+1+1) w.heap.size w w') (by kernel_rfl) H0.out (fun aa=>?_);refine mj 0 rfl (yieldsIf_load_mid (by rfl) _ _ rfl _ _ rfl (na).toList _ (fun w' h=>aT h.p) underlying220 rfl (by rw[bP,Array.length_toList,rO])) aa ?_;refine mj 1 rfl (yieldsIf_load_mid (by rfl) _ _ rfl _ _ rfl (na).toList _ (fun w' h=>aT h.q) underlying220 rfl (by rw[bP,Array.length_toList,rO])) aa ?_;refine cH 2 fun K hK=>?_
 simp only[bT,gN,Array.toArray_toList];rw[if_pos (by rfl)];refine kG _ _ rfl rfl rfl (by rw[<-rO];exact bI aa.p) rO n1 ?_;have fM:sQ na (w.heap.size+1+1+1) w.heap.size w _:=⟨ar aa.p (d:=na) rfl,(al na.toList 0 _ (w.heap.size+1+1+1+1) (by omega)).trans aa.q,au (b:=w.heap.size+1+1+1) (by omega) na.toList 0 w _ aa.b⟩;refine hK.out _ _ fM (fun aa=>?_);clear hK K fM;refine cH 3 fun K hK=>?_
 simp only[bT];rw[if_pos (by rfl)];refine kG _ _ rfl rfl rfl (by rw[<-rO];exact bI aa.q) rO n1 ?_;have uO:sQ na (w.heap.size+1+1+1) w.heap.size w _:=⟨(al na.toList 0 _ (w.heap.size+1+1+1) (by omega)).trans aa.p,ar aa.q (d:=na) rfl,au (b:=w.heap.size+1+1+1+1) (by omega) na.toList 0 w _ aa.b⟩;have KC:=hid uO;refine hK.out _ _ uO (fun aa=>?_);clear hK K uO aa;refine wpAnyH_done (by kernel_rfl) ?_ _;go_wp2_with fail;refine bodyPost_ret (oP results198 _ _ rfl rfl KC.p rO KC.q rO) rfl ?_;exact⟨by rw[pV.out];rfl,by rw[ep];exact HA.call KC.b,ay.aB KC.b HA.le⟩
theorem G0(k:Nat)(tl:TypeId)(ul:Value)(tr:TypeId)(ur:Value)(C:Cx)(π:bO)(T:gB)(F:Fd)(b:Bool)(w:Wd)(e:Fin 8->Sp.Iv)(es:List cr)(h:aM C π T F w)
  (hs:kT C π T F b (.iface tl ul) (.iface tr ur) e es none) :
  Calls prog 198 #[.agg (wk C b),.agg #[.int .i64 (k:Nat),.iface tl ul,.iface tr ur],.agg (aK (some e))] w (fQ C π T F b w es none none):=by
 have z0:∀h:0<(aK (some e)).size,(aK (some e))[0]=.bool true:=fun h=>ij (some e) h
 have eH:=aF (some e);have jo:=jy C b;have eg:=cC C b;obtain⟨na,qH⟩:∃na,na=eX:=⟨_,rfl⟩;have rO:na.size=17:=by rw[qH];rfl
 have n1:na.all (·.oneCell')=true:=by rw[qH];exact aX none
 have pV:=hid qH;obtain⟨k0,k1,k2,k3,k4,kb⟩:=Gg w (.cells (wk C b) 217) (.cells #[.int .i64 (k:Nat),.iface tl ul,.iface tr ur] 285) (.cells (aK (some e)) 220) (.cells zS 220) (.cells zS 220);have HW:=hs _ (h.call kb);generalize wk C b=wa at *;generalize aK (some e)=xa at *;have K0:=hid k0;have K1:=hid k1;have K2:=hid k2;have K3:=hid k3;have K4:=hid k4;have c1:=cell_of k1 1 (v:=.iface tl ul) rfl;have c2:=cell_of k1 2 (v:=.iface tr ur) rfl;have HB:=hid kb;have HA:=hid h;have l1:w.heap.size<=w.heap.size+1:=by omega
 have l2:w.heap.size<=w.heap.size+1+1:=by omega
 have l3:w.heap.size<=w.heap.size+1+1+1:=by omega
 have l4:w.heap.size<=w.heap.size+1+1+1+1:=by omega
 clear h hs k0 k1 k2 k3 k4 kb qH;go_enter func198,ntmps198;go_wp2_with (first
  | (refine cm rfl _ rfl rfl K0.out eg ?_)
  | (refine bt rfl _ rfl rfl K2.out eH ?_))
 refine HW.mono ?_;rintro r w1⟨⟨i1,i2,i3,i4,rfl⟩,a1,b1⟩;obtain⟨_,_,n2⟩:=eY (w:=w1) (o1:=.cells #[.int .i16 i1,.int .i16 i2] 131) (o2:=.cells #[.int .i16 i3,.int .i16 i4] 131) (Below.refl _ _);have dI:w.heap.size<=w1.heap.size:=Nat.le_trans HB.size b1.below.size;have H0:Hid (sQ na (w.heap.size+1+1+1) w.heap.size w1 ((w1.alloc (.cells #[.int .i16 i1,.int .i16 i2] 131)).alloc (.cells #[.int .i16 i3,.int .i16 i4] 131)).drew):=by rw[pV.out];exact⟨(n2.block _ (ah (b1.aW HA.out l3 K3.out))).trans (b1.aW HA.out l3 K3.out),(n2.block _ (ah (b1.aW HA.out l4 K4.out))).trans (b1.aW HA.out l4 K4.out),(n2.mono dI).drew⟩
 have nN:=hid a1;have mx:Hid (ay C w w1):=(ay.aB HB.out HA.le).trans b1;clear a1 b1 n2 HW;go_wp2_with fail;generalize (w1.alloc (.cells #[.int .i16 i1,.int .i16 i2] 131)).alloc (.cells #[.int .i16 i3,.int .i16 i4] 131)=W at *;refine wp_region_held_drew (S:=fun w':Wd=>sQ na (w.heap.size+1+1+1) w.heap.size w1 w') (by kernel_rfl) H0.out (fun aa=>?_);refine mj 0 rfl (yieldsIf_load_mid (by rfl) _ _ rfl _ _ rfl (na).toList _ (fun w' h=>aT h.p) underlying220 rfl (by rw[bP,Array.length_toList,rO])) aa ?_;refine mj 1 rfl (yieldsIf_load_mid (by rfl) _ _ rfl _ _ rfl (na).toList _ (fun w' h=>aT h.q) underlying220 rfl (by rw[bP,Array.length_toList,rO])) aa ?_;refine cH 2 fun K hK=>?_
 simp only[bT,gN,Array.toArray_toList];rw[if_pos (by rfl)];refine kG _ _ rfl rfl rfl (by rw[<-rO];exact bI aa.p) rO n1 ?_;have fM:sQ na (w.heap.size+1+1+1) w.heap.size w1 _:=⟨ar aa.p (d:=na) rfl,(al na.toList 0 _ (w.heap.size+1+1+1+1) (by omega)).trans aa.q,au (b:=w.heap.size+1+1+1) (by omega) na.toList 0 w1 _ aa.b⟩;refine hK.out _ _ fM (fun aa=>?_);clear hK K fM;refine cH 3 fun K hK=>?_
 simp only[bT];rw[if_pos (by rfl)];refine kG _ _ rfl rfl rfl (by rw[<-rO];exact bI aa.q) rO n1 ?_;have uO:sQ na (w.heap.size+1+1+1) w.heap.size w1 _:=⟨(al na.toList 0 _ (w.heap.size+1+1+1) (by omega)).trans aa.p,ar aa.q (d:=na) rfl,au (b:=w.heap.size+1+1+1+1) (by omega) na.toList 0 w1 _ aa.b⟩;have KC:=hid uO;refine hK.out _ _ uO (fun aa=>?_);clear hK K uO aa;refine wpAnyH_done (by kernel_rfl) ?_ _;go_wp2_with fail;refine bodyPost_ret (oP results198 _ _ rfl rfl KC.p rO KC.q rO) rfl ?_;exact⟨by rw[pV.out];rfl,HA.upon nN.out KC.b,ay.upon HA.out mx.out KC.b⟩
theorem L0(k:Nat)(hk:k<6)(tl:TypeId)(ul:Value)(tr:TypeId)(ur:Value)(x y:Sp.Sm)(hl:jM (.iface tl ul) x)(hy:jM (.iface tr ur) y)(a c:Sp.Iv)(ha:Wv a)(hc:Wv c)(C:Cx)(π:bO)(T:gB)(F:Fd)(b:Bool)(w:Wd)(e:Fin 8->Sp.Iv)(he:∀j,Wv (e j))(es:List cr)(h:aM C π T F w)
  (hs:kT C π T F b (.iface tl ul) (.iface tr ur) e es (some (a,c))) (s1 s2:ST) (h1:fJ (Dm π) k x y a c e=s1) (h2:fJ (Dm π) (wH k) x y a c e=s2) :
  Calls prog 198 #[.agg (wk C b),.agg #[.int .i64 (k:Nat),.iface tl ul,.iface tr ur],.agg (aK (some e))] w (fQ C π T F b w es s1 s2):=by
 have z0:∀h:0<(aK (some e)).size,(aK (some e))[0]=.bool true:=fun h=>ij (some e) h
 have eH:=aF (some e);have jo:=jy C b;have eg:=cC C b;obtain⟨na,qH⟩:∃na,na=eX:=⟨_,rfl⟩;have rO:na.size=17:=by rw[qH];rfl
 have n1:na.all (·.oneCell')=true:=by rw[qH];exact aX none
 have pV:=hid qH;obtain⟨k0,k1,k2,k3,k4,kb⟩:=Gg w (.cells (wk C b) 217) (.cells #[.int .i64 (k:Nat),.iface tl ul,.iface tr ur] 285) (.cells (aK (some e)) 220) (.cells zS 220) (.cells zS 220);have HW:=hs _ (h.call kb);have ho6:wH k<6:=by rcases(show k=0∨k=1∨k=2∨k=3∨k=4∨k=5 from by omega) with rfl | rfl | rfl | rfl | rfl | rfl<;>decide
 have DV:Hid (∀kl kr W,aM C π T (told π b F es) W->iW (wk C b) (aK (some e)) (.int .i64 (k:Nat)) (.iface tl ul) (.iface tr ur) a c w.heap.size kl kr (w.heap.size+1) (w.heap.size+1+1) W->Calls _ _ _ W _):=fun kl kr W hW TE=>jD (B:=C.base) (π:=π) k hk C.dv (wk C b) jo eg (.int .i64 (k:Nat)) tl tr ul ur x y hl hy a c ha hc e he w.heap.size kl kr (w.heap.size+1) (w.heap.size+1+1) W hW.does hW.turns hW.GV TE s1 h1
 have ym:Hid (∀kl kr W,aM C π T (told π b F es) W->iW (wk C b) (aK (some e)) (.int .i64 (k:Nat)) (.iface tl ul) (.iface tr ur) a c w.heap.size kl kr (w.heap.size+1) (w.heap.size+1+1) W->Calls _ _ _ W _):=fun kl kr W hW TE=>jD (B:=C.base) (π:=π) (wH k) ho6 C.dv (wk C b) jo eg (.int .i64 (k:Nat)) tl tr ul ur x y hl hy a c ha hc e he w.heap.size kl kr (w.heap.size+1) (w.heap.size+1+1) W hW.does hW.turns hW.GV TE s2 h2
 have rU:=aF s1;have Kb:=aX s1;have xo:=aF s2;have KF:=aX s2;generalize wk C b=wa at *;generalize aK (some e)=xa at *;have K0:=hid k0;have K1:=hid k1;have K2:=hid k2;have K3:=hid k3;have K4:=hid k4;have c1:=cell_of k1 1 (v:=.iface tl ul) rfl;have c2:=cell_of k1 2 (v:=.iface tr ur) rfl;have HB:=hid kb;have HA:=hid h;have l1:w.heap.size<=w.heap.size+1:=by omega
 have l2:w.heap.size<=w.heap.size+1+1:=by omega
 have l3:w.heap.size<=w.heap.size+1+1+1:=by omega
 have l4:w.heap.size<=w.heap.size+1+1+1+1:=by omega
 clear h hs k0 k1 k2 k3 k4 kb qH;go_enter func198,ntmps198;go_wp2_with (first
  | (refine cm rfl _ rfl rfl K0.out eg ?_)
  | (refine bt rfl _ rfl rfl K2.out eH ?_))
 refine HW.mono ?_;rintro r w1⟨rfl,a1,b1⟩;obtain⟨nl,nr,n2⟩:=eY (w:=w1) (o1:=.cells #[.int .i16 a.a,.int .i16 a.b] 131) (o2:=.cells #[.int .i16 c.a,.int .i16 c.b] 131) (Below.refl _ _);have dI:w.heap.size<=w1.heap.size:=Nat.le_trans HB.size b1.below.size;have H0:Hid (iW wa xa (.int .i64 (k:Nat)) (.iface tl ul) (.iface tr ur) a c w.heap.size w1.heap.size (w1.heap.size+1) (w.heap.size+1) (w.heap.size+1+1) ((w1.alloc (.cells #[.int .i16 a.a,.int .i16 a.b] 131)).alloc (.cells #[.int .i16 c.a,.int .i16 c.b] 131)).drew/\((w1.alloc (.cells #[.int .i16 a.a,.int .i16 a.b] 131)).alloc (.cells #[.int .i16 c.a,.int .i16 c.b] 131)).drew.heap[w.heap.size+1+1+1]?=some (.cells zS 220)/\((w1.alloc (.cells #[.int .i16 a.a,.int .i16 a.b] 131)).alloc (.cells #[.int .i16 c.a,.int .i16 c.b] 131)).drew.heap[w.heap.size+1+1+1+1]?=some (.cells zS 220)/\Below w.heap.size w1 ((w1.alloc (.cells #[.int .i16 a.a,.int .i16 a.b] 131)).alloc (.cells #[.int .i16 c.a,.int .i16 c.b] 131)).drew) :=
  ⟨⟨(n2.block _ (ah (b1.aW HA.out (Nat.le_refl _) K0.out))).trans (b1.aW HA.out (Nat.le_refl _) K0.out),nl,nr,(n2.block _ (ah (b1.aW HA.out l1 K1.out))).trans (b1.aW HA.out l1 K1.out),(n2.block _ (ah (b1.aW HA.out l2 K2.out))).trans (b1.aW HA.out l2 K2.out)⟩,
   (n2.block _ (ah (b1.aW HA.out l3 K3.out))).trans (b1.aW HA.out l3 K3.out),(n2.block _ (ah (b1.aW HA.out l4 K4.out))).trans (b1.aW HA.out l4 K4.out),(n2.mono dI).drew⟩
 have VG:w.heap.size+1+1+1+1<w1.heap.size:=Nat.lt_of_lt_of_le (ah K4.out) b1.below.size;have nN:=hid a1;have mx:Hid (ay C w w1):=(ay.aB HB.out HA.le).trans b1;clear a1 b1 n2 HW nl nr;go_wp2_with fail;generalize (w1.alloc (.cells #[.int .i16 a.a,.int .i16 a.b] 131)).alloc (.cells #[.int .i16 c.a,.int .i16 c.b] 131)=W at *;refine wp_region_held_drew (S:=fun w':Wd=>iW wa xa (.int .i64 (k:Nat)) (.iface tl ul) (.iface tr ur) a c w.heap.size w1.heap.size (w1.heap.size+1) (w.heap.size+1) (w.heap.size+1+1) w'/\(∃d,d.size=17/\w'.heap[w.heap.size+1+1+1]?=some (.cells d 220))/\(∃d,d.size=17/\w'.heap[w.heap.size+1+1+1+1]?=some (.cells d 220))/\Below w.heap.size w1 w') (by kernel_rfl) ⟨H0.1,⟨_,rfl,H0.2.1⟩,⟨_,rfl,H0.2.2.1⟩,H0.2.2.2⟩ (fun aa=>?_);refine tq 0 (.func (Fn.func 227) #[] #[.pointer (some ⟨w.heap.size,0,none⟩),.pointer (some ⟨w1.heap.size,0,none⟩),.pointer (some ⟨w1.heap.size+1,0,none⟩),.pointer (some ⟨w.heap.size+1,0,none⟩),.pointer (some ⟨w.heap.size+1+1,0,none⟩)]) aa ?_;refine tq 1 (.pointer (some ⟨w.heap.size+1,0,none⟩)) aa ?_;refine tk 2 (.int .i64 (k:Nat)) rfl (fun w' h=>by have d:=cell_of h.1.c 0 (v:=.int .i64 (k:Nat)) rfl;go_simp) aa ?_;refine tq 4 (.func (Fn.func 227) #[] #[.pointer (some ⟨w.heap.size,0,none⟩),.pointer (some ⟨w1.heap.size,0,none⟩),.pointer (some ⟨w1.heap.size+1,0,none⟩),.pointer (some ⟨w.heap.size+1,0,none⟩),.pointer (some ⟨w.heap.size+1+1,0,none⟩)]) aa ?_;refine tq 5 (.pointer (some ⟨w.heap.size+1,0,none⟩)) aa ?_;refine tk 6 (.int .i64 (k:Nat)) rfl (fun w' h=>by have d:=cell_of h.1.c 0 (v:=.int .i64 (k:Nat)) rfl;go_simp) aa ?_;refine cH 3 fun K hK=>?_
 simp only[bT,gN];go_simp;refine(DV.out _ _ _ (HA.upon nN.out aa.2.2.2) aa.1).mono ?_;rintro q w3⟨rfl,b3⟩;go_wp2_with fail;obtain⟨c3,DP,js⟩:=aa.2.1;obtain⟨c4,tM,od⟩:=aa.2.2.1;have uO:iW wa xa (.int .i64 (k:Nat)) (.iface tl ul) (.iface tr ur) a c w.heap.size w1.heap.size (w1.heap.size+1) (w.heap.size+1) (w.heap.size+1+1) w3/\(∃d,d.size=17/\w3.heap[w.heap.size+1+1+1]?=some (.cells d 220))/\(∃d,d.size=17/\w3.heap[w.heap.size+1+1+1+1]?=some (.cells d 220))/\Below w.heap.size w1 w3:=⟨aa.1.call b3,⟨c3,DP,(b3.block _ (ah js)).trans js⟩,⟨c4,tM,(b3.block _ (ah od)).trans od⟩,aa.2.2.2.trans (b3.mono (Nat.le_trans dI aa.2.2.2.size))⟩;refine hK.out _ _ uO (fun aa=>?_);clear hK K uO b3 js od;refine cH 7 fun K hK=>?_
 simp only[bT];go_simp;refine(jT k hk _ (HA.upon nN.out aa.2.2.2).turns).mono ?_;rintro q w4⟨rfl,rfl⟩;go_wp2_with fail;refine hK.out _ _ aa (fun aa=>?_);clear hK K;refine cH 8 fun K hK=>?_
 simp only[bT];go_simp;refine(ym.out _ _ _ (HA.upon nN.out aa.2.2.2) aa.1).mono ?_;rintro q w5⟨rfl,b5⟩;go_wp2_with fail;obtain⟨c5,hc5,oS⟩:=aa.2.1;obtain⟨c6,hc6,N1⟩:=aa.2.2.1;have He:=(b5.block _ (ah oS)).trans oS;have Xe:=(b5.block _ (ah N1)).trans N1;have zm:iW wa xa (.int .i64 (k:Nat)) (.iface tl ul) (.iface tr ur) a c w.heap.size w1.heap.size (w1.heap.size+1) (w.heap.size+1) (w.heap.size+1+1) w5/\(∃d,d.size=17/\w5.heap[w.heap.size+1+1+1]?=some (.cells d 220))/\(∃d,d.size=17/\w5.heap[w.heap.size+1+1+1+1]?=some (.cells d 220))/\Below w.heap.size w1 w5:=⟨aa.1.call b5,⟨c5,hc5,He⟩,⟨c6,hc6,Xe⟩,aa.2.2.2.trans (b5.mono (Nat.le_trans dI aa.2.2.2.size))⟩;refine hK.out _ _ zm (fun aa=>?_);clear hK K zm b5 oS N1;generalize Kp:aK s1=u1 at *;generalize Oc:aK s2=u2 at *;have HU1:=hid Kp;have HU2:=hid Oc;clear Kp Oc;have db:∀i,i<w.heap.size+1+1+1∨w1.heap.size<=i->i≠w.heap.size+1+1+1:=fun i hi=>by have:=VG;omega
 have Dw:∀i,i<w.heap.size+1+1+1∨w1.heap.size<=i->i≠w.heap.size+1+1+1+1:=fun i hi=>by have:=VG;omega
 have hp9:=ar He (d:=u1) (by omega);have YA:=(al u1.toList 0 w5 (w.heap.size+1+1+1+1) (show w.heap.size+1+1+1+1≠w.heap.size+1+1+1 by omega)).trans Xe;have TP:=au (b:=w.heap.size+1+1+1) l3 u1.toList 0 w1 _ aa.2.2.2;have UF:iW wa xa (.int .i64 (k:Nat)) (.iface tl ul) (.iface tr ur) a c w.heap.size w1.heap.size (w1.heap.size+1) (w.heap.size+1) (w.heap.size+1+1) (w5.setCells (w.heap.size+1+1+1) 0 u1.toList) :=
  ⟨(al _ _ _ _ (db _ (.inl (by omega)))).trans aa.1.o,(al _ _ _ _ (db _ (.inr (by omega)))).trans aa.1.l,(al _ _ _ _ (db _ (.inr (by omega)))).trans aa.1.r,(al _ _ _ _ (db _ (.inl (by omega)))).trans aa.1.c,(al _ _ _ _ (db _ (.inl (by omega)))).trans aa.1.x⟩
 refine cH 9 fun K hK=>?_
 simp only[bT];rw[if_pos (by rfl)];refine kG _ _ rfl rfl rfl (by rw[<-hc5];exact bI He) rU Kb ?_;refine hK.out _ _ ⟨UF,⟨u1,rU,hp9⟩,⟨c6,hc6,YA⟩,TP⟩ (fun aa=>?_);clear hK K;have VB:=(al u2.toList 0 (w5.setCells (w.heap.size+1+1+1) 0 u1.toList) (w.heap.size+1+1+1) (show w.heap.size+1+1+1≠w.heap.size+1+1+1+1 by omega)).trans hp9;have VQ:=ar YA (d:=u2) (by omega);have Xq:=au (b:=w.heap.size+1+1+1+1) l4 u2.toList 0 w1 _ TP;have HP:=hid VB;have HQ:=hid VQ;have fH:=hid Xq;refine cH 10 fun K hK=>?_
 simp only[bT];rw[if_pos (by rfl)];refine kG _ _ rfl rfl rfl (by rw[<-hc6];exact bI YA) xo KF ?_;refine hK.out _ _ ⟨⟨(al _ _ _ _ (Dw _ (.inl (by omega)))).trans aa.1.o,(al _ _ _ _ (Dw _ (.inr (by omega)))).trans aa.1.l,(al _ _ _ _ (Dw _ (.inr (by omega)))).trans aa.1.r,(al _ _ _ _ (Dw _ (.inl (by omega)))).trans aa.1.c,(al _ _ _ _ (Dw _ (.inl (by omega)))).trans aa.1.x⟩,⟨u1,rU,HP.out⟩,⟨u2,xo,HQ.out⟩,fH.out⟩ (fun _=>?_);clear hK K aa UF hp9 YA TP VB VQ Xq He Xe;refine wpAnyH_done (by kernel_rfl) ?_ _;go_wp2_with fail;refine bodyPost_ret (oP results198 _ _ rfl rfl HP.out rU HQ.out xo) rfl ?_;exact⟨by rw[<-HU1.out,<-HU2.out],HA.upon nN.out fH.out,ay.upon HA.out mx.out fH.out⟩
def uJ(C:Cx)(π:bO)(T:gB)(F:Fd)(b:Bool)(k:Nat)(vl vr:Value)(s:ST)(es:List cr)(s1 s2:ST):Prop :=
 ∀W,aM C π T F W->Calls prog 198 #[.agg (wk C b),.agg #[.int .i64 (k:Nat),vl,vr],.agg (aK s)] W (fQ C π T F b W es s1 s2)
theorem ru(w:Wd)(u1 u2:Array Value)(h1:u1.size=17)(h2:u2.size=17) :
  ((w.alloc (.cells zS 220)).alloc (.cells zS 220)).heap[w.heap.size]?=some (.cells zS 220) /\
  (((w.alloc (.cells zS 220)).alloc (.cells zS 220)).setCells w.heap.size 0 u1.toList).heap[w.heap.size+1]?=some (.cells zS 220) /\
  ((((w.alloc (.cells zS 220)).alloc (.cells zS 220)).setCells w.heap.size 0 u1.toList).setCells (w.heap.size+1) 0 u2.toList).heap[w.heap.size]?=some (.cells u1 220) /\
  ((((w.alloc (.cells zS 220)).alloc (.cells zS 220)).setCells w.heap.size 0 u1.toList).setCells (w.heap.size+1) 0 u2.toList).heap[w.heap.size+1]?=some (.cells u2 220) /\
  Below w.heap.size w ((((w.alloc (.cells zS 220)).alloc (.cells zS 220)).setCells w.heap.size 0 u1.toList).setCells (w.heap.size+1) 0 u2.toList):=by
 obtain⟨a1,a2,a3⟩:=eY (w:=w) (o1:=.cells zS 220) (o2:=.cells zS 220) (Below.refl _ _);have b1:=ar a1 (d:=u1) (by rw[h1];rfl);have b2:=(al u1.toList 0 ((w.alloc (.cells zS 220)).alloc (.cells zS 220)) (w.heap.size+1) (show w.heap.size+1≠w.heap.size by omega)).trans a2;exact⟨a1,b2,(al u2.toList 0 _ w.heap.size (by omega)).trans b1,ar b2 (d:=u2) (by rw[h2];rfl),au (b:=w.heap.size+1) (by omega) u2.toList 0 w _ (au (b:=w.heap.size) (Nat.le_refl _) u1.toList 0 w _ a3)⟩
theorem mY(p q:Int)(k:Nat)(tl:TypeId)(ul:Value)(tr:TypeId)(ur:Value)(C:Cx)(π:bO)(T:gB)(F:Fd)(b:Bool)(w:Wd)(e:Fin 8->Sp.Iv)(es:List cr)(s1 s2:ST)(h:aM C π T F w)
  (hs:uJ C π T F b k (.iface tl ul) (.iface tr ur) (some e) es s1 s2) (hr:df b (told π b F es) [.site q s2.isSome]) :
  Calls prog 159 #[.agg (wk C b),.agg #[.int .i64 p,.int .i64 q,.int .i64 (k:Nat),.iface tl ul,.iface tr ur],.agg (aK (some e))] w (fF C π T F b w (es ++ [.site q s2.isSome]) s1):=by
 obtain⟨k0,k1,k2,k3,kb⟩:=bM (w:=w) (o1:=.cells (wk C b) 217) (o2:=.cells #[.int .i64 p,.int .i64 q,.int .i64 (k:Nat),.iface tl ul,.iface tr ur] 287) (o3:=.cells (aK (some e)) 220) (o4:=.cells zS 220) (Below.refl _ _);have HW:=hs _ (h.call kb);have ZA:Hid (∀W,aM C π T (told π b F es) W->Calls _ _ _ W _):=fun W hW=>fN C π T (told π b F es) b W hW q s2.isSome hr
 have eg:=cC C b;have eH:=aF (some e);have rU:=aF s1;have Kb:=aX s1;have xo:=aF s2;have KF:=aX s2;have z2:(aK s2)[0]?=some (.bool s2.isSome):=by rw[Array.getElem?_eq_getElem (by omega),ij s2]
 unfold fQ at HW;generalize wk C b=wa at *;generalize aK (some e)=xa at *;generalize s2.isSome=rb at *;generalize Kp:aK s1=u1 at *;generalize aK s2=u2 at *;have HU1:=hid Kp;have K0:=hid k0;have K1:=hid k1;have K2:=hid k2;have K3:=hid k3;have c2:=cell_of k1 2 (v:=.int .i64 (k:Nat)) rfl;have c3:=cell_of k1 3 (v:=.iface tl ul) rfl;have c4:=cell_of k1 4 (v:=.iface tr ur) rfl;have HB:=hid kb;have HA:=hid h;have l1:w.heap.size<=w.heap.size+1:=by omega
 have l3:w.heap.size<=w.heap.size+1+1+1:=by omega
 clear h hs k0 k1 k2 k3 kb Kp hr;go_enter func159,ntmps159;go_wp2_with (first
  | (refine cm rfl _ rfl rfl K0.out eg ?_)
  | (refine bt rfl _ rfl rfl K2.out eH ?_))
 refine HW.mono ?_;rintro r w1⟨rfl,a1,b1⟩;have dI:w.heap.size<=w1.heap.size:=Nat.le_trans HB.size b1.below.size;obtain⟨t1,t2,t3,t4,tb⟩:=ru w1 u1 u2 rU xo;have F6:=hid t1;have Bg:=hid t2;have HT3:=hid t3;have Xy:=(tb.block _ (ah (b1.aW HA.out (Nat.le_refl _) K0.out))).trans (b1.aW HA.out (Nat.le_refl _) K0.out);have tM:=(tb.block _ (ah (b1.aW HA.out l1 K1.out))).trans (b1.aW HA.out l1 K1.out);have od:=(tb.block _ (ah (b1.aW HA.out l3 K3.out))).trans (b1.aW HA.out l3 K3.out);have HO4:=hid Xy;have HZ4:=hid od;have g1:=cell_of tM 1 (v:=.int .i64 q) rfl;have g0:=cell_of t4 0 z2;have Vt:Hid (aM C π T (told π b F es) _):=HA.upon a1 (tb.mono dI);have TC:Hid (ay C w _):=ay.upon HA.out ((ay.aB HB.out HA.le).trans b1) (tb.mono dI);clear t1 t2 t3 t4 tb a1 b1 HW Xy tM od;go_wp2_with (first
  | (refine bV rfl _ _ rfl rfl (c:=zS) (d:=u1) rfl (by exact F6.out) rfl rU Kb ?_)
  | (refine bV rfl _ _ rfl rfl (c:=zS) (d:=u2) rfl (by exact Bg.out) rfl xo KF ?_)
  | (refine cm rfl _ rfl rfl (c:=wa) (by exact HO4.out) eg ?_))
 generalize ((((w1.alloc (.cells zS 220)).alloc (.cells zS 220)).setCells w1.heap.size 0 u1.toList).setCells (w1.heap.size+1) 0 u2.toList)=w4 at *;refine(ZA.out _ Vt.out).mono ?_;rintro r w5⟨rfl,a5,b5⟩;have NS:=b5.aW HA.out dI HT3.out;have oS:=b5.aW HA.out l3 HZ4.out;have HX5:=hid NS;have HZ5:=hid oS;have gA:Hid (_=_):=ar oS (d:=u1) (by rw[rU];rfl);have fH:Hid (Below w.heap.size w5 _):=au (b:=w.heap.size+1+1+1) l3 u1.toList 0 w5 _ (Below.refl _ _);have Rr:=hid a5;have Rg:Hid (ay C w w5):=TC.trans b5;clear a5 b5 NS oS g0 g1;go_wp2_with (first
  | (refine bt rfl _ rfl rfl HX5.out rU ?_)
  | (refine bV rfl _ _ rfl rfl rfl HZ5.out rfl rU Kb ?_))
 refine bodyPost_ret (aN results159 _ _ rfl gA.out rU) rfl ⟨by rw[HU1.out],by rw[aG];exact HA.upon Rr.out fH.out,ay.upon HA.out Rg.out fH.out⟩
def Ls(C:Cx)(π:bO)(T:gB)(F:Fd)(b:Bool)(w:Wd)(v:Value)(s:ST)(es:List cr)(u:ST):Prop :=
 ∀W,ay C w W->aM C π T F W->Calls prog 82 #[.agg (wk C b),v,.agg (aK s)] W (fF C π T F b W es u)
structure s9(wa u1 u2:Array Value)(ic:Array Value)(k n:Nat)(W:Wd):Prop where
 o:W.heap[k]?=some (.cells wa 217)
 c:W.heap[k+1]?=some (.cells ic 290)
 x:W.heap[n]?=some (.cells u1 220)
 y:W.heap[n+1]?=some (.cells u2 220)
 z:∃d,d.size=17/\W.heap[k+1+1+1]?=some (.cells d 220)
theorem s9.bF{C:Cx}{F:Fd}(h:s9 wa u1 u2 ic w.heap.size n W)(h0:aM C π T F w)(hn:w.heap.size<=n)(b:ay C W W'):s9 wa u1 u2 ic w.heap.size n W':=by obtain⟨d,hd,hz⟩:=h.z;exact⟨b.aW h0 (Nat.le_refl _) h.o,b.aW h0 (by omega) h.c,b.aW h0 hn h.x,b.aW h0 (by omega) h.y,⟨d,hd,b.aW h0 (by omega) hz⟩⟩
theorem s9.call(h:s9 wa u1 u2 ic k n W)(b:Below W.heap.size W W'):s9 wa u1 u2 ic k n W':=by obtain⟨d,hd,hz⟩:=h.z;exact⟨(b.block _ (ah h.o)).trans h.o,(b.block _ (ah h.c)).trans h.c,(b.block _ (ah h.x)).trans h.x,(b.block _ (ah h.y)).trans h.y,⟨d,hd,(b.block _ (ah hz)).trans hz⟩⟩
theorem jA(p:Int)(k:Nat)(tl:TypeId)(ul:Value)(tr:TypeId)(ur:Value)(av:Option Addr)(nv cv:Nat)(ae:Option Addr)(ne ce:Nat)(hb:Bool)(C:Cx)(π:bO)(T:gB)(F:Fd)(b:Bool)(w:Wd)(e:Fin 8->Sp.Iv)(es Uq dD:List cr)(s1 s2 v1 v2 u:ST)(h:aM C π T F w)
  (hs:uJ C π T F b k (.iface tl ul) (.iface tr ur) (some e) es s1 s2) (h1:Ls C π T (told π b F es) b w (.slice av nv cv) s1 Uq v1) (h2:Ls C π T (told π b (told π b F es) Uq) b w (.slice ae ne ce) s2 dD v2) (XR:Sp.Wf (Kr π) v1) (w2f:Sp.Wf (Kr π) v2) (hu:Sp.jn (Dm π) v1 v2=u) :
  Calls prog 160 #[.agg (wk C b),.agg #[.int .i64 p,.int .i64 (k:Nat),.iface tl ul,.iface tr ur,.slice av nv cv,.slice ae ne ce,.bool hb],.agg (aK (some e))] w (fF C π T F b w (es ++ Uq ++ dD) u):=by
 obtain⟨k0,k1,k2,k3,kb⟩:=bM (w:=w) (o1:=.cells (wk C b) 217) (o2:=.cells #[.int .i64 p,.int .i64 (k:Nat),.iface tl ul,.iface tr ur,.slice av nv cv,.slice ae ne ce,.bool hb] 290) (o3:=.cells (aK (some e)) 220) (o4:=.cells zS 220) (Below.refl _ _);have HW:=hs _ (h.call kb);have eg:=cC C b;have eH:=aF (some e);have rU:=aF s1;have Kb:=aX s1;have xo:=aF s2;have KF:=aX s2;have kY:=aF u;have Bj:=aX u;have H1:Hid (∀W,ay C w W->aM C π T (told π b F es) W->Calls _ _ _ W _):=h1;have H2:Hid (∀W,ay C w W->aM C π T (told π b (told π b F es) Uq) W->Calls _ _ _ W _):=h2;have HJ:Hid (∀W,fG C.base π C.dv W->Calls prog 116 #[.agg (wk C b),.agg (aK v1),.agg (aK v2)] W fun e w'=>e=.returned (.agg (aK u))/\Below W.heap.size W w'):=fun W hd=>oO (B:=C.base) (π:=π) C.dv C.cU C.ao C.narrow C.aj C.th C.m _ v1 v2 u W hd hu XR w2f
 unfold fQ at HW;unfold fF at H1 H2;generalize wk C b=wa at *;generalize aK (some e)=xa at *;generalize aK s1=q1 at *;generalize aK s2=q2 at *;generalize aK v1=r1 at *;generalize aK v2=r2 at *;generalize Hv:aK u=uu at *;have KD:=hid Hv;have K0:=hid k0;have K1:=hid k1;have K2:=hid k2;have K3:=hid k3;have c2:=cell_of k1 1 (v:=.int .i64 (k:Nat)) rfl;have c3:=cell_of k1 2 (v:=.iface tl ul) rfl;have c4:=cell_of k1 3 (v:=.iface tr ur) rfl;have HB:=hid kb;have HA:=hid h;have l1:w.heap.size<=w.heap.size+1:=by omega
 have l3:w.heap.size<=w.heap.size+1+1+1:=by omega
 clear h hs k0 k1 k2 k3 kb Hv h1 h2 hu XR w2f;go_enter func160,ntmps160;go_wp2_with (first
  | (refine cm rfl _ rfl rfl K0.out eg ?_)
  | (refine bt rfl _ rfl rfl K2.out eH ?_))
 refine HW.mono ?_;rintro r w1⟨rfl,a1,b1⟩;have dI:w.heap.size<=w1.heap.size:=Nat.le_trans HB.size b1.below.size;have Ko:w.heap.size+1+1+1<w1.heap.size:=Nat.lt_of_lt_of_le (ah K3.out) b1.below.size;obtain⟨t1,t2,t3,t4,tb⟩:=ru w1 q1 q2 rU xo;have F6:=hid t1;have Bg:=hid t2;have Xy:=(tb.block _ (ah (b1.aW HA.out (Nat.le_refl _) K0.out))).trans (b1.aW HA.out (Nat.le_refl _) K0.out);have tM:=(tb.block _ (ah (b1.aW HA.out l1 K1.out))).trans (b1.aW HA.out l1 K1.out);have od:=(tb.block _ (ah (b1.aW HA.out l3 K3.out))).trans (b1.aW HA.out l3 K3.out);have H0:Hid (s9 wa q1 q2 #[.int .i64 p,.int .i64 (k:Nat),.iface tl ul,.iface tr ur,.slice av nv cv,.slice ae ne ce,.bool hb] w.heap.size w1.heap.size ((((w1.alloc (.cells zS 220)).alloc (.cells zS 220)).setCells w1.heap.size 0 q1.toList).setCells (w1.heap.size+1) 0 q2.toList).drew):=⟨Xy,tM,t3,t4,⟨_,rfl,od⟩⟩;have Vt:Hid (aM C π T (told π b F es) ((((w1.alloc (.cells zS 220)).alloc (.cells zS 220)).setCells w1.heap.size 0 q1.toList).setCells (w1.heap.size+1) 0 q2.toList).drew):=HA.upon a1 (tb.mono dI).drew;have TC:Hid (ay C w ((((w1.alloc (.cells zS 220)).alloc (.cells zS 220)).setCells w1.heap.size 0 q1.toList).setCells (w1.heap.size+1) 0 q2.toList).drew):=ay.upon HA.out ((ay.aB HB.out HA.le).trans b1) (tb.mono dI).drew;clear t1 t2 t3 t4 tb a1 b1 HW Xy tM od;go_wp2_with (first
  | (refine bV rfl _ _ rfl rfl (c:=zS) (d:=q1) rfl (by exact F6.out) rfl rU Kb ?_)
  | (refine bV rfl _ _ rfl rfl (c:=zS) (d:=q2) rfl (by exact Bg.out) rfl xo KF ?_))
 generalize ((((w1.alloc (.cells zS 220)).alloc (.cells zS 220)).setCells w1.heap.size 0 q1.toList).setCells (w1.heap.size+1) 0 q2.toList)=w4 at *;refine wp_region_held_drew (S:=fun w':Wd=>s9 wa q1 q2 #[.int .i64 p,.int .i64 (k:Nat),.iface tl ul,.iface tr ur,.slice av nv cv,.slice ae ne ce,.bool hb] w.heap.size w1.heap.size w') (by kernel_rfl) H0.out (fun aa=>?_);refine mj 0 rfl (yieldsIf_load_mid (by rfl) _ _ rfl _ _ rfl (wa).toList _ (fun w' h=>aT h.o) underlying217 rfl (by rw[fD,Array.length_toList,eg])) aa ?_;refine mj 1 rfl (yieldsIf_load_mid (by rfl) _ _ rfl _ _ rfl (wa).toList _ (fun w' h=>aT h.o) underlying217 rfl (by rw[fD,Array.length_toList,eg])) aa ?_;refine mj 6 rfl (yieldsIf_load_mid (by rfl) _ _ rfl _ _ rfl (wa).toList _ (fun w' h=>aT h.o) underlying217 rfl (by rw[fD,Array.length_toList,eg])) aa ?_;refine mj 4 rfl (yieldsIf_load_mid (by rfl) _ _ rfl _ _ rfl (q1).toList _ (fun w' h=>aT h.x) underlying220 rfl (by rw[bP,Array.length_toList,rU])) aa ?_;refine mj 9 rfl (yieldsIf_load_mid (by rfl) _ _ rfl _ _ rfl (q2).toList _ (fun w' h=>aT h.y) underlying220 rfl (by rw[bP,Array.length_toList,xo])) aa ?_;refine tq 2 (.pointer (some ⟨w.heap.size+1,4,none⟩)) aa ?_;refine tk 3 (.slice av nv cv) rfl (fun w' h=>by have d:=cell_of h.c 4 (v:=.slice av nv cv) rfl;go_simp) aa ?_;refine tq 7 (.pointer (some ⟨w.heap.size+1,5,none⟩)) aa ?_;refine tk 8 (.slice ae ne ce) rfl (fun w' h=>by have d:=cell_of h.c 5 (v:=.slice ae ne ce) rfl;go_simp) aa ?_;refine cH 5 fun K hK=>?_
 simp only[bT,gN,Array.toArray_toList];go_simp;refine(H1.out _ TC.out Vt.out).mono ?_;rintro r w5⟨rfl,a5,b5⟩;go_wp2_with fail;have Rr:=hid a5;have Rg:Hid (ay C w w5):=TC.trans b5;have zm:=aa.bF HA.out dI b5;refine hK.out _ _ zm (fun aa=>?_);clear hK K zm a5 b5;refine cH 10 fun K hK=>?_
 simp only[bT];go_simp;refine(H2.out _ Rg.out Rr.out).mono ?_;rintro r w6⟨rfl,a6,b6⟩;go_wp2_with fail;have HA6:=hid a6;have HK6:Hid (ay C w w6):=Rg.trans b6;have ju:=aa.bF HA.out dI b6;refine hK.out _ _ ju (fun aa=>?_);clear hK K ju a6 b6;refine cH 11 fun K hK=>?_
 simp only[bT];go_simp;refine(HJ.out _ HA6.does).mono ?_;rintro r w7⟨rfl,b7⟩;go_wp2_with fail;have ZL:Hid (aM C π T (told π b (told π b (told π b F es) Uq) dD) w7):=HA6.call b7;have HK7:Hid (ay C w w7):=HK6.more b7 HA.le;have Hm:=aa.call b7;refine hK.out _ _ Hm (fun aa=>?_);clear hK K Hm b7;obtain⟨d,hd,hz⟩:=aa.z;have gA:Hid (_=_):=ar hz (d:=uu) (by omega);have fH:Hid (Below w.heap.size w7 _):=au (b:=w.heap.size+1+1+1) l3 uu.toList 0 w7 _ (Below.refl _ _);refine cH 12 fun K hK=>?_
 simp only[bT];rw[if_pos (by rfl)];refine kG _ _ rfl rfl rfl (by rw[<-hd];exact bI hz) kY Bj ?_;refine hK.out _ _ ⟨(al _ _ _ _ (by omega)).trans aa.o,(al _ _ _ _ (by omega)).trans aa.c,(al _ _ _ _ (by omega)).trans aa.x,(al _ _ _ _ (by omega)).trans aa.y,⟨uu,kY,gA.out⟩⟩ (fun _=>?_);clear hK K aa hz;refine wpAnyH_done (by kernel_rfl) ?_ _;go_wp2_with fail;refine bodyPost_ret (aN results160 _ _ rfl gA.out kY) rfl ⟨by rw[KD.out],by rw[aG,aG];exact HA.upon ZL.out fH.out,ay.upon HA.out HK7.out fH.out⟩
structure jS(wq ic wa sa:Array Value)(kq ko kw ks:Nat)(W:Wd):Prop where
 q:W.heap[kq]?=some (.cells wq 217)
 c:W.heap[ko]?=some (.cells ic 293)
 o:W.heap[kw]?=some (.cells wa 217)
 s:W.heap[ks]?=some (.cells sa 220)
theorem jS.call(h:jS wq ic wa sa kq ko kw ks W)(b:Below W.heap.size W W'):jS wq ic wa sa kq ko kw ks W' :=
 ⟨(b.block _ (ah h.q)).trans h.q,(b.block _ (ah h.c)).trans h.c,(b.block _ (ah h.o)).trans h.o,(b.block _ (ah h.s)).trans h.s⟩
structure QD(n kq ko kw ks:Nat):Prop where
 q:n<=kq
 c:n<=ko
 o:n<=kw
 s:n<=ks
theorem jS.bF{C:Cx}{F:Fd}(h:jS wq ic wa sa kq ko kw ks W)(h0:aM C π T F w0)(hn:QD w0.heap.size kq ko kw ks)(b:ay C W W'):jS wq ic wa sa kq ko kw ks W' :=
 ⟨b.aW h0 hn.q h.q,b.aW h0 hn.c h.c,b.aW h0 hn.o h.o,b.aW h0 hn.s h.s⟩
theorem jS.put(h:jS wq ic wa sa kq ko kw ks W)(hp:kq<p/\ko<p/\kw<p/\ks<p)(l:List Value):jS wq ic wa sa kq ko kw ks (W.setCells p 0 l) :=
 ⟨(al _ _ _ _ (by omega)).trans h.q,(al _ _ _ _ (by omega)).trans h.c,(al _ _ _ _ (by omega)).trans h.o,(al _ _ _ _ (by omega)).trans h.s⟩
abbrev An(p:Int)(k:Nat)(tl:TypeId)(ul:Value)(tr:TypeId)(ur:Value)(av:Option Addr)(nv cv:Nat):Array Value:=#[.int .i64 p,.int .i64 (k:Nat),.iface tl ul,.iface tr ur,.slice av nv cv]
theorem EP(p:Int)(k:Nat)(tl:TypeId)(ul:Value)(tr:TypeId)(ur:Value)(av:Option Addr)(nv cv:Nat)(C:Cx)(π:bO)(T:gB)(F F0:Fd)(b:Bool)(w0 w:Wd)(kq ko kw ks:Nat)(s i:ST)(h0:aM C π T F0 w0)(hn:QD w0.heap.size kq ko kw ks)(h:aM C π T F w)(hc:jS (wk C false) (An p k tl ul tr ur av nv cv) (wk C b) (aK s) kq ko kw ks w)(Uq dD:List cr)(s1 s2 v u:ST)
  (hs:uJ C π T F false k (.iface tl ul) (.iface tr ur) i Uq s1 s2) (h1:Ls C π T F false w (.slice av nv cv) s1 dD v) (wsf:Sp.Wf (Kr π) s) (wvf:Sp.Wf (Kr π) v) (hu:Sp.jn (Dm π) s v=u) :
  Calls prog 245 #[.agg (aK i),.pointer (some ⟨kq,0,none⟩),.pointer (some ⟨ko,0,none⟩),.pointer (some ⟨kw,0,none⟩),.pointer (some ⟨ks,0,none⟩)] w fun e w'=>e=.returned (.agg (aK u))/\aM C π T F w'/\ay C w w':=by
 obtain⟨k0,k1,kb⟩:=eY (w:=w) (o1:=.cells (aK i) 220) (o2:=.cells zS 220) (Below.refl _ _);have HW:=hs _ (h.call kb);have eg:=cC C b;have Xa:=cC C false;have eH:=aF i;have rU:=aF s1;have Kb:=aX s1;have xo:=aF s2;have KF:=aX s2;have Uu:=aF s;have kY:=aF u;have Bj:=aX u;have H1:Hid (∀W,ay C w W->aM C π T F W->Calls _ _ _ W _):=h1;have HJ:Hid (∀W,fG C.base π C.dv W->Calls prog 116 #[.agg (wk C b),.agg (aK s),.agg (aK v)] W fun e w'=>e=.returned (.agg (aK u))/\Below W.heap.size W w'):=fun W hd=>oO (B:=C.base) (π:=π) C.dv C.cU C.ao C.narrow C.aj C.th C.m _ s v u W hd hu wsf wvf
 have tM:=hc.call kb;unfold fQ at HW;unfold fF at H1;generalize wk C false=wq at *;generalize wk C b=wa at *;generalize aK i=xa at *;generalize aK s=sa at *;generalize aK s1=q1 at *;generalize aK s2=q2 at *;generalize aK v=r1 at *;generalize aK u=uu at *;have K0:=hid k0;have K1:=hid k1;have HQ:=hid tM.q;have c1:=cell_of tM.c 1 (v:=.int .i64 (k:Nat)) rfl;have c2:=cell_of tM.c 2 (v:=.iface tl ul) rfl;have c3:=cell_of tM.c 3 (v:=.iface tr ur) rfl;have HC4:=hid tM;have HB:=hid kb;have HA:=hid h;have H00:=hid h0;have HN:=hid hn;have dj:kq<w.heap.size/\ko<w.heap.size/\kw<w.heap.size/\ks<w.heap.size:=⟨ah hc.q,ah hc.c,ah hc.o,ah hc.s⟩;have Rl:=hid dj;clear h hs k0 k1 kb h1 hu wsf wvf hc tM h0 hn dj;go_enter func245,ntmps245;go_wp2_with (first
  | (refine cm rfl _ rfl rfl HQ.out Xa ?_)
  | (refine bt rfl _ rfl rfl K0.out eH ?_))
 refine HW.mono ?_;rintro r w1⟨rfl,a1,b1⟩;have dI:w.heap.size<=w1.heap.size:=Nat.le_trans HB.size b1.below.size;have TT:w.heap.size+1<w1.heap.size:=Nat.lt_of_lt_of_le (ah K1.out) b1.below.size;obtain⟨t1,t2,t3,t4,tb⟩:=ru w1 q1 q2 rU xo;have F6:=hid t1;have Bg:=hid t2;have od:=(tb.block _ (ah (b1.aW HA.out (by omega) K1.out))).trans (b1.aW HA.out (by omega) K1.out);have H0:Hid ((jS wq (An p k tl ul tr ur av nv cv) wa sa kq ko kw ks ((((w1.alloc (.cells zS 220)).alloc (.cells zS 220)).setCells w1.heap.size 0 q1.toList).setCells (w1.heap.size+1) 0 q2.toList).drew/\((((w1.alloc (.cells zS 220)).alloc (.cells zS 220)).setCells w1.heap.size 0 q1.toList).setCells (w1.heap.size+1) 0 q2.toList).drew.heap[w1.heap.size]?=some (.cells q1 220))/\∃d:Array Value,d.size=17/\((((w1.alloc (.cells zS 220)).alloc (.cells zS 220)).setCells w1.heap.size 0 q1.toList).setCells (w1.heap.size+1) 0 q2.toList).drew.heap[w.heap.size+1]?=some (.cells d 220)) :=
  ⟨⟨(HC4.bF H00.out HN.out b1).call tb.drew,t3⟩,⟨_,rfl,od⟩⟩
 have Vt:Hid (aM C π T F ((((w1.alloc (.cells zS 220)).alloc (.cells zS 220)).setCells w1.heap.size 0 q1.toList).setCells (w1.heap.size+1) 0 q2.toList).drew):=HA.upon a1 (tb.mono dI).drew;have TC:Hid (ay C w ((((w1.alloc (.cells zS 220)).alloc (.cells zS 220)).setCells w1.heap.size 0 q1.toList).setCells (w1.heap.size+1) 0 q2.toList).drew):=ay.upon HA.out ((ay.aB HB.out HA.le).trans b1) (tb.mono dI).drew;clear t1 t2 t3 t4 tb a1 b1 HW od HC4 c1 c2 c3;go_wp2_with (first
  | (refine bV rfl _ _ rfl rfl (c:=zS) (d:=q1) rfl (by exact F6.out) rfl rU Kb ?_)
  | (refine bV rfl _ _ rfl rfl (c:=zS) (d:=q2) rfl (by exact Bg.out) rfl xo KF ?_))
 generalize ((((w1.alloc (.cells zS 220)).alloc (.cells zS 220)).setCells w1.heap.size 0 q1.toList).setCells (w1.heap.size+1) 0 q2.toList)=w4 at *;refine wp_region_held_drew (S:=fun w':Wd=>(jS wq (An p k tl ul tr ur av nv cv) wa sa kq ko kw ks w'/\w'.heap[w1.heap.size]?=some (.cells q1 220))/\∃d:Array Value,d.size=17/\w'.heap[w.heap.size+1]?=some (.cells d 220)) (by kernel_rfl) H0.out (fun aa=>?_);refine mj 0 rfl (yieldsIf_load_mid (by rfl) _ _ rfl _ _ rfl (wa).toList _ (fun w' h=>aT h.1.1.o) underlying217 rfl (by rw[fD,Array.length_toList,eg])) aa ?_;refine mj 2 rfl (yieldsIf_load_mid (by rfl) _ _ rfl _ _ rfl (wq).toList _ (fun w' h=>aT h.1.1.q) underlying217 rfl (by rw[fD,Array.length_toList,Xa])) aa ?_;refine mj 1 rfl (yieldsIf_load_mid (by rfl) _ _ rfl _ _ rfl (sa).toList _ (fun w' h=>aT h.1.1.s) underlying220 rfl (by rw[bP,Array.length_toList,Uu])) aa ?_;refine mj 5 rfl (yieldsIf_load_mid (by rfl) _ _ rfl _ _ rfl (q1).toList _ (fun w' h=>aT h.1.2) underlying220 rfl (by rw[bP,Array.length_toList,rU])) aa ?_;refine tq 3 (.pointer (some ⟨ko,4,none⟩)) aa ?_;refine tk 4 (.slice av nv cv) rfl (fun w' h=>by have d:=cell_of h.1.1.c 4 (v:=.slice av nv cv) rfl;go_simp) aa ?_;refine cH 6 fun K hK=>?_
 simp only[bT,gN,Array.toArray_toList];go_simp;refine(H1.out _ TC.out Vt.out).mono ?_;rintro r w5⟨rfl,a5,b5⟩;go_wp2_with fail;have Rr:=hid a5;have Rg:Hid (ay C w w5):=TC.trans b5;obtain⟨d5,hd5,oS⟩:=aa.2;have zm:=aa.1.1.bF H00.out HN.out b5;have hq5:=b5.aW HA.out dI aa.1.2;have oS:=b5.aW HA.out (by omega) oS;refine hK.out _ _ ⟨⟨zm,hq5⟩,d5,hd5,oS⟩ (fun aa=>?_);clear hK K zm a5 b5 hq5 oS;refine cH 7 fun K hK=>?_
 simp only[bT];go_simp;refine(HJ.out _ Rr.does).mono ?_;rintro r w7⟨rfl,b7⟩;go_wp2_with fail;have ZL:Hid (aM C π T F w7):=Rr.call b7;have HK7:Hid (ay C w w7):=Rg.more b7 HA.le;obtain⟨d7,Yh,He⟩:=aa.2;have Hm:=aa.1.1.call b7;have hq7:=(b7.block _ (ah aa.1.2)).trans aa.1.2;have He:=(b7.block _ (ah He)).trans He;refine hK.out _ _ ⟨⟨Hm,hq7⟩,d7,Yh,He⟩ (fun _=>?_);clear hK K b7;have gA:Hid (_=_):=ar He (d:=uu) (by omega);have fH:Hid (Below w.heap.size w7 _):=au (b:=w.heap.size+1) (by omega) uu.toList 0 w7 _ (Below.refl _ _);have dj:=Rl.out;refine cH 8 fun K hK=>?_
 simp only[bT];rw[if_pos (by rfl)];refine kG _ _ rfl rfl rfl (by rw[<-Yh];exact bI He) kY Bj ?_;refine hK.out _ _ ⟨⟨Hm.put (by omega) _,(al _ _ _ _ (by omega)).trans hq7⟩,⟨uu,kY,gA.out⟩⟩ (fun _=>?_);clear hK K aa;refine wpAnyH_done (by kernel_rfl) ?_ _;go_wp2_with fail;refine bodyPost_ret (aN results245 _ _ rfl gA.out kY) rfl ⟨rfl,HA.upon ZL.out fH.out,ay.upon HA.out HK7.out fH.out⟩
theorem E5(tv:TypeId)(uv:Value)(C:Cx)(π:bO)(T:gB)(F:Fd)(b:Bool)(w:Wd)(e:Fin 8->Sp.Iv)(es:List cr)(o:Option Sp.Iv)(h:aM C π T F w)
  (hs:∀W,aM C π T F W->Calls prog 224 #[.agg (wk C b),.agg #[.iface tv uv],.agg (aK (some e))] W (gL C π T F b W es o)) :
  Calls prog 197 #[.agg (wk C b),.iface 330 (.agg #[.iface tv uv]),.agg (aK (some e))] w (gL C π T F b w es o):=by
 have h1:=Fv (.agg #[.iface tv uv]);have h2:=sW (.agg #[.iface tv uv]);have h3:=EH (.agg #[.iface tv uv]);obtain⟨k0,k1,k2,k3,kb⟩:=bM (w:=w) (o1:=.cells (wk C b) 217) (o2:=.cells (aK (some e)) 220) (o3:=.cells #[.int .i16 0,.int .i16 0] 131) (o4:=.cells #[.iface tv uv] 330) (Below.refl _ _);have HW:=hs _ (h.call kb);have eg:=cC C b;have eH:=aF (some e);generalize wk C b=wa at *;generalize aK (some e)=xa at *;have K0:=hid k0;have K1:=hid k1;have K2:=hid k2;have HB:=hid kb;have HA:=hid h;have lD:w.heap.size<=w.heap.size+1+1:=by omega
 clear h k0 k1 k2 k3 kb hs;go_enter func197,ntmps197;go_wp2_with (first
  | (refine cm rfl _ rfl rfl K0.out eg ?_)
  | (refine bt rfl _ rfl rfl K1.out eH ?_))
 refine HW.mono ?_;rintro r w1⟨rfl,a1,b1⟩;have gT:=b1.aW HA.out lD K2.out;obtain⟨m0,m1,kh,kj,_⟩:=aH gT;have xF:=hid gT;have nN:=hid a1;have mx:Hid (ay C w w1):=(ay.aB HB.out HA.le).trans b1;clear a1 b1 HW gT;cases o with
 | none =>have H2:Hid (_=_):=cA xF.out (.int .i16 0) (.int .i16 0);have kD:Hid (Below w.heap.size w1 _):=Below.two (Below.refl w.heap.size w1) lD (.int .i16 0) (.int .i16 0);simp only[ub];go_wp2_with fail;have Q0:=cell_of H2.out 0 (v:=.int .i16 0) rfl;have Q1:=cell_of H2.out 1 (v:=.int .i16 0) rfl;refine bodyPost_ret (v:=.tuple #[.agg #[.int .i16 0,.int .i16 0],.bool false]) (by simp[results,results197,go_sem,Q0,Q1]) rfl ?_;exact⟨rfl,HA.upon nN.out kD.out,ay.upon HA.out mx.out kD.out⟩
 | some z =>have H2:Hid (_=_):=cA xF.out (.int .i16 z.a) (.int .i16 z.b);have kD:Hid (Below w.heap.size w1 _):=Below.two (Below.refl w.heap.size w1) lD (.int .i16 z.a) (.int .i16 z.b);simp only[ub];go_wp2_with fail;have Q0:=cell_of H2.out 0 (v:=.int .i16 z.a) rfl;have Q1:=cell_of H2.out 1 (v:=.int .i16 z.b) rfl;refine bodyPost_ret (v:=.tuple #[.agg #[.int .i16 z.a,.int .i16 z.b],.bool true]) (by simp[results,results197,go_sem,Q0,Q1]) rfl ?_;exact⟨rfl,HA.upon nN.out kD.out,ay.upon HA.out mx.out kD.out⟩
theorem mP(k:Nat)(q:Int)(tl:TypeId)(ul:Value)(tr:TypeId)(ur:Value)(C:Cx)(π:bO)(T:gB)(F:Fd)(b:Bool)(w:Wd)(e:Fin 8->Sp.Iv)(es:List cr)(o:Option Sp.Iv)(h:aM C π T F w)
  (hs:∀W,aM C π T F W->Calls prog 225 #[.agg (wk C b),.agg #[.int .i64 (k:Nat),.int .i64 q,.iface tl ul,.iface tr ur],.agg (aK (some e))] W (gL C π T F b W es o)) :
  Calls prog 197 #[.agg (wk C b),.iface 334 (.agg #[.int .i64 (k:Nat),.int .i64 q,.iface tl ul,.iface tr ur]),.agg (aK (some e))] w (gL C π T F b w es o):=by
 have h1:=Ef (.agg #[.int .i64 (k:Nat),.int .i64 q,.iface tl ul,.iface tr ur]);have h2:=oB (.agg #[.int .i64 (k:Nat),.int .i64 q,.iface tl ul,.iface tr ur]);have h3:=FC (.agg #[.int .i64 (k:Nat),.int .i64 q,.iface tl ul,.iface tr ur]);have h4:=EW (.agg #[.int .i64 (k:Nat),.int .i64 q,.iface tl ul,.iface tr ur]);obtain⟨k0,k1,k2,k3,kb⟩:=bM (w:=w) (o1:=.cells (wk C b) 217) (o2:=.cells (aK (some e)) 220) (o3:=.cells #[.int .i16 0,.int .i16 0] 131) (o4:=.cells #[.int .i64 (k:Nat),.int .i64 q,.iface tl ul,.iface tr ur] 334) (Below.refl _ _);have HW:=hs _ (h.call kb);have eg:=cC C b;have eH:=aF (some e);generalize wk C b=wa at *;generalize aK (some e)=xa at *;have K0:=hid k0;have K1:=hid k1;have K2:=hid k2;have HB:=hid kb;have HA:=hid h;have lD:w.heap.size<=w.heap.size+1+1:=by omega
 clear h k0 k1 k2 k3 kb hs;go_enter func197,ntmps197;go_wp2_with (first
  | (refine cm rfl _ rfl rfl K0.out eg ?_)
  | (refine bt rfl _ rfl rfl K1.out eH ?_))
 refine HW.mono ?_;rintro r w1⟨rfl,a1,b1⟩;have gT:=b1.aW HA.out lD K2.out;obtain⟨m0,m1,kh,kj,_⟩:=aH gT;have xF:=hid gT;have nN:=hid a1;have mx:Hid (ay C w w1):=(ay.aB HB.out HA.le).trans b1;clear a1 b1 HW gT;cases o with
 | none =>have H2:Hid (_=_):=cA xF.out (.int .i16 0) (.int .i16 0);have kD:Hid (Below w.heap.size w1 _):=Below.two (Below.refl w.heap.size w1) lD (.int .i16 0) (.int .i16 0);simp only[ub];go_wp2_with fail;have Q0:=cell_of H2.out 0 (v:=.int .i16 0) rfl;have Q1:=cell_of H2.out 1 (v:=.int .i16 0) rfl;refine bodyPost_ret (v:=.tuple #[.agg #[.int .i16 0,.int .i16 0],.bool false]) (by simp[results,results197,go_sem,Q0,Q1]) rfl ?_;exact⟨rfl,HA.upon nN.out kD.out,ay.upon HA.out mx.out kD.out⟩
 | some z =>have H2:Hid (_=_):=cA xF.out (.int .i16 z.a) (.int .i16 z.b);have kD:Hid (Below w.heap.size w1 _):=Below.two (Below.refl w.heap.size w1) lD (.int .i16 z.a) (.int .i16 z.b);simp only[ub];go_wp2_with fail;have Q0:=cell_of H2.out 0 (v:=.int .i16 z.a) rfl;have Q1:=cell_of H2.out 1 (v:=.int .i16 z.b) rfl;refine bodyPost_ret (v:=.tuple #[.agg #[.int .i16 z.a,.int .i16 z.b],.bool true]) (by simp[results,results197,go_sem,Q0,Q1]) rfl ?_;exact⟨rfl,HA.upon nN.out kD.out,ay.upon HA.out mx.out kD.out⟩
theorem Sk(tv:TypeId)(uv:Value)(x:Sp.Sm)(ct:Sp.Ct)(hx:xh x)(hs:nD (.iface tv uv) x ct):nD (.iface 330 (.agg #[.iface tv uv])) (.neg x) ct:=by intro C π T F b w e h he hr;exact E5 tv uv C π T F b w e _ _ h fun W hW=>j9 tv uv C π T F b W e _ _ hW (fun W2 NP=>hs C π T F b W2 e NP he hr) (fun a ha=>jk (K:=Kr π) x hx ct e he a ha)
theorem C9(tl:TypeId)(ul:Value)(tr:TypeId)(ur:Value)(x y:Sp.Sm)(ct bh:Sp.Ct)(hs:nD (.iface tl ul) x ct)(dw:nD (.iface tr ur) y bh)
  (C:Cx) (π:bO) (T:gB) (F:Fd) (b:Bool) (e:Fin 8->Sp.Iv) (he:∀k,Wv (e k)) :
  (∀es,Sp.dA (Dm π) x ct e=(es,none)->df b F es->kT C π T F b (.iface tl ul) (.iface tr ur) e es none) /\
  (∀es a dD,Sp.dA (Dm π) x ct e=(es,some a)->Sp.dA (Dm π) y bh e=(dD,none)->df b F (es ++ dD)->kT C π T F b (.iface tl ul) (.iface tr ur) e (es ++ dD) none) /\
  (∀es a dD c,Sp.dA (Dm π) x ct e=(es,some a)->Sp.dA (Dm π) y bh e=(dD,some c)->df b F (es ++ dD)->kT C π T F b (.iface tl ul) (.iface tr ur) e (es ++ dD) (some (a,c))):=by
 refine⟨fun es h1 hr W hW=>?_,fun es a dD h1 h2 hr W hW=>?_,fun es a dD c h1 h2 hr W hW=>?_⟩
 ·refine KV tl ul tr ur C π T F b W e es hW (fun W2 NP=>?_)
  have:=hs C π T F b W2 e NP he (by rw[h1];exact hr);rw[h1]at this;exact this
 ·refine EN tl ul tr ur C π T F b W e es dD a hW (fun W2 NP=>?_) (fun W2 NP=>?_)
  ·have:=hs C π T F b W2 e NP he (by rw[h1];exact hr.left)
   rw[h1]at this;exact this
  ·have:=dw C π T (told π b F es) b W2 e NP he (by rw[h2];exact hr.right)
   rw[h2]at this;exact this
 ·refine FL tl ul tr ur C π T F b W e es dD a c hW (fun W2 NP=>?_) (fun W2 NP=>?_)
  ·have:=hs C π T F b W2 e NP he (by rw[h1];exact hr.left)
   rw[h1]at this;exact this
  ·have:=dw C π T (told π b F es) b W2 e NP he (by rw[h2];exact hr.right)
   rw[h2]at this;exact this
theorem Mb(k:Nat)(hk:k<5)(q:Int)(tl:TypeId)(ul:Value)(tr:TypeId)(ur:Value)(x y:Sp.Sm)(ct:Sp.Ct)(hq:3<=k->q=(Sp.cS x ct).2)(hx:xh x)(hy:xh y)
  (hs:nD (.iface tl ul) x ct) (dw:nD (.iface tr ur) y (if 3<=k then Sp.aL (Sp.cS x ct) else Sp.cS x ct)) :
  nD (.iface 334 (.agg #[.int .i64 (k:Nat),.int .i64 q,.iface tl ul,.iface tr ur])) (.bin k x y) ct:=by
 intro C π T F b w e h he hr;obtain⟨s1,s2,s3⟩:=C9 tl ul tr ur x y ct _ hs dw C π T F b e he;have wx:=jk (K:=Kr π) x hx ct e he;have wy:=jk (K:=Kr π) y hy (if 3<=k then Sp.aL (Sp.cS x ct) else Sp.cS x ct) e he;cases ex:Sp.dA (Dm π) x ct e with
 | mk es o =>
  rw[ex]at wx;cases o with
  | none =>have E:=Sp.wS (Dm π) k x y ct e es ex;rw[E]at hr ⊢;exact mP k q tl ul tr ur C π T F b w e _ _ h fun W hW=>yC k q tl ul tr ur C π T F b W e es hW (s1 es ex hr)
  | some a =>
   cases ey:Sp.dA (Dm π) y (if 3<=k then Sp.aL (Sp.cS x ct) else Sp.cS x ct) e with
   | mk dD o2 =>
    rw[ey]at wy;cases o2 with
    | none =>have E:=Sp.sl (Dm π) k x y ct e es a dD ex ey;rw[E]at hr ⊢;exact mP k q tl ul tr ur C π T F b w e _ _ h fun W hW=>yC k q tl ul tr ur C π T F b W e (es ++ dD) hW (s2 es a dD ex ey hr)
    | some c =>
     by_cases h3:3<=k
     ·have E:=L8 (Dm π) k x y ct e es a dD c ex ey h3
      rw[<-hq h3]at E;rw[E]at hr ⊢;exact mP k q tl ul tr ur C π T F b w e _ _ h fun W hW=>Cn k hk h3 q tl ul tr ur C π T F b W e (es ++ dD) a c (wx a rfl) (wy c rfl) hW (s3 es a dD c ex ey hr.left) hr.right
     ·have E:=Ni (Dm π) k x y ct e es a dD c ex ey h3
      rw[E]at hr ⊢;exact mP k q tl ul tr ur C π T F b w e _ _ h fun W hW=>AA k hk h3 q tl ul tr ur C π T F b W e (es ++ dD) a c (wx a rfl) (wy c rfl) hW (s3 es a dD c ex ey hr)
def Ec(vl vr:Value)(k:Nat)(x y:Sp.Sm)(ct:Sp.Ct):Prop :=
 ∀(C:Cx) (π:bO) (T:gB) (F:Fd) (b:Bool) (w:Wd) (s:ST),aM C π T F w->Sp.Wf (Kr π) s->df b F (Sp.dC (Dm π) k x y ct s).1 ->
  Calls prog 198 #[.agg (wk C b),.agg #[.int .i64 (k:Nat),vl,vr],.agg (aK s)] w (fQ C π T F b w (Sp.dC (Dm π) k x y ct s).1 (Sp.dC (Dm π) k x y ct s).2.1 (Sp.dC (Dm π) k x y ct s).2.2)
theorem uC(k:Nat)(hk:k<6)(tl:TypeId)(ul:Value)(tr:TypeId)(ur:Value)(x y:Sp.Sm)(ct:Sp.Ct)(hx:xh x)(hy:xh y)(sx:jM (.iface tl ul) x)(sy:jM (.iface tr ur) y)
  (hs:nD (.iface tl ul) x ct) (dw:nD (.iface tr ur) y (Sp.cS x ct)):Ec (.iface tl ul) (.iface tr ur) k x y ct:=by
 intro C π T F b w s h hw hr;cases s with
 | none=>exact Io k _ _ C π T F b w h
 | some e =>
  have he:=hw e rfl
  suffices H:∀A:List cr × ST × ST,Sp.dC (Dm π) k x y ct (some e)=A->df b F A.1->Calls prog 198 #[.agg (wk C b),.agg #[.int .i64 (k:Nat),.iface tl ul,.iface tr ur],.agg (aK (some e))] w (fQ C π T F b w A.1 A.2.1 A.2.2) from H _ rfl hr
  intro A hA hr;obtain⟨s1,s2,s3⟩:=C9 tl ul tr ur x y ct _ hs dw C π T F b e he;have wx:=jk (K:=Kr π) x hx ct e he;have wy:=jk (K:=Kr π) y hy (Sp.cS x ct) e he;cases ex:Sp.dA (Dm π) x ct e with
  | mk es o =>
   rw[ex]at wx;cases o with
   | none =>have E:=Rx (Dm π) k x y ct e es ex;obtain rfl:=hA.symm.trans E;exact G0 k tl ul tr ur C π T F b w e es h (s1 es ex hr)
   | some a =>
    cases ey:Sp.dA (Dm π) y (Sp.cS x ct) e with
    | mk dD o2 =>
     rw[ey]at wy;cases o2 with
     | none =>have E:=Sf (Dm π) k x y ct e es a dD ex ey;obtain rfl:=hA.symm.trans E;exact G0 k tl ul tr ur C π T F b w e (es ++ dD) h (s2 es a dD ex ey hr)
     | some c =>have E:=SN (Dm π) k x y ct e es a dD c ex ey;obtain rfl:=hA.symm.trans E;exact L0 k hk tl ul tr ur x y sx sy a c (wx a rfl) (wy c rfl) C π T F b w e he (es ++ dD) h (s3 es a dD c ex ey hr) _ _ rfl rfl
theorem CR(C:Cx)(b:Bool)(w:Wd) :
  Calls prog 244 #[.agg (wk C b)] w fun e w'=>e=.returned (.agg (wk C false))/\Below w.heap.size w w':=by
 unfold wk xY;simp only[Bool.false_eq_true,if_false];generalize (if b=true then some (⟨C.fb,0,none⟩:Addr) else none)=f;go_enter func244,ntmps244;go_wp2_with fail;go_returns;exact⟨rfl,by go_grown⟩
theorem BD(p:Int)(k:Nat)(tv:TypeId)(uv:Value)(C:Cx)(π:bO)(T:gB)(F:Fd)(b:Bool)(w:Wd)(e:Fin 8->Sp.Iv)(es:List cr)(u:ST)(h:aM C π T F w)
  (hs:∀W,ay C w W->aM C π T F W->Calls prog 158 #[.agg (wk C b),.agg #[.int .i64 p,.int .i64 (k:Nat),.iface tv uv],.agg (aK (some e))] W (fF C π T F b W es u)) :
  Calls prog 115 #[.agg (wk C b),.iface 279 (.agg #[.int .i64 p,.int .i64 (k:Nat),.iface tv uv]),.agg (aK (some e))] w (fF C π T F b w es u):=by
 have h1:=Sh (.agg #[.int .i64 p,.int .i64 (k:Nat),.iface tv uv]);obtain⟨k0,k1,k2,k3,kb⟩:=bM (w:=w) (o1:=.cells (wk C b) 217) (o2:=.cells (aK (some e)) 220) (o3:=.cells zS 220) (o4:=.cells #[.int .i64 p,.int .i64 (k:Nat),.iface tv uv] 279) (Below.refl _ _);have HW:=hs _ (ay.aB kb h.le) (h.call kb);have eg:=cC C b;have eH:=aF (some e);have kY:=aF u;have Bj:=aX u;unfold fF at HW;generalize wk C b=wa at *;generalize aK (some e)=xa at *;generalize Hv:aK u=uu at *;have KD:=hid Hv;have K0:=hid k0;have K1:=hid k1;have K2:=hid k2;have HB:=hid kb;have HA:=hid h;have l2:w.heap.size<=w.heap.size+1+1:=by omega
 clear h hs k0 k1 k2 k3 kb Hv;go_enter func115,ntmps115;go_wp2_with (first
  | (refine cm rfl _ rfl rfl (c:=wa) (by exact K0.out) eg ?_)
  | (refine bt rfl _ rfl rfl (c:=xa) (by exact K1.out) eH ?_))
 refine HW.mono ?_;rintro r w1⟨rfl,a1,b1⟩;have gT:=b1.aW HA.out l2 K2.out;have xF:=hid gT;have gA:Hid (_=_):=ar gT (d:=uu) (by rw[kY];rfl);have fH:Hid (Below w.heap.size w1 _):=au (b:=w.heap.size+1+1) l2 uu.toList 0 w1 _ (Below.refl _ _);have nN:=hid a1;have mx:Hid (ay C w w1):=(ay.aB HB.out HA.le).trans b1;clear a1 b1 HW gT;go_wp2_with (first
  | (refine bV rfl _ _ rfl rfl rfl xF.out rfl kY Bj ?_))
 refine bodyPost_ret (aN results115 _ _ rfl gA.out kY) rfl ⟨by rw[KD.out],HA.upon nN.out fH.out,ay.upon HA.out mx.out fH.out⟩
theorem B8(p q:Int)(k:Nat)(tl:TypeId)(ul:Value)(tr:TypeId)(ur:Value)(C:Cx)(π:bO)(T:gB)(F:Fd)(b:Bool)(w:Wd)(e:Fin 8->Sp.Iv)(es:List cr)(u:ST)(h:aM C π T F w)
  (hs:∀W,ay C w W->aM C π T F W->Calls prog 159 #[.agg (wk C b),.agg #[.int .i64 p,.int .i64 q,.int .i64 (k:Nat),.iface tl ul,.iface tr ur],.agg (aK (some e))] W (fF C π T F b W es u)) :
  Calls prog 115 #[.agg (wk C b),.iface 287 (.agg #[.int .i64 p,.int .i64 q,.int .i64 (k:Nat),.iface tl ul,.iface tr ur]),.agg (aK (some e))] w (fF C π T F b w es u):=by
 have h1:=Sr (.agg #[.int .i64 p,.int .i64 q,.int .i64 (k:Nat),.iface tl ul,.iface tr ur]);have h2:=SS (.agg #[.int .i64 p,.int .i64 q,.int .i64 (k:Nat),.iface tl ul,.iface tr ur]);have h3:=R1 (.agg #[.int .i64 p,.int .i64 q,.int .i64 (k:Nat),.iface tl ul,.iface tr ur]);obtain⟨k0,k1,k2,k3,kb⟩:=bM (w:=w) (o1:=.cells (wk C b) 217) (o2:=.cells (aK (some e)) 220) (o3:=.cells zS 220) (o4:=.cells #[.int .i64 p,.int .i64 q,.int .i64 (k:Nat),.iface tl ul,.iface tr ur] 287) (Below.refl _ _);have HW:=hs _ (ay.aB kb h.le) (h.call kb);have eg:=cC C b;have eH:=aF (some e);have kY:=aF u;have Bj:=aX u;unfold fF at HW;generalize wk C b=wa at *;generalize aK (some e)=xa at *;generalize Hv:aK u=uu at *;have KD:=hid Hv;have K0:=hid k0;have K1:=hid k1;have K2:=hid k2;have HB:=hid kb;have HA:=hid h;have l2:w.heap.size<=w.heap.size+1+1:=by omega
 clear h hs k0 k1 k2 k3 kb Hv;go_enter func115,ntmps115;go_wp2_with (first
  | (refine cm rfl _ rfl rfl (c:=wa) (by exact K0.out) eg ?_)
  | (refine bt rfl _ rfl rfl (c:=xa) (by exact K1.out) eH ?_))
 refine HW.mono ?_;rintro r w1⟨rfl,a1,b1⟩;have gT:=b1.aW HA.out l2 K2.out;have xF:=hid gT;have gA:Hid (_=_):=ar gT (d:=uu) (by rw[kY];rfl);have fH:Hid (Below w.heap.size w1 _):=au (b:=w.heap.size+1+1) l2 uu.toList 0 w1 _ (Below.refl _ _);have nN:=hid a1;have mx:Hid (ay C w w1):=(ay.aB HB.out HA.le).trans b1;clear a1 b1 HW gT;go_wp2_with (first
  | (refine bV rfl _ _ rfl rfl rfl xF.out rfl kY Bj ?_))
 refine bodyPost_ret (aN results115 _ _ rfl gA.out kY) rfl ⟨by rw[KD.out],HA.upon nN.out fH.out,ay.upon HA.out mx.out fH.out⟩
theorem G1(p:Int)(k:Nat)(tl:TypeId)(ul:Value)(tr:TypeId)(ur:Value)(av:Option Addr)(nv cv:Nat)(ae:Option Addr)(ne ce:Nat)(hb:Bool)(C:Cx)(π:bO)(T:gB)(F:Fd)(b:Bool)(w:Wd)(e:Fin 8->Sp.Iv)(es:List cr)(u:ST)(h:aM C π T F w)
  (hs:∀W,ay C w W->aM C π T F W->Calls prog 160 #[.agg (wk C b),.agg #[.int .i64 p,.int .i64 (k:Nat),.iface tl ul,.iface tr ur,.slice av nv cv,.slice ae ne ce,.bool hb],.agg (aK (some e))] W (fF C π T F b W es u)) :
  Calls prog 115 #[.agg (wk C b),.iface 290 (.agg #[.int .i64 p,.int .i64 (k:Nat),.iface tl ul,.iface tr ur,.slice av nv cv,.slice ae ne ce,.bool hb]),.agg (aK (some e))] w (fF C π T F b w es u):=by
 have h1:=R7 (.agg #[.int .i64 p,.int .i64 (k:Nat),.iface tl ul,.iface tr ur,.slice av nv cv,.slice ae ne ce,.bool hb]);have h2:=Sx (.agg #[.int .i64 p,.int .i64 (k:Nat),.iface tl ul,.iface tr ur,.slice av nv cv,.slice ae ne ce,.bool hb]);have h3:=RF (.agg #[.int .i64 p,.int .i64 (k:Nat),.iface tl ul,.iface tr ur,.slice av nv cv,.slice ae ne ce,.bool hb]);have h4:=RG (.agg #[.int .i64 p,.int .i64 (k:Nat),.iface tl ul,.iface tr ur,.slice av nv cv,.slice ae ne ce,.bool hb]);obtain⟨k0,k1,k2,k3,kb⟩:=bM (w:=w) (o1:=.cells (wk C b) 217) (o2:=.cells (aK (some e)) 220) (o3:=.cells zS 220) (o4:=.cells #[.int .i64 p,.int .i64 (k:Nat),.iface tl ul,.iface tr ur,.slice av nv cv,.slice ae ne ce,.bool hb] 290) (Below.refl _ _);have HW:=hs _ (ay.aB kb h.le) (h.call kb);have eg:=cC C b;have eH:=aF (some e);have kY:=aF u;have Bj:=aX u;unfold fF at HW;generalize wk C b=wa at *;generalize aK (some e)=xa at *;generalize Hv:aK u=uu at *;have KD:=hid Hv;have K0:=hid k0;have K1:=hid k1;have K2:=hid k2;have HB:=hid kb;have HA:=hid h;have l2:w.heap.size<=w.heap.size+1+1:=by omega
 clear h hs k0 k1 k2 k3 kb Hv;go_enter func115,ntmps115;go_wp2_with (first
  | (refine cm rfl _ rfl rfl (c:=wa) (by exact K0.out) eg ?_)
  | (refine bt rfl _ rfl rfl (c:=xa) (by exact K1.out) eH ?_))
 refine HW.mono ?_;rintro r w1⟨rfl,a1,b1⟩;have gT:=b1.aW HA.out l2 K2.out;have xF:=hid gT;have gA:Hid (_=_):=ar gT (d:=uu) (by rw[kY];rfl);have fH:Hid (Below w.heap.size w1 _):=au (b:=w.heap.size+1+1) l2 uu.toList 0 w1 _ (Below.refl _ _);have nN:=hid a1;have mx:Hid (ay C w w1):=(ay.aB HB.out HA.le).trans b1;clear a1 b1 HW gT;go_wp2_with (first
  | (refine bV rfl _ _ rfl rfl rfl xF.out rfl kY Bj ?_))
 refine bodyPost_ret (aN results115 _ _ rfl gA.out kY) rfl ⟨by rw[KD.out],HA.upon nN.out fH.out,ay.upon HA.out mx.out fH.out⟩
theorem Ea(p:Int)(k:Nat)(tl:TypeId)(ul:Value)(tr:TypeId)(ur:Value)(av:Option Addr)(nv cv:Nat)(C:Cx)(π:bO)(T:gB)(F:Fd)(b:Bool)(w:Wd)(e:Fin 8->Sp.Iv)(es:List cr)(u:ST)(h:aM C π T F w)
  (hs:∀W,ay C w W->aM C π T F W->Calls prog 161 #[.agg (wk C b),.agg #[.int .i64 p,.int .i64 (k:Nat),.iface tl ul,.iface tr ur,.slice av nv cv],.agg (aK (some e))] W (fF C π T F b W es u)) :
  Calls prog 115 #[.agg (wk C b),.iface 293 (.agg #[.int .i64 p,.int .i64 (k:Nat),.iface tl ul,.iface tr ur,.slice av nv cv]),.agg (aK (some e))] w (fF C π T F b w es u):=by
 have h1:=SM (.agg #[.int .i64 p,.int .i64 (k:Nat),.iface tl ul,.iface tr ur,.slice av nv cv]);have h2:=SB (.agg #[.int .i64 p,.int .i64 (k:Nat),.iface tl ul,.iface tr ur,.slice av nv cv]);have h3:=Sd (.agg #[.int .i64 p,.int .i64 (k:Nat),.iface tl ul,.iface tr ur,.slice av nv cv]);have h4:=RD (.agg #[.int .i64 p,.int .i64 (k:Nat),.iface tl ul,.iface tr ur,.slice av nv cv]);have h5:=SJ (.agg #[.int .i64 p,.int .i64 (k:Nat),.iface tl ul,.iface tr ur,.slice av nv cv]);obtain⟨k0,k1,k2,k3,kb⟩:=bM (w:=w) (o1:=.cells (wk C b) 217) (o2:=.cells (aK (some e)) 220) (o3:=.cells zS 220) (o4:=.cells #[.int .i64 p,.int .i64 (k:Nat),.iface tl ul,.iface tr ur,.slice av nv cv] 293) (Below.refl _ _);have HW:=hs _ (ay.aB kb h.le) (h.call kb);have eg:=cC C b;have eH:=aF (some e);have kY:=aF u;have Bj:=aX u;unfold fF at HW;generalize wk C b=wa at *;generalize aK (some e)=xa at *;generalize Hv:aK u=uu at *;have KD:=hid Hv;have K0:=hid k0;have K1:=hid k1;have K2:=hid k2;have HB:=hid kb;have HA:=hid h;have l2:w.heap.size<=w.heap.size+1+1:=by omega
 clear h hs k0 k1 k2 k3 kb Hv;go_enter func115,ntmps115;go_wp2_with (first
  | (refine cm rfl _ rfl rfl (c:=wa) (by exact K0.out) eg ?_)
  | (refine bt rfl _ rfl rfl (c:=xa) (by exact K1.out) eH ?_))
 refine HW.mono ?_;rintro r w1⟨rfl,a1,b1⟩;have gT:=b1.aW HA.out l2 K2.out;have xF:=hid gT;have gA:Hid (_=_):=ar gT (d:=uu) (by rw[kY];rfl);have fH:Hid (Below w.heap.size w1 _):=au (b:=w.heap.size+1+1) l2 uu.toList 0 w1 _ (Below.refl _ _);have nN:=hid a1;have mx:Hid (ay C w w1):=(ay.aB HB.out HA.le).trans b1;clear a1 b1 HW gT;go_wp2_with (first
  | (refine bV rfl _ _ rfl rfl rfl xF.out rfl kY Bj ?_))
 refine bodyPost_ret (aN results115 _ _ rfl gA.out kY) rfl ⟨by rw[KD.out],HA.upon nN.out fH.out,ay.upon HA.out mx.out fH.out⟩
theorem Ff(uD:Value)(g:Sp.Iv->Sp.Iv->Sp.Iv)(xs ys:List Sp.Iv)(w:Wd)(hx:xs.length=8)(hy:ys.length=8)(T7:∀x∈xs,Wv x)(TN:∀y∈ys,Wv y)
  (xi:∀W x y,Below w.heap.size w W->Wv x->Wv y->Calls prog 327 #[uD,.agg #[.int .i16 x.a,.int .i16 x.b],.agg #[.int .i16 y.a,.int .i16 y.b]] W fun e w'=>e=.returned (.agg #[.int .i16 (g x y).a,.int .i16 (g x y).b])/\Below W.heap.size W w') :
  Calls prog 162 #[.agg (ew true xs),.agg (ew true ys),.func (Fn.method "Widen") #[.iface 133 uD] #[]] w fun e w'=>e=.returned (.agg (ew true (List.zipWith g xs ys)))/\Below w.heap.size w w':=by
 have HP:=hid xi;have zx:=ib true xs;have zy:=ib true ys;have H0:Hid (dV w xs ys (((w.alloc (.cells (ew true xs) 220)).alloc (.cells (ew true ys) 220)).alloc (.cells zS 220))):=by obtain⟨k0,k1,k2,kb⟩:=bY (w:=w) (o1:=.cells (ew true xs) 220) (o2:=.cells (ew true ys) 220) (o3:=.cells eX 220) (Below.refl _ _);exact⟨k0,k1,k2,kb⟩
 have sx:(ew true xs).size=17:=dU hx;have sy:(ew true ys).size=17:=dU hy;clear xi;go_enter func162,ntmps162;go_wp2_with fail
 go_loopw [17] (fun nY wr=>∃j:Nat,j<=8/\nY=.int .i64 j/\Hid (dV w (gS g xs ys j) ys wr)) (fun nY _=>8 - (intOf nY).toNat)
 case atStart=>exact⟨0,Nat.zero_le _,rfl,H0.out⟩
 case round =>
  obtain⟨j,hj,rfl,hq⟩:=hrel;clear H0 zx zy sx sy;by_cases dW:j<8
  ·obtain⟨x,hxj⟩:∃x,xs[j]?=some x:=⟨_,List.getElem?_eq_getElem (by omega)⟩
   obtain⟨y,hyj⟩:∃y,ys[j]?=some y:=⟨_,List.getElem?_eq_getElem (by omega)⟩;have WX:Hid (Wv x):=T7 x (List.mem_of_getElem? hxj);have WY:Hid (Wv y):=TN y (List.mem_of_getElem? hyj);have Qa:(gS g xs ys j)[j]?=some x:=by exact AP hx hy dW hxj
   have hml:(gS g xs ys j).length=8:=by unfold gS;simp;omega
   have Q8:Hid ((gS g xs ys j).set j (g x y)=gS g xs ys (j+1)):=vZ hx hy dW hxj hyj;obtain⟨x0,x1⟩:=iq (r:=true) Qa;obtain⟨y0,y1⟩:=iq (r:=true) hyj;have cx0:=cell_of hq.x _ x0;have cx1:=cell_of hq.x _ x1;have cy0:=cell_of hq.y _ y0;have cy1:=cell_of hq.y _ y1;have uq:(j:Int)<8:=by omega
   clear x0 x1 y0 y1;go_wp2_with fail
   go_region_with (go_at_call 327;go_must (refine(HP.out _ x y hq.b.drew WX.out WY.out).mono ?_);rintro e w1 ⟨rfl,b1⟩;have A1:Hid (dV w (gS g xs ys j) ys w1):=hq.call (W':=w1) ⟨b1.os,b1.tape,b1.output,b1.size,b1.block⟩;obtain⟨d0,d1,d2,d3⟩:=A1.cells Qa)
   all_goals
    have A2:Hid (dV w (gS g xs ys (j+1)) ys ((w1.setCell ⟨w.heap.size,1+j*2,none⟩ (.int .i16 (g x y).a)).setCell ⟨w.heap.size,1+j*2+1,none⟩ (.int .i16 (g x y).b))):=by unfold Hid;rw[<-Q8.out];exact A1.set (by omega) (g x y)
    clear b1;go_wp2_with fail;exact⟨⟨j+1,by omega,by go_num,A2⟩,by simp[intOf];omega⟩
  ·obtain rfl:j=8:=by omega
   have A:Hid (dV w (List.zipWith g xs ys) ys wr):=by unfold Hid;rw[<-vu hx hy];exact hq.out
   have sz:(ew true (List.zipWith g xs ys)).size=17:=dU (by simp;omega);have hr:Hid (_=_):=ar A.z (d:=ew true (List.zipWith g xs ys)) (by rw[sz];rfl);have HB:Hid (Below w.heap.size w _):=au (b:=w.heap.size+1+1) (by omega) (ew true (List.zipWith g xs ys)).toList 0 w _ A.b;clear hq hj dW;go_wp2_with (first
    | (refine bt rfl _ rfl rfl A.x sz ?_)
    | (refine bV rfl _ _ rfl rfl rfl A.z rfl sz (kL _ _) ?_))
   refine bodyPost_ret (aN results162 _ _ rfl hr.out sz) rfl ⟨rfl,HB.out⟩
theorem BV(uD:Value)(g:Sp.Iv->Sp.Iv->Sp.Iv)(xs ys:List Sp.Iv)(w:Wd)(hx:xs.length=8)(hy:ys.length=8)(T7:∀x∈xs,Wv x)(TN:∀y∈ys,Wv y)
  (xi:∀W x y,Below w.heap.size w W->Wv x->Wv y->Calls prog 322 #[uD,.agg #[.int .i16 x.a,.int .i16 x.b],.agg #[.int .i16 y.a,.int .i16 y.b]] W fun e w'=>e=.returned (.agg #[.int .i16 (g x y).a,.int .i16 (g x y).b])/\Below W.heap.size W w') :
  Calls prog 162 #[.agg (ew true xs),.agg (ew true ys),.func (Fn.method "Narrow") #[.iface 133 uD] #[]] w fun e w'=>e=.returned (.agg (ew true (List.zipWith g xs ys)))/\Below w.heap.size w w':=by
 have HP:=hid xi;have zx:=ib true xs;have zy:=ib true ys;have H0:Hid (dV w xs ys (((w.alloc (.cells (ew true xs) 220)).alloc (.cells (ew true ys) 220)).alloc (.cells zS 220))):=by obtain⟨k0,k1,k2,kb⟩:=bY (w:=w) (o1:=.cells (ew true xs) 220) (o2:=.cells (ew true ys) 220) (o3:=.cells eX 220) (Below.refl _ _);exact⟨k0,k1,k2,kb⟩
 have sx:(ew true xs).size=17:=dU hx;have sy:(ew true ys).size=17:=dU hy;clear xi;go_enter func162,ntmps162;go_wp2_with fail
 go_loopw [17] (fun nY wr=>∃j:Nat,j<=8/\nY=.int .i64 j/\Hid (dV w (gS g xs ys j) ys wr)) (fun nY _=>8 - (intOf nY).toNat)
 case atStart=>exact⟨0,Nat.zero_le _,rfl,H0.out⟩
 case round =>
  obtain⟨j,hj,rfl,hq⟩:=hrel;clear H0 zx zy sx sy;by_cases dW:j<8
  ·obtain⟨x,hxj⟩:∃x,xs[j]?=some x:=⟨_,List.getElem?_eq_getElem (by omega)⟩
   obtain⟨y,hyj⟩:∃y,ys[j]?=some y:=⟨_,List.getElem?_eq_getElem (by omega)⟩;have WX:Hid (Wv x):=T7 x (List.mem_of_getElem? hxj);have WY:Hid (Wv y):=TN y (List.mem_of_getElem? hyj);have Qa:(gS g xs ys j)[j]?=some x:=by exact AP hx hy dW hxj
   have hml:(gS g xs ys j).length=8:=by unfold gS;simp;omega
   have Q8:Hid ((gS g xs ys j).set j (g x y)=gS g xs ys (j+1)):=vZ hx hy dW hxj hyj;obtain⟨x0,x1⟩:=iq (r:=true) Qa;obtain⟨y0,y1⟩:=iq (r:=true) hyj;have cx0:=cell_of hq.x _ x0;have cx1:=cell_of hq.x _ x1;have cy0:=cell_of hq.y _ y0;have cy1:=cell_of hq.y _ y1;have uq:(j:Int)<8:=by omega
   clear x0 x1 y0 y1;go_wp2_with fail
   go_region_with (go_at_call 322;go_must (refine(HP.out _ x y hq.b.drew WX.out WY.out).mono ?_);rintro e w1 ⟨rfl,b1⟩;have A1:Hid (dV w (gS g xs ys j) ys w1):=hq.call (W':=w1) ⟨b1.os,b1.tape,b1.output,b1.size,b1.block⟩;obtain⟨d0,d1,d2,d3⟩:=A1.cells Qa)
   all_goals
    have A2:Hid (dV w (gS g xs ys (j+1)) ys ((w1.setCell ⟨w.heap.size,1+j*2,none⟩ (.int .i16 (g x y).a)).setCell ⟨w.heap.size,1+j*2+1,none⟩ (.int .i16 (g x y).b))):=by unfold Hid;rw[<-Q8.out];exact A1.set (by omega) (g x y)
    clear b1;go_wp2_with fail;exact⟨⟨j+1,by omega,by go_num,A2⟩,by simp[intOf];omega⟩
  ·obtain rfl:j=8:=by omega
   have A:Hid (dV w (List.zipWith g xs ys) ys wr):=by unfold Hid;rw[<-vu hx hy];exact hq.out
   have sz:(ew true (List.zipWith g xs ys)).size=17:=dU (by simp;omega);have hr:Hid (_=_):=ar A.z (d:=ew true (List.zipWith g xs ys)) (by rw[sz];rfl);have HB:Hid (Below w.heap.size w _):=au (b:=w.heap.size+1+1) (by omega) (ew true (List.zipWith g xs ys)).toList 0 w _ A.b;clear hq hj dW;go_wp2_with (first
    | (refine bt rfl _ rfl rfl A.x sz ?_)
    | (refine bV rfl _ _ rfl rfl rfl A.z rfl sz (kL _ _) ?_))
   refine bodyPost_ret (aN results162 _ _ rfl hr.out sz) rfl ⟨rfl,HB.out⟩
theorem IW(f:Value)(x y:Array Value)(w:Wd)(h0:x[0]?=some (.bool false)) :
  Calls prog 162 #[.agg x,.agg y,f] w fun e w'=>e=.returned (.agg (aK none))/\Below w.heap.size w w':=by
 obtain⟨k0,k1,k2,kb⟩:=bY (w:=w) (o1:=.cells x 220) (o2:=.cells y 220) (o3:=.cells zS 220) (Below.refl _ _);have c0:=cell_of k0 0 h0;have HZ:=hid k2;have fH:=hid kb;clear k0 k1 k2 kb;go_enter func162,ntmps162;go_wp2_with fail;refine bodyPost_ret (aN results162 _ _ rfl HZ.out rfl) rfl ⟨rfl,fH.out⟩
theorem CW(dv:Value)(e e':Fin 8->Sp.Iv)(w:Wd)(hd:fG B π dv w)(he:∀k,Wv (e k))(xE:∀k,Wv (e' k)) :
  Calls prog 162 #[.agg (aK (some e)),.agg (aK (some e')),.func (Fn.method "Widen") #[.iface 133 dv] #[]] w fun r w'=>r=.returned (.agg (aK (nE (Dm π) (Dm π).widen (some e) (some e'))))/\Below w.heap.size w w':=by
 have h:=Ff dv (EU π) (List.ofFn e) (List.ofFn e') w (by simp) (by simp) (fun x hx=>by obtain⟨k,rfl⟩:=List.mem_ofFn.1 hx;exact he k) (fun x hx=>by obtain⟨k,rfl⟩:=List.mem_ofFn.1 hx;exact xE k)
  (fun W x y k wx wy=>Su (hd.below (k.mono hd.size)) wx wy)
 rw[wu]at h;exact h
theorem Am(dv:Value)(e e':Fin 8->Sp.Iv)(w:Wd)(hd:fG B π dv w)(he:∀k,Wv (e k))(xE:∀k,Wv (e' k)) :
  Calls prog 162 #[.agg (aK (some e)),.agg (aK (some e')),.func (Fn.method "Narrow") #[.iface 133 dv] #[]] w fun r w'=>r=.returned (.agg (aK (nE (Dm π) (Dm π).narrow (some e) (some e'))))/\Below w.heap.size w w':=by
 have h:=BV dv zU (List.ofFn e) (List.ofFn e') w (by simp) (by simp) (fun x hx=>by obtain⟨k,rfl⟩:=List.mem_ofFn.1 hx;exact he k) (fun x hx=>by obtain⟨k,rfl⟩:=List.mem_ofFn.1 hx;exact xE k)
  (fun W x y k wx wy=>Om (hd.below (k.mono hd.size)) wx wy)
 rw[wu]at h;exact h
abbrev vA(x:Sp.Iv):Int:=x.a
abbrev vB(x:Sp.Iv):Int:=x.b
theorem tF(h:vA x=vA y)(k:vB x=vB y):x=y:=by
 cases x;cases y
 simp only[vA,vB]at h k;rw[h,k]
def vz(x:Sp.Iv):Prop:=(Lit.int .i16 (vA x)).wf=true/\(Lit.int .i16 (vB x)).wf=true
theorem Sc(h:Wv x):vz x:=by obtain⟨h1,h2,h3⟩:=h;have e1:IntKind.i16.min=-32768:=rfl;have e2:IntKind.i16.max=32767:=rfl;refine⟨?_,?_⟩<;>(simp only[Lit.wf,vA,vB,e1,e2,Bool.and_eq_true,decide_eq_true_eq];omega)
theorem Lf:vz ⟨0,0⟩:=⟨by rfl,by rfl⟩
end
end WI
end Go.Proofs.YtiopfihjmkfdmaaGreatDoor
