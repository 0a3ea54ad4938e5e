import Derived.Test.YtiopfihjmkfdmaaGreatDoorB24
namespace Go.Proofs.YtiopfihjmkfdmaaGreatDoor
open Go.Proofs.Tryz Sp
open Go.RowKit
set_option maxRecDepth 100000
set_option maxHeartbeats 16000000
namespace RI
section
variable{C:Rc}
variable{l:List Int}
variable{w w' W W':Wd}
variable{F:jB}
variable{k4 k5 k6 k7 g1 g2 k g:Nat}
variable{e f h h':dt}
structure gH(C:Rc)(l:List Int)(w:Wd):Prop where
 at':(l=[]/\C.sv=Value.slice none 0 0)∨∃(DZ cap:Nat) (c:Array Value),C.sv=Value.slice (some ⟨DZ,0,none⟩) l.length cap/\w.heap[DZ]?=some (.cells c 3)/\(∀(i:Nat) (n:Int),l[i]?=some n->c[i]?=some (.int .i64 n))/\DZ≠C.gf/\DZ≠C.gs/\l.length<=cap/\cap<=maxLen
 A4:l.length<=2000
theorem gH.bF(h:gH C l w)(k:RK C w w'):gH C l w':=by
 refine⟨?_,h.A4⟩
 rcases h.at' with h | ⟨DZ,cap,c,h1,h2,h3,h4,h5,h6,h7⟩
 ·exact .inl h
 ·exact .inr ⟨DZ,cap,c,h1,(k.others _ (ah h2) h4 h5).trans h2,h3,h4,h5,h6,h7⟩
theorem Fu(l:List Int)(n st:Int)(i:Nat)(k:Int)(hk:l[i]?=some k):(l.take (i+1)).foldl (fun st s=>if s<=n then max st s else st) st=(fun st s=>if s<=n then max st s else st) ((l.take i).foldl (fun st s=>if s<=n then max st s else st) st) k:=by rw[List.take_add_one,hk,List.foldl_append];rfl
theorem Ep(l:List Int)(n st:Int)(i:Nat)(k:Int)(hk:l[i]?=some k):(l.take (i+1)).foldl (fun st s=>if n<=s then min st s else st) st=(fun st s=>if n<=s then min st s else st) ((l.take i).foldl (fun st s=>if n<=s then min st s else st) st) k:=by rw[List.take_add_one,hk,List.foldl_append];rfl
theorem Jj(C:Rc)(l:List Int)(F:jB)(n:Int)(w:Wd)(hR:bx C F w)(hS:gH C l w) :
  Calls prog 192 #[.pointer (some ⟨C.b,0,none⟩),.int .i64 n,.bool false] w fun r w'=>r=.returned (.int .i64 (cd l n))/\w'=w:=by
 have m6:=cell_of hR.aV 6 (v:=C.sv) rfl;have A4:=hS.A4
 rcases hS.at' with⟨rfl,FV⟩ | ⟨DZ,cap,c,FV,hg,hc,_,_,mm,hmax⟩
 ·rw[FV]at m6
  clear hR hS FV A4;go_enter func192,ntmps192;go_wp2_with fail
  go_loopw [7,8] (fun v7 v8 wr=>v7=.int .i64 (-32768)/\v8=.int .i64 0/\wr=w) (fun _ _ _=>0)
  case atStart=>exact⟨rfl,rfl,rfl⟩
  case round =>
   obtain⟨rfl,rfl,rfl⟩:=hrel;go_wp2_with fail;go_ret;exact⟨rfl,rfl⟩
 ·rw[FV]at m6
  have HC:Hid (∀i k,l[i]?=some k->w.cell? ⟨DZ,i,none⟩=some (.int .i64 k)):=fun i k h=>cell_of hg i (hc i k h)
  clear hR hS FV hg hc;go_enter func192,ntmps192;go_wp2_with fail
  go_loopw [7,8] (fun v7 v8 wr=>∃(i:Nat) (z:Int),i<=l.length/\v8=.int .i64 i/\v7=.int .i64 z/\Hid (z=(l.take i).foldl (fun st s=>if s<=n then max st s else st) (-32768))/\wr=w) (fun _ v8 _=>l.length - (intOf v8).toNat)
  case atStart=>exact⟨0,-32768,Nat.zero_le _,rfl,rfl,rfl,rfl⟩
  case round =>
   obtain⟨i,z,hi,rfl,rfl,hz,rfl⟩:=hrel;by_cases ZC:i<l.length
   ·have To:((i:Nat):Int)<((l.length:Nat):Int):=by omega
    obtain⟨k,hk⟩:∃k,l[i]?=some k:=⟨_,List.getElem?_eq_getElem ZC⟩;have c0:=HC.out i k hk;have HZ:Hid (∀z',z'=(if k<=n then max z k else z)->z'=(l.take (i+1)).foldl (fun st s=>if s<=n then max st s else st) (-32768)):=fun z' h=>by rw[Fu l n _ i k hk,<-hz.out];exact h
    clear hz hk;by_cases h1:k<=n
    ·by_cases h2:z<k
     ·have Z:=HZ.out k (by rw[if_pos h1];omega)
      have jt:=hid Z;clear HZ Z;go_wp2_with fail;exact⟨⟨i+1,k,by omega,by go_num,rfl,jt,trivial⟩,by simp[intOf];omega⟩
     ·have Z:=HZ.out z (by rw[if_pos h1];omega)
      have jt:=hid Z;clear HZ Z;go_wp2_with fail;exact⟨⟨i+1,z,by omega,by go_num,rfl,jt,trivial⟩,by simp[intOf];omega⟩
    ·have Z:=HZ.out z (by rw[if_neg h1])
     have jt:=hid Z;clear HZ Z;go_wp2_with fail;exact⟨⟨i+1,z,by omega,by go_num,rfl,jt,trivial⟩,by simp[intOf];omega⟩
   ·obtain rfl:i=l.length:=by omega
    have jt:Hid (z=cd l n):=by unfold Hid;rw[hz.out,List.take_length];rfl
    clear hz;go_wp2_with fail;go_ret;exact⟨by rw[jt.out];rfl,rfl⟩
theorem PM(C:Rc)(l:List Int)(F:jB)(n:Int)(w:Wd)(hR:bx C F w)(hS:gH C l w) :
  Calls prog 192 #[.pointer (some ⟨C.b,0,none⟩),.int .i64 n,.bool true] w fun r w'=>r=.returned (.int .i64 (br l n))/\w'=w:=by
 have m6:=cell_of hR.aV 6 (v:=C.sv) rfl;have A4:=hS.A4
 rcases hS.at' with⟨rfl,FV⟩ | ⟨DZ,cap,c,FV,hg,hc,_,_,mm,hmax⟩
 ·rw[FV]at m6
  clear hR hS FV A4;go_enter func192,ntmps192;go_wp2_with fail
  go_loopw [7,8] (fun v7 v8 wr=>v7=.int .i64 32767/\v8=.int .i64 0/\wr=w) (fun _ _ _=>0)
  case atStart=>exact⟨rfl,rfl,rfl⟩
  case round =>
   obtain⟨rfl,rfl,rfl⟩:=hrel;go_wp2_with fail;go_ret;exact⟨rfl,rfl⟩
 ·rw[FV]at m6
  have HC:Hid (∀i k,l[i]?=some k->w.cell? ⟨DZ,i,none⟩=some (.int .i64 k)):=fun i k h=>cell_of hg i (hc i k h)
  clear hR hS FV hg hc;go_enter func192,ntmps192;go_wp2_with fail
  go_loopw [7,8] (fun v7 v8 wr=>∃(i:Nat) (z:Int),i<=l.length/\v8=.int .i64 i/\v7=.int .i64 z/\Hid (z=(l.take i).foldl (fun st s=>if n<=s then min st s else st) 32767)/\wr=w) (fun _ v8 _=>l.length - (intOf v8).toNat)
  case atStart=>exact⟨0,32767,Nat.zero_le _,rfl,rfl,rfl,rfl⟩
  case round =>
   obtain⟨i,z,hi,rfl,rfl,hz,rfl⟩:=hrel;by_cases ZC:i<l.length
   ·have To:((i:Nat):Int)<((l.length:Nat):Int):=by omega
    obtain⟨k,hk⟩:∃k,l[i]?=some k:=⟨_,List.getElem?_eq_getElem ZC⟩;have c0:=HC.out i k hk;have HZ:Hid (∀z',z'=(if n<=k then min z k else z)->z'=(l.take (i+1)).foldl (fun st s=>if n<=s then min st s else st) 32767):=fun z' h=>by rw[Ep l n _ i k hk,<-hz.out];exact h
    clear hz hk;by_cases h1:n<=k
    ·by_cases h2:k<z
     ·have Z:=HZ.out k (by rw[if_pos h1];omega)
      have jt:=hid Z;clear HZ Z;go_wp2_with fail;exact⟨⟨i+1,k,by omega,by go_num,rfl,jt,trivial⟩,by simp[intOf];omega⟩
     ·have Z:=HZ.out z (by rw[if_pos h1];omega)
      have jt:=hid Z;clear HZ Z;go_wp2_with fail;exact⟨⟨i+1,z,by omega,by go_num,rfl,jt,trivial⟩,by simp[intOf];omega⟩
    ·have Z:=HZ.out z (by rw[if_neg h1])
     have jt:=hid Z;clear HZ Z;go_wp2_with fail;exact⟨⟨i+1,z,by omega,by go_num,rfl,jt,trivial⟩,by simp[intOf];omega⟩
   ·obtain rfl:i=l.length:=by omega
    have jt:Hid (z=br l n):=by unfold Hid;rw[hz.out,List.take_length];rfl
    clear hz;go_wp2_with fail;go_ret;exact⟨by rw[jt.out];rfl,rfl⟩
theorem ow(w:Wd)(n:Nat):Below w.heap.size w (w.drewN n):=⟨rfl,rfl,rfl,Nat.le_refl _,fun _ _=>rfl⟩
structure kZ(C:Rc)(F:jB)(l:List Int)(w:Wd)(k4 k5 k6 k7 g1 g2:Nat)(e f h:dt)(W:Wd):Prop where
 ra:bx C F W
 st:gH C l W
 x:W.heap[k4]?=some (.cells #[.bool false,.slice (some ⟨g1,0,none⟩) 8 8] 121)
 y:W.heap[k5]?=some (.cells #[.bool false,.slice (some ⟨g2,0,none⟩) 8 8] 121)
 r:W.heap[k6]?=some (.cells #[.bool false,.slice none 0 0] 121)
 o:∃g,W.heap[k7]?=some (.cells #[.bool false,.slice (some ⟨g,0,none⟩) 8 8] 121)/\W.heap[g]?=some (.cells (gF h) 191)
 e1:W.heap[g1]?=some (.cells (gF e) 191)
 e2:W.heap[g2]?=some (.cells (gF f) 191)
 b:Below w.heap.size w W
 l6:w.heap.size<=k6
 l7:w.heap.size<=k7
 n67:k6≠k7
 n47:k4≠k7
 n57:k5≠k7
 old:C.gf<w.heap.size/\C.gs<w.heap.size
theorem kZ.call(q:kZ C F l w k4 k5 k6 k7 g1 g2 e f h W)(k:Below W.heap.size W W'):kZ C F l w k4 k5 k6 k7 g1 g2 e f h W':=by obtain⟨g,o1,o2⟩:=q.o;exact⟨q.ra.call k,q.st.bF (RK.aB k q.ra.le),(k.block _ (ah q.x)).trans q.x,(k.block _ (ah q.y)).trans q.y,(k.block _ (ah q.r)).trans q.r,⟨g,(k.block _ (ah o1)).trans o1,(k.block _ (ah o2)).trans o2⟩,(k.block _ (ah q.e1)).trans q.e1,(k.block _ (ah q.e2)).trans q.e2,q.b.trans (k.mono q.b.size),q.l6,q.l7,q.n67,q.n47,q.n57,q.old⟩
theorem gH.other(h:gH C l w)(ix:∀j,j≠k->w'.heap[j]?=w.heap[j]?){c:Array Value}{ty:TypeId}(hk:Bk w k c ty)(ht:ty≠3):gH C l w':=by
 refine⟨?_,h.A4⟩
 rcases h.at' with h | ⟨DZ,cap,c',h1,h2,h3,h4,h5,h6,h7⟩
 ·exact .inl h
 ·refine .inr ⟨DZ,cap,c',h1,(ix _ (fun q=>?_)).trans h2,h3,h4,h5,h6,h7⟩
  rw[q,hk]at h2;injection h2 with h2
  injection h2 with _ h2
  exact ht h2
theorem kZ.own(q:kZ C F l w k4 k5 k6 k7 g1 g2 e f h W){u v:Value}(hk:Bk W k #[u,v] 191)(hl:w.heap.size<=k)(i:Nat)(z:Value):kZ C F l w k4 k5 k6 k7 g1 g2 e f h (W.setCell ⟨k,i,none⟩ z):=by
 obtain⟨o1,o2⟩:=q.old;have ix:∀j,j≠k->(W.setCell ⟨k,i,none⟩ z).heap[j]?=W.heap[j]?:=fun j hj=>Below.heap_setCell _ _ _ _ hj
 have ns:∀{b:Nat} {c:Array Value},W.heap[b]?=some (.cells c 121)->b≠k:=fun hb q=>by rw[q,hk]at hb;cases hb
 have nv:∀{b:Nat} {e:dt},W.heap[b]?=some (.cells (gF e) 191)->b≠k:=fun hb q=>by rw[q,hk]at hb;exact BI _ rfl _ _ hb
 obtain⟨g,p1,p2⟩:=q.o;exact⟨q.ra.own (k:=k) (fun x=>by have:=q.ra.aV;rw[<-x,hk]at this;cases this) (by omega) (by omega) (fun e=>by rw[hk];exact BI _ rfl _ _) ix,q.st.other ix hk (by decide),(ix _ (ns q.x)).trans q.x,(ix _ (ns q.y)).trans q.y,(ix _ (ns q.r)).trans q.r,⟨g,(ix _ (ns p1)).trans p1,(ix _ (nv p2)).trans p2⟩,(ix _ (nv q.e1)).trans q.e1,(ix _ (nv q.e2)).trans q.e2,q.b.setCell (p:=⟨k,i,none⟩) hl _,q.l6,q.l7,q.n67,q.n47,q.n57,q.old⟩
theorem kZ.put(q:kZ C F l w k4 k5 k6 k7 g1 g2 e f h W)(hg:Bk W g (gF h') 191):kZ C F l w k4 k5 k6 k7 g1 g2 e f h' ((W.setCell ⟨k7,0,none⟩ (.bool false)).setCell ⟨k7,1,none⟩ (.slice (some ⟨g,0,none⟩) 8 8)):=by
 obtain⟨o1,o2⟩:=q.old;have l7:=q.l7;obtain⟨g0,p1,p2⟩:=q.o;have ix:∀j,j≠k7->((W.setCell ⟨k7,0,none⟩ (.bool false)).setCell ⟨k7,1,none⟩ (.slice (some ⟨g,0,none⟩) 8 8)).heap[j]?=W.heap[j]?:=fun j hj=>by rw[Below.heap_setCell _ _ _ _ hj,Below.heap_setCell _ _ _ _ hj]
 have nv:∀{b:Nat} {e:dt},W.heap[b]?=some (.cells (gF e) 191)->b≠k7:=fun hb q=>by rw[q,p1]at hb;cases hb
 exact⟨q.ra.Jh p1 (by omega) _ _,q.st.other ix p1 (by decide),(ix _ q.n47).trans q.x,(ix _ q.n57).trans q.y,(ix _ q.n67).trans q.r,⟨g,by rw[ai (ai p1 0 _) 1 _];rfl,(ix _ (nv hg)).trans hg⟩,(ix _ (nv q.e1)).trans q.e1,(ix _ (nv q.e2)).trans q.e2,(q.b.setCell (p:=⟨k7,0,none⟩) l7 _).setCell (p:=⟨k7,1,none⟩) l7 _,q.l6,q.l7,q.n67,q.n47,q.n57,q.old⟩
def upto(v:Fin 8->T)(s:dt)(j:Nat):dt:=fun k=>if k.val<j then v k else s k
theorem yX(v:Fin 8->T)(s:dt)(j:Nat)(hj:j<8):ph (upto v s j) j (v ⟨j,hj⟩)=upto v s (j+1):=by
 funext i;unfold ph upto;by_cases h:i.val=j
 ·rw[if_pos h,if_pos (by omega)]
  have:i=⟨j,hj⟩:=Fin.ext h;rw[this]
 ·rw[if_neg h]
  by_cases h2:i.val<j
  ·rw[if_pos h2,if_pos (by omega)]
  ·rw[if_neg h2,if_neg (by omega)]
theorem LW(v:Fin 8->T)(s:dt):upto v s 0=s:=by funext i;unfold upto;rw[if_neg (by omega)]
theorem Lk(v:Fin 8->T)(s:dt):upto v s 8=v:=by funext i;unfold upto;rw[if_pos i.isLt]
theorem CJ(hR:bx C F w)(hS:gH C l w)(h1:Bk w g1 (gF e) 191)(h2:Bk w g2 (gF f) 191)(hg:g=g1/\h=e∨g=g2/\h=f) :
  kZ C F l w w.heap.size (w.heap.size+1) (w.heap.size+1+1) (w.heap.size+1+1+1) g1 g2 e f h ((((w.alloc (.cells #[.bool false,.slice (some ⟨g1,0,none⟩) 8 8] 121)).alloc (.cells #[.bool false,.slice (some ⟨g2,0,none⟩) 8 8] 121)).alloc (.cells #[.bool false,.slice none 0 0] 121)).alloc (.cells #[.bool false,.slice (some ⟨g,0,none⟩) 8 8] 121)):=by
 obtain⟨a1,a2,a3,a4,kb⟩:=bM (w:=w) (o1:=.cells #[.bool false,.slice (some ⟨g1,0,none⟩) 8 8] 121) (o2:=.cells #[.bool false,.slice (some ⟨g2,0,none⟩) 8 8] 121) (o3:=.cells #[.bool false,.slice none 0 0] 121) (o4:=.cells #[.bool false,.slice (some ⟨g,0,none⟩) 8 8] 121) (Below.refl _ _);obtain⟨c1,q1,_⟩:=hR.gf;obtain⟨c2,q2,_⟩:=hR.gs;refine⟨hR.call kb,hS.bF (RK.aB kb hR.le),a1,a2,a3,⟨g,a4,?_⟩,(kb.block _ (ah h1)).trans h1,(kb.block _ (ah h2)).trans h2,kb,by omega,by omega,by omega,by omega,by omega,⟨ah q1,ah q2⟩⟩
 rcases hg with⟨rfl,rfl⟩ | ⟨rfl,rfl⟩
 ·exact(kb.block _ (ah h1)).trans h1
 ·exact(kb.block _ (ah h2)).trans h2
end
end RI
section
namespace RI
structure bE(C:Rc)(g cap:Nat)(ns:List aJ)(l:List Int)(w:Wd)(k8:Nat)(o:List (Nat × Obj))(F:jB)(m:List (Nat × dB))(W:Wd):Prop where
 ra:bx C F W
 uG:gH C l W
 look:dq C.pb g cap ns W
 res:W.heap[k8]?=some (.cells #[.bool false,.slice none 0 0] 121)
 l8:w.heap.size<=k8
 st:∀x∈m,w.heap.size<=x.1/\x.1≠k8/\eK x.2/\∃a n c,W.heap[x.1]?=some (.cells #[.bool x.2.isNone,.slice a n c] 121)/\dL W (.agg #[.bool x.2.isNone,.slice a n c]) x.2
 apart:m.Pairwise fun x y=>x.1≠y.1
 ob:∀x∈o,w.heap.size<=x.1/\W.heap[x.1]?=some x.2/\∀c,x.2≠.cells c 121
 bF:RK C w W
 old:C.gf<w.heap.size/\C.gs<w.heap.size
section
variable {C : Rc}{g cap : Nat}{ns : List aJ}{l : List Int}{w : Wd}{k8 : Nat}{o : List (Nat × Obj)}{F F' : jB}{m : List (Nat × dB)}{W W' : Wd}
section
variable{s s':dB}
variable{a:Option Addr}
variable{n c k:Nat}
variable{m':List (Nat × dB)}
variable{x y:Nat × dB}
theorem bE.step(G:Gd C g)(h:bE C g cap ns l w k8 o F m W)(hR:bx C F' W')(k:RK C W W'):bE C g cap ns l w k8 o F' m W':=by
 obtain⟨o1,o2⟩:=h.old;have aW:∀(b:Nat) (ob:Obj),w.heap.size<=b->W.heap[b]?=some ob->W'.heap[b]?=some ob:=fun b ob hb ho=>(k.others b (ah ho) (by omega) (by omega)).trans ho
 exact⟨hR,h.uG.bF k,RI.look G h.look k,aW _ _ h.l8 h.res,h.l8,fun x hx=>by
  obtain⟨a1,a2,a3,a,n,c,a4,a5⟩:=h.st x hx;exact⟨a1,a2,a3,a,n,c,aW _ _ a1 a4,a5.bF h.ra k⟩,h.apart,fun x hx=>by
  obtain⟨a1,a2,a3⟩:=h.ob x hx;exact⟨a1,aW _ _ a1 a2,a3⟩,h.bF.trans k,h.old⟩
theorem bE.call(G:Gd C g)(h:bE C g cap ns l w k8 o F m W)(k:Below W.heap.size W W'):bE C g cap ns l w k8 o F m W':=h.step G (h.ra.call k) (RK.aB k h.ra.le)
theorem bE.new(G:Gd C g)(h:bE C g cap ns l w k8 o F m W)(hs:dL W (.agg #[.bool s.isNone,.slice a n c]) s)(ws:eK s):bE C g cap ns l w k8 o F ((W.heap.size,s) :: m) (W.alloc (.cells #[.bool s.isNone,.slice a n c] 121)):=by
 have b:=below_alloc1 W (.cells #[.bool s.isNone,.slice a n c] 121);have h':=h.call G b;refine⟨h'.ra,h'.uG,h'.look,h'.res,h'.l8,fun x hx=>?_,?_,h'.ob,h'.bF,h'.old⟩
 ·rcases List.mem_cons.1 hx with rfl | hx
  ·exact⟨h.bF.below.size,fun e=>by have:=ah h.res;omega,ws,a,n,c,heap_alloc_new _ _,hs.below b⟩
  ·exact h'.st x hx
 ·refine List.pairwise_cons.2 ⟨fun x hx e=>?_,h.apart⟩
  obtain⟨_,_,_,_,_,_,q,_⟩:=h.st x hx;have:=ah q;have e':W.heap.size=x.1:=e;omega
theorem bE.U3(G:Gd C g)(h:bE C g cap ns l w k8 o F m W)(ob:Obj)(ho:∀c,ob≠.cells c 121):bE C g cap ns l w k8 ((W.heap.size,ob) :: o) F m (W.alloc ob):=by
 have h':=h.call G (below_alloc1 W ob);refine⟨h'.ra,h'.uG,h'.look,h'.res,h'.l8,h'.st,h'.apart,fun x hx=>?_,h'.bF,h'.old⟩
 rcases List.mem_cons.1 hx with rfl | hx
 ·exact⟨h.bF.below.size,heap_alloc_new _ _,ho⟩
 ·exact h'.ob x hx
theorem bE.le(h:bE C g cap ns l w k8 o F m W):C.base<=w.heap.size:=Nat.le_trans h.ra.lf (Nat.le_of_lt h.old.1)
theorem bE.put(G:Gd C g)(h:bE C g cap ns l w k8 o F ((k,s) :: m) W)(hs:dL W (.agg #[.bool s'.isNone,.slice a n c]) s')(ws:eK s'):bE C g cap ns l w k8 o F ((k,s') :: m) ((W.setCell ⟨k,0,none⟩ (.bool s'.isNone)).setCell ⟨k,1,none⟩ (.slice a n c)):=by
 obtain⟨o1,o2⟩:=h.old;obtain⟨a1,a2,a3,x,y,z,a4,a5⟩:=h.st (k,s) (List.mem_cons_self ..);simp only at a1 a2 a3 a4 a5;have hle:=h.le;have ix:∀j,j≠k->((W.setCell ⟨k,0,none⟩ (.bool s'.isNone)).setCell ⟨k,1,none⟩ (.slice a n c)).heap[j]?=W.heap[j]?:=fun j hj=>by rw[Below.heap_setCell _ _ _ _ hj,Below.heap_setCell _ _ _ _ hj]
 refine⟨h.ra.Jh a4 (by omega) _ _,h.uG.other ix a4 (by decide),BR G h.look (((Below.refl _ _).setCell (p:=⟨k,0,none⟩) (Nat.le_trans hle a1) _).setCell (p:=⟨k,1,none⟩) (Nat.le_trans hle a1) _),(ix _ a2.symm).trans h.res,h.l8,fun q hq=>?_,?_,fun q hq=>?_,(h.bF.own a1 hle _ _).own a1 hle _ _,h.old⟩
 ·rcases List.mem_cons.1 hq with rfl | hq
  ·exact⟨a1,a2,ws,a,n,c,by rw[ai (ai a4 0 _) 1 _];rfl,hs.put a4 _ _⟩
  ·obtain⟨b1,b2,b3,x',y',z',b4,b5⟩:=h.st q (List.mem_cons_of_mem _ hq)
   have db:=(List.pairwise_cons.1 h.apart).1 q hq;exact⟨b1,b2,b3,x',y',z',(ix _ (fun e=>db e.symm)).trans b4,b5.put a4 _ _⟩
 ·exact List.pairwise_cons.2 ⟨(List.pairwise_cons.1 h.apart).1,(List.pairwise_cons.1 h.apart).2⟩
 ·obtain⟨b1,b2,b3⟩:=h.ob q hq
  exact⟨b1,(ix _ (fun e=>by rw[e,a4]at b2;injection b2 with b2;exact b3 _ b2.symm)).trans b2,b3⟩
theorem bE.ret(h:bE C g cap ns l w k8 o F m W){u v:Value}(hs:dL W (.agg #[u,v]) s):bx C F ((W.setCell ⟨k8,0,none⟩ u).setCell ⟨k8,1,none⟩ v)/\RK C w ((W.setCell ⟨k8,0,none⟩ u).setCell ⟨k8,1,none⟩ v)/\dL ((W.setCell ⟨k8,0,none⟩ u).setCell ⟨k8,1,none⟩ v) (.agg #[u,v]) s/\((W.setCell ⟨k8,0,none⟩ u).setCell ⟨k8,1,none⟩ v).cell? ⟨k8,0,none⟩=some u/\((W.setCell ⟨k8,0,none⟩ u).setCell ⟨k8,1,none⟩ v).cell? ⟨k8,1,none⟩=some v:=by obtain⟨o1,o2⟩:=h.old;have l8:=h.l8;obtain⟨_,_,_,_,mq⟩:=aH h.res;exact⟨h.ra.Jh h.res (by omega) _ _,(h.bF.own l8 h.le _ _).own l8 h.le _ _,hs.put h.res _ _,(mq u v).1,(mq u v).2⟩
theorem bE.sub{o':List (Nat × Obj)}(h:bE C g cap ns l w k8 o F m W)(h1:∀x∈m',x∈m)(h2:m'.Pairwise fun x y=>x.1≠y.1)(h3:∀x∈o',x∈o):bE C g cap ns l w k8 o' F m' W :=
 ⟨h.ra,h.uG,h.look,h.res,h.l8,fun x hx=>h.st x (h1 x hx),h2,fun x hx=>h.ob x (h3 x hx),h.bF,h.old⟩
theorem bE.dr(h:bE C g cap ns l w k8 o F (x :: m) W):bE C g cap ns l w k8 o F m W:=h.sub (fun _ hx=>List.mem_cons_of_mem _ hx) (List.pairwise_cons.1 h.apart).2 (fun _ hx=>hx)
theorem bE.Pd{x:Nat × Obj}(h:bE C g cap ns l w k8 (x :: o) F m W):bE C g cap ns l w k8 o F m W:=h.sub (fun _ hx=>hx) h.apart (fun _ hx=>List.mem_cons_of_mem _ hx)
theorem bE.perm(h:bE C g cap ns l w k8 o F m W)(hp:m'.Perm m):bE C g cap ns l w k8 o F m' W:=h.sub (fun _ hx=>hp.mem_iff.1 hx) ((hp.pairwise_iff (fun {_ _} h=>Ne.symm h)).2 h.apart) (fun _ hx=>hx)
theorem bE.sw(h:bE C g cap ns l w k8 o F (x :: y :: m) W):bE C g cap ns l w k8 o F (y :: x :: m) W:=h.perm (List.Perm.swap ..)
end
end
section
variable{g cap n c:Nat}
variable{ns:List aJ}
variable{a:Option Addr}
theorem Ph{C:Rc}{l:List Int}{w:Wd}{F:jB}(G:Gd C g)(hR:bx C F w)(hS:gH C l w)(hL:dq C.pb g cap ns w)(d:aJ){s:dB}(hs:dL w (.agg #[.bool s.isNone,.slice a n c]) s)(ws:eK s) :
  bE C g cap ns l w (w.heap.size+1+1) [(w.heap.size,.cells (pz d) 176)] F [(w.heap.size+1,s)] (((w.alloc (.cells (pz d) 176)).alloc (.cells #[.bool s.isNone,.slice a n c] 121)).alloc (.cells #[.bool false,.slice none 0 0] 121)):=by
 obtain⟨h1,h2,h3,kb⟩:=bY (w:=w) (o1:=.cells (pz d) 176) (o2:=.cells #[.bool s.isNone,.slice a n c] 121) (o3:=.cells #[.bool false,.slice none 0 0] 121) (Below.refl _ _);obtain⟨c1,q1,_⟩:=hR.gf;obtain⟨c2,q2,_⟩:=hR.gs;have hk:=RK.aB kb hR.le;refine⟨hR.call kb,hS.bF hk,RI.look G hL hk,h3,by omega,fun x hx=>?_,List.pairwise_singleton ..,fun x hx=>?_,hk,⟨ah q1,ah q2⟩⟩
 ·obtain rfl:=List.mem_singleton.1 hx
  exact⟨by show _<=w.heap.size+1;omega,by show w.heap.size+1≠_;omega,ws,a,n,c,h2,hs.below kb⟩
 ·obtain rfl:=List.mem_singleton.1 hx
  exact⟨Nat.le_refl _,h1,fun c e=>by injection e with _ e;exact absurd e (by decide)⟩
theorem ON{C:Rc}{l:List Int}{w:Wd}{F:jB}(G:Gd C g)(hR:bx C F w)(hS:gH C l w)(hL:dq C.pb g cap ns w){s:dB}(hs:dL w (.agg #[.bool s.isNone,.slice a n c]) s)(ws:eK s) :
  bE C g cap ns l w (w.heap.size+1) [] F [(w.heap.size,s)] ((w.alloc (.cells #[.bool s.isNone,.slice a n c] 121)).alloc (.cells #[.bool false,.slice none 0 0] 121)):=by
 obtain⟨h2,h3,kb⟩:=eY (w:=w) (o1:=.cells #[.bool s.isNone,.slice a n c] 121) (o2:=.cells #[.bool false,.slice none 0 0] 121) (Below.refl _ _);obtain⟨c1,q1,_⟩:=hR.gf;obtain⟨c2,q2,_⟩:=hR.gs;have hk:=RK.aB kb hR.le;refine⟨hR.call kb,hS.bF hk,RI.look G hL hk,h3,by omega,fun x hx=>?_,List.pairwise_singleton ..,fun x hx=>(by cases hx),hk,⟨ah q1,ah q2⟩⟩;obtain rfl:=List.mem_singleton.1 hx;exact⟨Nat.le_refl _,by show w.heap.size≠_;omega,ws,a,n,c,h2,hs.below kb⟩
def sV(p:Int):dB->List (gd T)
 | none=>[]
 | some s=>[.aA p s]
theorem AJ(π:bO)(p:Int)(s:dB):sV p s=py (Dm π) p s:=by cases s<;>rfl
theorem uY(π:bO)(C:Rc)(F:jB)(p:Int)(s:dB)(v:Value)(rec:Bool)(w:Wd)(h:bx C F w)(hv:dL w v s)(ws:eK s)(hr:WI.df rec F (sV p s)) :
  Calls prog 77 #[.pointer (some ⟨C.b,0,none⟩),.int .i64 p,v,.bool rec] w fun r w'=>r=.returned (.tuple #[])/\bx C (WI.told π rec F (sV p s)) w'/\RK C w w':=by
 obtain⟨a,n,c,rfl⟩:=hv.form;cases rec with
 | false =>refine(CK C.b p s.isNone a n c false w (.inl rfl)).mono ?_;rintro r w'⟨rfl,b⟩;exact⟨rfl,h.call b,RK.aB b h.le⟩
 | true =>
  cases s with
  | none =>refine(CK C.b p true a n c true w (.inr rfl)).mono ?_;rintro r w'⟨rfl,b⟩;exact⟨rfl,h.call b,RK.aB b h.le⟩
  | some e =>obtain⟨ge,e1,e2⟩:=hv;obtain⟨q1,q2⟩:=hr rfl (.aA p e) (List.mem_singleton.2 rfl);obtain⟨pn,rfl⟩:∃pn:Nat,p=(pn:Int):=⟨p.toNat,by omega⟩;rw[e1];refine(Ok C π F pn e ge w h (by simpa using q2) (ws e rfl) e2).mono ?_;rintro r w'⟨rfl,h1,h2⟩;exact⟨rfl,h1,h2⟩
end
end RI
end
namespace RI
section
variable{oj sj i s U:dB}
variable{π:bO}
variable{p:Int}
variable{m ao k f n:Nat}
abbrev lV:=List (gd T)
abbrev iZ:=dB->lV × dB × dB
abbrev jb:=dB->lV × dB
def hI(C:Rc):yZ:=⟨C.ao,C.narrow,C.aj⟩
def rA(π:bO)(C:Rc)(cond:iZ)(body:jb)(p:Int)(s:dB):lV × dB:=Sp.rA (Dm π) (hI C) cond body p s
def Vb(π:bO)(cond:iZ)(body:jb)(p:Int)(n:Nat)(s:dB):lV × dB × dB:=jC (Dm π) cond body p n none s
def FJ(π:bO)(C:Rc)(cond:iZ)(body:jb)(s:dB):dB:=lL (Dm π) (hI C) cond body s
def Be(cond:iZ)(body:jb)(s i:dB):dB:=uw s (body (cond i).2.1).2
theorem MU(π:bO)(cond:iZ)(body:jb)(s i:dB):Be cond body s i=jv (Dm π) cond body s i:=mH π _ _
theorem Ax(π:bO)(C:Rc)(cond:iZ)(body:jb)(p:Int)(s:dB){ej:lV}(hU:Vb π cond body p C.aj s=(ej,oj,sj))(hi:FJ π C cond body sj=i) :
  rA π C cond body p s=(ej ++ sV p i ++ (cond i).1 ++ (body (cond i).2.1).1,uw oj (cond i).2.2):=by
 have h1:jC (Dm π) cond body p (hI C).aj none s=(ej,oj,sj):=hU;have h2:lL (Dm π) (hI C) cond body sj=i:=hi;unfold rA Sp.rA;simp only;rw[h1];simp only;rw[h2,mH π,AJ π];rfl
structure JK(π:bO)(cond:iZ)(body:jb):Prop where
 wc:fO (Kr π) cond
 wb:fg (Kr π) body
 nc:cond none=([],none,none)
 nb:body none=([],none)
theorem JK.c{cond:iZ}{body:jb}(h:JK π cond body)(hs:eK s):eK (cond s).2.1/\eK (cond s).2.2:=h.wc s hs
theorem JK.b{cond:iZ}{body:jb}(h:JK π cond body)(hs:eK s):eK (body s).2:=h.wb s hs
def Jn(π:bO)(cond:iZ)(body:jb)(p:Int)(U:lV × dB × dB)(m:Nat)(ej:lV)(oj sj:dB):Prop:=lX (Kr π) cond body p U m ej oj sj
theorem Jn.start(π:bO)(cond:iZ)(body:jb)(p:Int)(n:Nat)(hs:eK s):Jn π cond body p (Vb π cond body p n s) n [] none s:=lX.start (K:=Kr π) cond body p n hs
theorem Jn.end{cond:iZ}{body:jb}{U:lV × dB × dB}{ej:lV}(h:Jn π cond body p U 0 ej oj sj):U=(ej,oj,sj):=lX.end h
theorem Jn.wf{cond:iZ}{body:jb}{U:lV × dB × dB}{ej:lV}(h:Jn π cond body p U m ej oj sj):eK oj/\eK sj:=⟨h.wo,h.ws⟩
theorem Jn.on{cond:iZ}{body:jb}(g:JK π cond body){U:lV × dB × dB}{ej:lV}(h:Jn π cond body p U (m+1) ej oj sj) :
  Jn π cond body p U m (ej ++ sV p sj ++ (cond sj).1 ++ (body (cond sj).2.1).1) (uw oj (cond sj).2.2) (body (cond sj).2.1).2:=by
 rw[AJ π,mH π];exact lX.on g.wc g.wb h
theorem Jn.Zc{cond:iZ}{body:jb}{U:lV × dB × dB}{ej:lV}(h:Jn π cond body p U (m+1) ej oj sj){rec:Bool}{F:jB}(hr:WI.df rec F U.1) :
  WI.df rec (WI.told π rec F ej) (sV p sj)/\WI.df rec (WI.told π rec (WI.told π rec F ej) (sV p sj)) (cond sj).1/\WI.df rec (WI.told π rec (WI.told π rec (WI.told π rec F ej) (sV p sj)) (cond sj).1) (body (cond sj).2.1).1:=by
 obtain⟨more,e⟩:∃more:lV,U.1=ej ++ sV p sj ++ (cond sj).1 ++ (body (cond sj).2.1).1 ++ more:=by rw[AJ π];exact lX.parts h
 rw[e]at hr;have h1:=WI.df.left hr;have h2:=WI.df.left h1;refine⟨WI.df.right (WI.df.left h2),?_,?_⟩
 ·rw[<-WI.aG];exact WI.df.right h2
 ·have q:=WI.df.right (π:=π) h1
  rw[WI.aG,WI.aG]at q;exact q
theorem GZ(s t:dB):PW s t=true↔s=t:=by rw[Sl []];exact nk (Dm []) s t
def Gp(π:bO)(cond:iZ)(body:jb)(s:dB)(ao:Nat)(U:dB)(k f:Nat)(i:dB):Prop:=pC (Kr π) (Be cond body s) ao U k f i
def Lg(π:bO)(cond:iZ)(body:jb)(s:dB)(ao:Nat):dB:=Sp.fixF (Dm π) (Be cond body s) ao 1100000 1 s
theorem Sv{cond:iZ}{body:jb}(g:JK π cond body):Be cond body none none=none:=by unfold Be;rw[g.nc];show uw none (body none).2=none;rw[g.nb];rfl
theorem Gp.start{cond:iZ}{body:jb}(g:JK π cond body)(hs:eK s)(ao:Nat):Gp π cond body s ao (Lg π cond body s ao) 1 1100000 s :=
 pC.start (K:=Kr π) rfl hs (fun e=>by subst e;exact Sv g)
theorem Gp.wf{cond:iZ}{body:jb}(h:Gp π cond body s ao U k f i):eK i:=pC.wf h
theorem Gp.sum{cond:iZ}{body:jb}(h:Gp π cond body s ao U k f i):f+k=1100001:=pC.sum h
theorem Gp.end{cond:iZ}{body:jb}(h:Gp π cond body s ao U k f i)(he:PW i (uw i (Be cond body s i))=true):i=U :=
 pC.end h ((nk (Dm π) _ _).2 (((GZ _ _).1 he).trans (mH π _ _)).symm)
theorem Gp.on{cond:iZ}{body:jb}(g:JK π cond body)(hs:eK s)(h:Gp π cond body s ao U k f i)(he:PW i (uw i (Be cond body s i))=false) :
  ∃(e n:dt) (f':Nat),i=some e/\(∀q,Wv (e q))/\uw i (Be cond body s i)=some n/\(∀q,Wv (n q))/\f=f'+1/\Gp π cond body s ao U (k+1) f' (if ao<k then some fun q=>bK π (e q) (n q) else some n):=by
 have hn:∀i,Sp.Wf (Kr π) i->Sp.Wf (Kr π) (Be cond body s i):=fun i hi=>oD hs (g.b (g.c hi).1)
 have xE:D3 (Dm π) (Sp.jn (Dm π) i (Be cond body s i)) i=false:=by
  cases hq:D3 (Dm π) (Sp.jn (Dm π) i (Be cond body s i)) i with
  | false=>rfl
  | true =>have q:=(nk (Dm π) _ _).1 hq;rw[(GZ _ _).2 (((mH π _ _).trans q).symm)]at he;cases he
 obtain⟨e,n,f',h1,h2,h3,h4,h5,h6⟩:=pC.on (K:=Kr π) h hn xE;refine⟨e,n,f',h1,h2,(mH π _ _).trans h3,h4,h5,?_⟩;have q:om (Dm π) (Be cond body s) ao k i=(if ao<k then some (fun q=>bK π (e q) (n q)) else some n:dB):=by
  unfold om;rw[h3,h1];by_cases hd:ao<k
  ·rw[if_pos hd,if_pos hd];rfl
  ·rw[if_neg hd,if_neg hd];rfl
 rw[q]at h6;exact h6
def JS(π:bO)(cond:iZ)(body:jb)(s U:dB)(n:Nat)(i:dB):Prop:=rB (Kr π) cond body s U n i
theorem OZ(π:bO)(cond:iZ)(body:jb)(s:dB)(ao:Nat):Lg π cond body s ao=Sp.fixF (Dm π) (jv (Dm π) cond body s) ao (Dm π).fuel 1 s:=by
 have e:Be cond body s=jv (Dm π) cond body s:=funext fun i=>MU π cond body s i
 unfold Lg;rw[e];rfl
theorem JS.start{cond:iZ}{body:jb}(g:JK π cond body)(C:Rc)(hs:eK s):JS π cond body s (FJ π C cond body s) C.narrow (Lg π cond body s C.ao):=by rw[OZ];exact rB.start (K:=Kr π) (P:=hI C) g.wc g.wb g.nc g.nb hs
theorem JS.end{cond:iZ}{body:jb}(h:JS π cond body s U 0 i):i=U:=h.eq
theorem JS.wf'{cond:iZ}{body:jb}(h:JS π cond body s U n i):eK i:=h.wf
theorem JS.on{cond:iZ}{body:jb}(g:JK π cond body)(hs:eK s)(h:JS π cond body s U (n+1) i) :
  (i=none/\JS π cond body s U n none)∨∃e e':dt,i=some e/\Be cond body s i=some e'/\(∀q,Wv (e q))/\(∀q,Wv (e' q))/\JS π cond body s U n (some fun q=>dG (e q) (e' q)):=by
 obtain⟨h1,h2⟩:=rB.on g.wc g.wb hs h
 rcases h2 with rfl | ⟨e,e',q1,q2,q3,q4⟩
 ·exact .inl ⟨rfl,h1⟩
 ·refine .inr ⟨e,e',q1,(MU π cond body s i).trans q2,q3,q4,?_⟩
  rw[q2,q1]at h1;exact h1
theorem Fx(l:List Int){x y:T}(hx:Wv x):bK ([-32768,32767] ++ l) x y=bK l x y:=by
 obtain⟨h1,h2,h3⟩:=hx;unfold bK;by_cases ha:y.a<x.a
 ·have e1:cd ([-32768,32767] ++ l) y.a=cd l y.a:=by
   unfold cd;rw[List.foldl_append];congr 1;simp only[List.foldl];split<;>split<;>omega
  rw[e1];by_cases hb:x.b<y.b
  ·have e2:br ([-32768,32767] ++ l) y.b=br l y.b:=by
    unfold br;rw[List.foldl_append];congr 1;simp only[List.foldl];split<;>split<;>omega
   rw[e2]
  ·rw[if_neg hb,if_neg hb]
 ·rw[if_neg ha,if_neg ha]
  by_cases hb:x.b<y.b
  ·have e2:br ([-32768,32767] ++ l) y.b=br l y.b:=by
    unfold br;rw[List.foldl_append];congr 1;simp only[List.foldl];split<;>split<;>omega
   rw[e2]
  ·rw[if_neg hb,if_neg hb]
theorem UK(π:bO)(f s i:dB)(h:∀e,s=some e->∃q,i=some q/\∀k,(q k).a<=(e k).a/\(e k).b<=(q k).b):Sp.jn (Dm π) (Sp.jn (Dm π) f s) i=Sp.jn (Dm π) f i:=by
 cases s with
 | none=>cases f<;>rfl
 | some e =>
  obtain⟨q,rfl,hq⟩:=h e rfl;have hv:∀(z:T) (k:Fin 8),dF (dF z (e k)) (q k)=dF z (q k):=fun z k=>by
   obtain⟨h1,h2⟩:=hq k;unfold dF;refine Ao ?_ ?_
   ·show min (min z.a (e k).a) (q k).a=min z.a (q k).a;omega
   ·show max (max z.b (e k).b) (q k).b=max z.b (q k).b;omega
  have hv0:∀(k:Fin 8),dF (e k) (q k)=q k:=fun k=>by
   obtain⟨h1,h2⟩:=hq k;unfold dF;refine Ao ?_ ?_
   ·show min (e k).a (q k).a=(q k).a;omega
   ·show max (e k).b (q k).b=(q k).b;omega
  cases f with
  | none=>exact congrArg some (funext fun k=>hv0 k)
  | some z=>exact congrArg some (funext fun k=>hv (z k) k)
theorem OL{α:Type}(l:List α)(p:Nat)(f g h:α->α)(e:∀x,g (f x)=h x):(l.modify p f).modify p g=l.modify p h:=by
 refine List.ext_getElem? fun i=>?_
 rw[List.getElem?_modify,List.getElem?_modify,List.getElem?_modify];cases l[i]? with
 | none=>rfl
 | some x =>
  by_cases hi:p=i
  ·simp[hi,e]
  ·simp[hi]
theorem ME(π:bO)(F:jB)(p:Int)(e q:dt)(h:∀k,(q k).a<=(e k).a/\(e k).b<=(q k).b):cR (Dm π) (cR (Dm π) F (.aA p e)) (.aA p q)=cR (Dm π) F (.aA p q) :=
 Prod.ext (OL (α:=dB) F.1 p.toNat _ _ _ (fun x=>UK π x (some e) (some q) (fun _ he=>by cases he;exact⟨q,rfl,h⟩))) rfl
theorem JJ(π:bO)(C:Rc){cond:iZ}{body:jb}(g:JK π cond body)(p:Int)(rec:Bool)(F:jB){e:dt}(he:∀k,Wv (e k)):WI.told π rec F (.aA p e :: (rA π C cond body p (some e)).1)=WI.told π rec F (rA π C cond body p (some e)).1:=by
 cases rec with
 | false=>rfl
 | true =>
  show Sp.tell (Dm π) F (.aA p e :: (rA π C cond body p (some e)).1)=Sp.tell (Dm π) F (rA π C cond body p (some e)).1;have main:∃(q:dt) (es:lV),(∀k,(q k).a<=(e k).a/\(e k).b<=(q k).b)/\(rA π C cond body p (some e)).1=.aA p q :: es:=by
   cases hn:C.aj with
   | zero =>
    obtain⟨q,hq,hs⟩:∃q:dt,FJ π C cond body (some e)=some q/\∀k,(q k).a<=(e k).a/\(e k).b<=(q k).b:=by obtain⟨q,h1,h2⟩:=(so (P:=hI C) g.wc g.wb he).2 e rfl;exact⟨q,h1,fun k=>h2 k⟩
    refine⟨q,(cond (some q)).1 ++ (body (cond (some q)).2.1).1,hs,?_⟩;have hU:Vb π cond body p C.aj (some e)=([],none,some e):=by rw[hn];rfl
    rw[Ax π C cond body p (some e) hU (i:=some q) hq];simp[sV]
   | succ n =>
    obtain⟨ej,oj,sj,hU⟩:∃ej oj sj,Vb π cond body p C.aj (some e)=(ej,oj,sj):=⟨_,_,_,rfl⟩;have h1:∃es,ej=.aA p e :: es:=by have:=congrArg Prod.fst hU;rw[hn]at this;exact⟨_,this.symm⟩
    obtain⟨es,rfl⟩:=h1;refine⟨e,es ++ sV p (FJ π C cond body sj) ++ (cond (FJ π C cond body sj)).1 ++ (body (cond (FJ π C cond body sj)).2.1).1,fun k=>⟨Int.le_refl _,Int.le_refl _⟩,?_⟩;rw[Ax π C cond body p (some e) hU rfl];simp
  obtain⟨q,es,h1,h2⟩:=main;rw[h2];show Sp.tell (Dm π) (cR (Dm π) (cR (Dm π) F (.aA p e)) (.aA p q)) es=Sp.tell (Dm π) (cR (Dm π) F (.aA p q)) es;rw[ME π F p e q h1]
theorem xZ(b:Nat)(va:Option Addr)(vn vc:Nat)(n:Bool)(w:Wd) :
  Calls prog 152 #[.pointer (some ⟨b,0,none⟩),.agg #[.bool true,.slice none 0 0],.agg #[.bool n,.slice va vn vc]] w fun r w'=>r=.returned (.agg #[.bool true,.slice none 0 0])/\Below w.heap.size w w':=by
 go_enter func152,ntmps152;go_wp2_with fail;go_returns;exact⟨rfl,by go_grown⟩
theorem wV(C:Rc)(F:jB)(l:List Int)(g1 g2:Nat)(e f:dt)(w:Wd)(hR:bx C F w)(hS:gH C l w)(h1:Bk w g1 (gF e) 191)(h2:Bk w g2 (gF f) 191) :
  Calls prog 152 #[.pointer (some ⟨C.b,0,none⟩),.agg #[.bool false,.slice (some ⟨g1,0,none⟩) 8 8],.agg #[.bool false,.slice (some ⟨g2,0,none⟩) 8 8]] w fun r w'=>∃v,r=.returned v/\dL w' v (some (fun k=>dG (e k) (f k)))/\Below w.heap.size w w':=by
 have HW:=CJ (e:=e) (f:=f) hR hS h1 h2 (g:=g1) (h:=e) (.inl ⟨rfl,rfl⟩);obtain⟨a1,a2,a3,kb⟩:=bY (w:=w) (o1:=.cells #[.bool false,.slice (some ⟨g1,0,none⟩) 8 8] 121) (o2:=.cells #[.bool false,.slice (some ⟨g2,0,none⟩) 8 8] 121) (o3:=.cells #[.bool false,.slice none 0 0] 121) (Below.refl _ _);have m1:=(hR.call kb).cells.1;obtain⟨W3,hW⟩:∃W3,((w.alloc (.cells #[.bool false,.slice (some ⟨g1,0,none⟩) 8 8] 121)).alloc (.cells #[.bool false,.slice (some ⟨g2,0,none⟩) 8 8] 121)).alloc (.cells #[.bool false,.slice none 0 0] 121)=W3:=⟨_,rfl⟩;have h3:W3.heap.size=w.heap.size+1+1+1:=by rw[<-hW];simp
 rw[hW]at HW m1 a1 a2;rw[<-h3]at HW;have H:Hid (kZ C F l w w.heap.size (w.heap.size+1) (w.heap.size+1+1) W3.heap.size g1 g2 e f (upto (fun k=>dG (e k) (f k)) e 0) (W3.alloc (.cells #[.bool false,.slice (some ⟨g1,0,none⟩) 8 8] 121))):=by unfold Hid;rw[LW];exact HW
 clear hR hS h1 h2 HW a3 kb h3;go_enter func152,ntmps152;go_upto_region 1 with fail;try rw[hW]
 obtain⟨k4,e4⟩:∃k,k=w.heap.size:=⟨_,rfl⟩;obtain⟨k5,e5⟩:∃k,k=w.heap.size+1:=⟨_,rfl⟩;obtain⟨k6,e6⟩:∃k,k=w.heap.size+1+1:=⟨_,rfl⟩;rw[<-e6,<-e5,<-e4];rw[<-e6,<-e5,<-e4]at H;rw[<-e4]at a1;rw[<-e5]at a2;obtain⟨x0,x1,_,_,_⟩:=aH a1;obtain⟨y0,y1,_,_,_⟩:=aH a2;clear hW e4 e5 e6 a1 a2;go_upto_region 4 with fail;generalize W3.alloc (.cells #[.bool false,.slice (some ⟨g1,0,none⟩) 8 8] 121)=W at *
 generalize W3.heap.size=k7 at *;clear x0 x1 y0 y1 m1;go_wp2_with fail
 go_loopw [8] (fun v8 wr=>∃j:Nat,j<=8/\v8=.int .i64 j/\Hid (kZ C F l w k4 k5 k6 k7 g1 g2 e f (upto (fun k=>dG (e k) (f k)) e j) wr)) (fun v8 _=>8 - (intOf v8).toNat)
 case atStart=>exact⟨0,Nat.zero_le _,rfl,H⟩
 case round =>
  obtain⟨j,hj,rfl,hq⟩:=hrel;clear H;by_cases kB:j<8
  ·have uq:((j:Nat):Int)<8:=by omega
   obtain⟨J2,HJ⟩:∃J2,Hid (J2=j*2):=⟨_,rfl⟩;obtain⟨x,hx⟩:∃x,x=e ⟨j,kB⟩:=⟨_,rfl⟩;obtain⟨y,hy⟩:∃y,y=f ⟨j,kB⟩:=⟨_,rfl⟩;have HN:Hid (ph (upto (fun k=>dG (e k) (f k)) e j) j (dG x y)=upto (fun k=>dG (e k) (f k)) e (j+1)):=by unfold Hid;rw[hx,hy];exact yX (fun k=>dG (e k) (f k)) e j kB
   have uW:Hid (∀W:Wd,(∃h,kZ C F l w k4 k5 k6 k7 g1 g2 e f h W)->W.cell? ⟨g1,J2,none⟩=some (.int .i64 x.a)/\W.cell? ⟨g1,J2+1,none⟩=some (.int .i64 x.b)/\W.cell? ⟨g2,J2,none⟩=some (.int .i64 y.a)/\W.cell? ⟨g2,J2+1,none⟩=some (.int .i64 y.b)/\W.cell? ⟨k4,1,none⟩=some (.slice (some ⟨g1,0,none⟩) 8 8)/\W.cell? ⟨k5,1,none⟩=some (.slice (some ⟨g2,0,none⟩) 8 8)):=fun W ⟨h,hW⟩=>by obtain⟨a1,a2⟩:=kQ e j kB;obtain⟨a3,a4⟩:=kQ f j kB;rw[HJ.out,hx,hy];exact⟨cell_of hW.e1 _ a1,cell_of hW.e1 _ a2,cell_of hW.e2 _ a3,cell_of hW.e2 _ a4,cell_of hW.x 1 rfl,cell_of hW.y 1 rfl⟩
   clear hx hy;generalize upto (fun k=>dG (e k) (f k)) e j=hh at *;obtain⟨p1,p2,p3,p4,p5,p6⟩:=uW.out wr ⟨_,hq.out⟩;rw[HJ.out]at p1 p2 p3 p4;have hX:=hq.call (below_alloc1 wr (.cells #[.int .i64 x.a,.int .i64 x.b] 191));have h9:=heap_alloc_new wr (.cells #[.int .i64 x.a,.int .i64 x.b] 191);have Wu:=hid hq.b.size;go_upto_region 8 with fail;generalize wr.alloc (.cells #[.int .i64 x.a,.int .i64 x.b] 191)=X at *
   generalize wr.heap.size=k9 at *;have HV:Hid (kZ C F l w k4 k5 k6 k7 g1 g2 e f hh X/\X.heap[k9]?=some (.cells #[.int .i64 x.a,.int .i64 x.b] 191)):=⟨hX,h9⟩;clear p1 p2 p3 p4 p5 p6 hX h9 hq;have Rq:Hid (∀(v:T) (g:Nat) (W:Wd),W.heap[g]?=some (.cells (gF hh) 191)->Calls prog 106 #[.agg #[.bool false,.slice (some ⟨g,0,none⟩) 8 8],.int .i64 (j:Nat),.agg #[.int .i64 (pA v),.int .i64 (pB v)]] W fun r w'=>∃u,r=.returned u/\dL w' u (some (ph hh j v))/\Below W.heap.size W w'):=fun v g W h=>mX g hh j kB v W h
   obtain⟨va,hva⟩:∃va,va=(dG x y).a:=⟨_,rfl⟩;obtain⟨vb,Bc⟩:∃vb,vb=(dG x y).b:=⟨_,rfl⟩;have Wo:Hid (dG x y=⟨va,vb⟩):=by unfold Hid;rw[hva,Bc]
   rw[Wo.out]at HN;clear Wo;by_cases h1:x.a=-32768
   case' pos =>
    have E1:Hid (va=y.a):=hva.trans (if_pos h1);obtain⟨p1,p2,p3,p4,p5,p6⟩:=uW.out X ⟨_,HV.1⟩;obtain⟨q0,q1,mv,mu,_⟩:=aH HV.2;rw[HJ.out]at p3;have HB:=hid (And.intro (HV.1.own HV.2 Wu.out 0 (.int .i64 y.a)) (ai HV.2 0 (.int .i64 y.a)));rw[h1]at q0;clear p1 p2 p4 p5 hva;go_upto_region 10 with fail;have HC:Hid (kZ C F l w k4 k5 k6 k7 g1 g2 e f hh (X.setCell ⟨k9,0,none⟩ (.int .i64 y.a))/\(X.setCell ⟨k9,0,none⟩ (.int .i64 y.a)).heap[k9]?=some (.cells #[.int .i64 y.a,.int .i64 x.b] 191)):=HB.out
    generalize X.setCell ⟨k9,0,none⟩ (.int .i64 y.a)=Y at *;rw[<-E1.out]at HC;clear HB HV q0 q1 mv mu p3 p6 h1 E1
   case' neg =>
    have E1:Hid (va=x.a):=hva.trans (if_neg h1);obtain⟨q0,q1,mv,mu,_⟩:=aH HV.2;have hz:(x.a == -32768)=false:=by simpa using h1
    clear hva;go_upto_region 10 with fail;have HC:=hid HV.out
    generalize X=Y at *;rw[<-E1.out]at HC;clear q0 q1 mv mu HV h1 hz E1
   all_goals
    by_cases h2:x.b=32767
    case' pos =>
     have E1:Hid (vb=y.b):=Bc.trans (if_pos h2);obtain⟨p1,p2,p3,p4,p5,p6⟩:=uW.out Y ⟨_,HC.1⟩;obtain⟨q0,q1,mv,mu,_⟩:=aH HC.2;rw[HJ.out]at p4;have HB:=hid (And.intro (HC.1.own HC.2 Wu.out 1 (.int .i64 y.b)) (ai HC.2 1 (.int .i64 y.b)));rw[h2]at q1;clear p1 p2 p3 p5 Bc;go_upto_region 12 with fail;have HD:Hid (kZ C F l w k4 k5 k6 k7 g1 g2 e f hh (Y.setCell ⟨k9,1,none⟩ (.int .i64 y.b))/\(Y.setCell ⟨k9,1,none⟩ (.int .i64 y.b)).heap[k9]?=some (.cells #[.int .i64 va,.int .i64 y.b] 191)):=HB.out
     generalize Y.setCell ⟨k9,1,none⟩ (.int .i64 y.b)=Q at *;rw[<-E1.out]at HD;clear HB HC q0 q1 mv mu p4 p6 h2 E1
    case' neg =>
     have E1:Hid (vb=x.b):=Bc.trans (if_neg h2);obtain⟨q0,q1,mv,mu,_⟩:=aH HC.2;have hz:(x.b == 32767)=false:=by simpa using h2
     clear Bc;go_upto_region 12 with fail;have HD:=hid HC.out
     generalize Y=Q at *;rw[<-E1.out]at HD;clear q0 q1 mv mu HC h2 hz E1
   all_goals
    obtain⟨g,o1,o2⟩:=HD.1.o;obtain⟨s0,s1,_,_,_⟩:=aH o1;obtain⟨q0,q1,_,_,_⟩:=aH HD.2;have Xh:=hid (Rq.out ⟨va,vb⟩ g Q o2);clear o1 o2 uW Rq;go_wp2_with fail;refine Xh.mono ?_;rintro r w3⟨u,rfl,hu,b3⟩;obtain⟨gn,rfl,Wn⟩:=hu;have h3:=HD.1.call b3;obtain⟨g',o1,o2⟩:=h3.o;obtain⟨z0,z1,DT,DY,_⟩:=aH o1;have HF:=hid (h3.put Wn);rw[HN.out]at HF;clear s0 s1 q0 q1 Xh HD h3 Wn o1 o2 b3;go_wp2_with fail;exact⟨⟨j+1,by omega,by go_num,HF⟩,by simp[intOf];omega⟩
  ·obtain rfl:j=8:=by omega
   have h9:=hq.out;rw[Lk]at h9;obtain⟨g,o1,o2⟩:=h9.o;have c0:=cell_of o1 0 (v:=.bool false) rfl;have c1:=cell_of o1 1 (v:=.slice (some ⟨g,0,none⟩) 8 8) rfl;obtain⟨z0,z1,DT,DY,mq⟩:=aH h9.r;have MQ:=hid (mq (.bool false) (.slice (some ⟨g,0,none⟩) 8 8));have HT:=hid (And.intro ((show dL wr (.agg #[.bool false,.slice (some ⟨g,0,none⟩) 8 8]) (some (fun k=>dG (e k) (f k))) from⟨g,rfl,o2⟩).put h9.r (.bool false) (.slice (some ⟨g,0,none⟩) 8 8)) ((h9.b.setCell (p:=⟨k6,0,none⟩) h9.l6 (.bool false)).setCell (p:=⟨k6,1,none⟩) h9.l6 (.slice (some ⟨g,0,none⟩) 8 8)));clear mq h9 o1 o2 hq;go_wp2_with fail;exact bodyPost_ret (v:=.agg #[.bool false,.slice (some ⟨g,0,none⟩) 8 8]) (by simp[results,results152,go_sem,MQ.1,MQ.2]) rfl ⟨_,rfl,HT.1,HT.2⟩
theorem lk(C:Rc)(F:jB)(l:List Int)(g1 g2:Nat)(e f:dt)(w:Wd)(hR:bx C F w)(hS:gH C l w)(h1:Bk w g1 (gF e) 191)(h2:Bk w g2 (gF f) 191) :
  Calls prog 151 #[.pointer (some ⟨C.b,0,none⟩),.agg #[.bool false,.slice (some ⟨g1,0,none⟩) 8 8],.agg #[.bool false,.slice (some ⟨g2,0,none⟩) 8 8]] w fun r w'=>∃v,r=.returned v/\dL w' v (some (fun k=>bK l (e k) (f k)))/\Below w.heap.size w w':=by
 have HW:=CJ (e:=e) (f:=f) hR hS h1 h2 (g:=g2) (h:=f) (.inr ⟨rfl,rfl⟩);obtain⟨a1,a2,a3,kb⟩:=bY (w:=w) (o1:=.cells #[.bool false,.slice (some ⟨g1,0,none⟩) 8 8] 121) (o2:=.cells #[.bool false,.slice (some ⟨g2,0,none⟩) 8 8] 121) (o3:=.cells #[.bool false,.slice none 0 0] 121) (Below.refl _ _);have m1:=(hR.call kb).cells.1;obtain⟨W3,hW⟩:∃W3,((w.alloc (.cells #[.bool false,.slice (some ⟨g1,0,none⟩) 8 8] 121)).alloc (.cells #[.bool false,.slice (some ⟨g2,0,none⟩) 8 8] 121)).alloc (.cells #[.bool false,.slice none 0 0] 121)=W3:=⟨_,rfl⟩;have h3:W3.heap.size=w.heap.size+1+1+1:=by rw[<-hW];simp
 rw[hW]at HW m1 a1 a2;rw[<-h3]at HW;have H:Hid (kZ C F l w w.heap.size (w.heap.size+1) (w.heap.size+1+1) W3.heap.size g1 g2 e f (upto (fun k=>bK l (e k) (f k)) f 0) (W3.alloc (.cells #[.bool false,.slice (some ⟨g2,0,none⟩) 8 8] 121))):=by unfold Hid;rw[LW];exact HW
 clear hR hS h1 h2 HW a3 kb h3;go_enter func151,ntmps151;go_upto_region 1 with fail;try rw[hW]
 obtain⟨k4,e4⟩:∃k,k=w.heap.size:=⟨_,rfl⟩;obtain⟨k5,e5⟩:∃k,k=w.heap.size+1:=⟨_,rfl⟩;obtain⟨k6,e6⟩:∃k,k=w.heap.size+1+1:=⟨_,rfl⟩;rw[<-e6,<-e5,<-e4];rw[<-e6,<-e5,<-e4]at H;rw[<-e4]at a1;rw[<-e5]at a2;obtain⟨x0,x1,_,_,_⟩:=aH a1;obtain⟨y0,y1,_,_,_⟩:=aH a2;clear hW e4 e5 e6 a1 a2;go_upto_region 4 with fail;generalize W3.alloc (.cells #[.bool false,.slice (some ⟨g2,0,none⟩) 8 8] 121)=W at *
 generalize W3.heap.size=k7 at *;clear x0 x1 y0 y1 m1;go_wp2_with fail
 go_loopw [8] (fun v8 wr=>∃j:Nat,j<=8/\v8=.int .i64 j/\Hid (kZ C F l w k4 k5 k6 k7 g1 g2 e f (upto (fun k=>bK l (e k) (f k)) f j) wr)) (fun v8 _=>8 - (intOf v8).toNat)
 case atStart=>exact⟨0,Nat.zero_le _,rfl,H⟩
 case round =>
  obtain⟨j,hj,rfl,hq⟩:=hrel;clear H;by_cases kB:j<8
  ·have uq:((j:Nat):Int)<8:=by omega
   obtain⟨J2,HJ⟩:∃J2,Hid (J2=j*2):=⟨_,rfl⟩;obtain⟨x,hx⟩:∃x,x=e ⟨j,kB⟩:=⟨_,rfl⟩;obtain⟨y,hy⟩:∃y,y=f ⟨j,kB⟩:=⟨_,rfl⟩;have HN:Hid (ph (upto (fun k=>bK l (e k) (f k)) f j) j (bK l x y)=upto (fun k=>bK l (e k) (f k)) f (j+1)):=by unfold Hid;rw[hx,hy];exact yX (fun k=>bK l (e k) (f k)) f j kB
   have uW:Hid (∀W:Wd,(∃h,kZ C F l w k4 k5 k6 k7 g1 g2 e f h W)->W.cell? ⟨g1,J2,none⟩=some (.int .i64 x.a)/\W.cell? ⟨g1,J2+1,none⟩=some (.int .i64 x.b)/\W.cell? ⟨g2,J2,none⟩=some (.int .i64 y.a)/\W.cell? ⟨g2,J2+1,none⟩=some (.int .i64 y.b)/\W.cell? ⟨k4,1,none⟩=some (.slice (some ⟨g1,0,none⟩) 8 8)/\W.cell? ⟨k5,1,none⟩=some (.slice (some ⟨g2,0,none⟩) 8 8)):=fun W ⟨h,hW⟩=>by obtain⟨a1,a2⟩:=kQ e j kB;obtain⟨a3,a4⟩:=kQ f j kB;rw[HJ.out,hx,hy];exact⟨cell_of hW.e1 _ a1,cell_of hW.e1 _ a2,cell_of hW.e2 _ a3,cell_of hW.e2 _ a4,cell_of hW.x 1 rfl,cell_of hW.y 1 rfl⟩
   clear hx hy;generalize upto (fun k=>bK l (e k) (f k)) f j=hh at *;obtain⟨p1,p2,p3,p4,p5,p6⟩:=uW.out wr ⟨_,hq.out⟩;rw[HJ.out]at p1 p2 p3 p4;have hX:=hq.call (below_alloc1 wr (.cells #[.int .i64 x.a,.int .i64 x.b] 191));have h9:=heap_alloc_new wr (.cells #[.int .i64 x.a,.int .i64 x.b] 191);have Wu:=hid hq.b.size;go_upto_region 8 with fail;generalize wr.alloc (.cells #[.int .i64 x.a,.int .i64 x.b] 191)=X at *
   generalize wr.heap.size=k9 at *;have HV:Hid (kZ C F l w k4 k5 k6 k7 g1 g2 e f hh X/\X.heap[k9]?=some (.cells #[.int .i64 x.a,.int .i64 x.b] 191)):=⟨hX,h9⟩;clear p1 p2 p3 p4 p5 p6 hX h9 hq;have HS:Hid (∀n (W:Wd),kZ C F l w k4 k5 k6 k7 g1 g2 e f hh W->(Calls prog 192 #[.pointer (some ⟨C.b,0,none⟩),.int .i64 n,.bool false] W fun r w'=>r=.returned (.int .i64 (cd l n))/\w'=W)/\Calls prog 192 #[.pointer (some ⟨C.b,0,none⟩),.int .i64 n,.bool true] W fun r w'=>r=.returned (.int .i64 (br l n))/\w'=W):=fun n W h=>⟨Jj C l F n W h.ra h.st,PM C l F n W h.ra h.st⟩
   have Rq:Hid (∀(v:T) (g:Nat) (W:Wd),W.heap[g]?=some (.cells (gF hh) 191)->Calls prog 106 #[.agg #[.bool false,.slice (some ⟨g,0,none⟩) 8 8],.int .i64 (j:Nat),.agg #[.int .i64 (pA v),.int .i64 (pB v)]] W fun r w'=>∃u,r=.returned u/\dL w' u (some (ph hh j v))/\Below W.heap.size W w'):=fun v g W h=>mX g hh j kB v W h
   obtain⟨va,hva⟩:∃va,va=(bK l x y).a:=⟨_,rfl⟩;obtain⟨vb,Bc⟩:∃vb,vb=(bK l x y).b:=⟨_,rfl⟩;have Wo:Hid (bK l x y=⟨va,vb⟩):=by unfold Hid;rw[hva,Bc]
   rw[Wo.out]at HN;clear Wo;have HA:Hid (∀n,kZ C F l w k4 k5 k6 k7 g1 g2 e f hh (X.drewN n)/\(X.drewN n).heap[k9]?=some (.cells #[.int .i64 x.a,.int .i64 x.b] 191)):=fun n=>⟨HV.1.call (ow _ _),HV.2⟩
   by_cases h1:y.a<x.a
   case' pos =>
    have e1:va=cd l y.a:=hva.trans (if_pos h1);obtain⟨p1,p2,p3,p4,p5,p6⟩:=uW.out X ⟨_,HV.1⟩;obtain⟨q0,q1,mv,mu,_⟩:=aH HV.2;rw[HJ.out]at p3;have HE1:=hid e1.symm;clear e1 p1 p2 p4 p5 hva HV;go_quiet (fail);obtain⟨ha,hb⟩:=HA.out nq;generalize X.drewN nq=Z at *;clear q0 q1 mv mu HA;have zk:Hid (Calls _ _ _ _ _):=(HS.out y.a Z ha).1;rw[HE1.out]at zk;obtain⟨p1,p2,p3,p4,p5,p6⟩:=uW.out Z ⟨_,ha⟩;obtain⟨q0,q1,mv,mu,_⟩:=aH hb;rw[HJ.out]at p3;have HB:=hid (And.intro (ha.own hb Wu.out 0 (.int .i64 va)) (ai hb 0 (.int .i64 va)));clear ha hb p1 p2 p4 p5;go_wp2_with fail;refine zk.mono ?_;rintro r w2⟨rfl,rfl⟩;go_upto_region 10 with fail;have HC:Hid (kZ C F l w k4 k5 k6 k7 g1 g2 e f hh (w2.setCell ⟨k9,0,none⟩ (.int .i64 va))/\(w2.setCell ⟨k9,0,none⟩ (.int .i64 va)).heap[k9]?=some (.cells #[.int .i64 va,.int .i64 x.b] 191)):=HB.out
    generalize w2.setCell ⟨k9,0,none⟩ (.int .i64 va)=Y at *;clear HB zk q0 q1 mv mu p3 p6
   case' neg =>
    have E1:Hid (va=x.a):=hva.trans (if_neg h1);obtain⟨p1,p2,p3,p4,p5,p6⟩:=uW.out X ⟨_,HV.1⟩;obtain⟨q0,q1,mv,mu,_⟩:=aH HV.2;rw[HJ.out]at p3;clear p1 p2 p4 p5 hva HV;go_quiet (fail);have HC:=hid (HA.out nq);rw[<-E1.out]at HC;go_upto_region 10 with fail;generalize X.drewN nq=Y at *
    clear q0 q1 mv mu HA p3 p6
   all_goals
    have HA:Hid (∀n,kZ C F l w k4 k5 k6 k7 g1 g2 e f hh (Y.drewN n)/\(Y.drewN n).heap[k9]?=some (.cells #[.int .i64 va,.int .i64 x.b] 191)):=fun n=>⟨HC.1.call (ow _ _),HC.2⟩
    by_cases h2:x.b<y.b
    case' pos =>
     have e1:vb=br l y.b:=Bc.trans (if_pos h2);obtain⟨p1,p2,p3,p4,p5,p6⟩:=uW.out Y ⟨_,HC.1⟩;obtain⟨q0,q1,mv,mu,_⟩:=aH HC.2;rw[HJ.out]at p4;have HE1:=hid e1.symm;clear e1 p1 p2 p3 p5 Bc HC;go_quiet (fail);obtain⟨ha,hb⟩:=HA.out nq;generalize Y.drewN nq=Z at *;clear q0 q1 mv mu HA;have zk:Hid (Calls _ _ _ _ _):=(HS.out y.b Z ha).2;rw[HE1.out]at zk;obtain⟨p1,p2,p3,p4,p5,p6⟩:=uW.out Z ⟨_,ha⟩;obtain⟨q0,q1,mv,mu,_⟩:=aH hb;rw[HJ.out]at p4;have HB:=hid (And.intro (ha.own hb Wu.out 1 (.int .i64 vb)) (ai hb 1 (.int .i64 vb)));clear ha hb p1 p2 p3 p5;go_wp2_with fail;refine zk.mono ?_;rintro r w2⟨rfl,rfl⟩;go_upto_region 12 with fail;have HD:Hid (kZ C F l w k4 k5 k6 k7 g1 g2 e f hh (w2.setCell ⟨k9,1,none⟩ (.int .i64 vb))/\(w2.setCell ⟨k9,1,none⟩ (.int .i64 vb)).heap[k9]?=some (.cells #[.int .i64 va,.int .i64 vb] 191)):=HB.out
     generalize w2.setCell ⟨k9,1,none⟩ (.int .i64 vb)=Q at *;clear HB zk q0 q1 mv mu p4 p6
    case' neg =>
     have E1:Hid (vb=x.b):=Bc.trans (if_neg h2);obtain⟨p1,p2,p3,p4,p5,p6⟩:=uW.out Y ⟨_,HC.1⟩;obtain⟨q0,q1,mv,mu,_⟩:=aH HC.2;rw[HJ.out]at p4;clear p1 p2 p3 p5 Bc HC;go_quiet (fail);have HD:=hid (HA.out nq);rw[<-E1.out]at HD;go_upto_region 12 with fail;generalize Y.drewN nq=Q at *
     clear q0 q1 mv mu HA p4 p6
   all_goals
    obtain⟨g,o1,o2⟩:=HD.1.o;obtain⟨s0,s1,_,_,_⟩:=aH o1;obtain⟨q0,q1,_,_,_⟩:=aH HD.2;have Xh:=hid (Rq.out ⟨va,vb⟩ g Q o2);clear o1 o2 HS uW Rq;go_wp2_with fail;refine Xh.mono ?_;rintro r w3⟨u,rfl,hu,b3⟩;obtain⟨gn,rfl,Wn⟩:=hu;have h3:=HD.1.call b3;obtain⟨g',o1,o2⟩:=h3.o;obtain⟨z0,z1,DT,DY,_⟩:=aH o1;have HF:=hid (h3.put Wn);rw[HN.out]at HF;clear s0 s1 q0 q1 Xh HD h3 Wn o1 o2 b3;go_wp2_with fail;exact⟨⟨j+1,by omega,by go_num,HF⟩,by simp[intOf];omega⟩
  ·obtain rfl:j=8:=by omega
   have h9:=hq.out;rw[Lk]at h9;obtain⟨g,o1,o2⟩:=h9.o;have c0:=cell_of o1 0 (v:=.bool false) rfl;have c1:=cell_of o1 1 (v:=.slice (some ⟨g,0,none⟩) 8 8) rfl;obtain⟨z0,z1,DT,DY,mq⟩:=aH h9.r;have MQ:=hid (mq (.bool false) (.slice (some ⟨g,0,none⟩) 8 8));have HT:=hid (And.intro ((show dL wr (.agg #[.bool false,.slice (some ⟨g,0,none⟩) 8 8]) (some (fun k=>bK l (e k) (f k))) from⟨g,rfl,o2⟩).put h9.r (.bool false) (.slice (some ⟨g,0,none⟩) 8 8)) ((h9.b.setCell (p:=⟨k6,0,none⟩) h9.l6 (.bool false)).setCell (p:=⟨k6,1,none⟩) h9.l6 (.slice (some ⟨g,0,none⟩) 8 8)));clear mq h9 o1 o2 hq;go_wp2_with fail;exact bodyPost_ret (v:=.agg #[.bool false,.slice (some ⟨g,0,none⟩) 8 8]) (by simp[results,results151,go_sem,MQ.1,MQ.2]) rfl ⟨_,rfl,HT.1,HT.2⟩
end
end RI
section
namespace RI
def yL(C:Rc)(π:bO)(g cap:Nat)(ns:List aJ)(ka:Nat)(cond:iZ):Prop:=∀(F:jB) (s:dB) (sv:Value) (rec:Bool) (w:Wd),bx C F w->dq C.pb g cap ns w->eK s->dL w sv s->WI.df rec F (cond s).1 ->
 Calls prog 108 #[.pointer (some ⟨C.b,0,none⟩),.int .i64 (ka:Nat),sv,.bool rec] w fun r w'=>∃v1 v2,r=.returned (.tuple #[v1,v2])/\bx C (WI.told π rec F (cond s).1) w'/\RK C w w'/\dL w' v1 (cond s).2.1/\dL w' v2 (cond s).2.2
def qR(C:Rc)(π:bO)(g cap:Nat)(ns:List aJ)(l:List Int)(kb:Int)(body:jb):Prop:=∀(F:jB) (s:dB) (sv:Value) (rec:Bool) (w:Wd),bx C F w->gH C l w->dq C.pb g cap ns w->eK s->dL w sv s->WI.df rec F (body s).1 ->
 Calls prog 76 #[.pointer (some ⟨C.b,0,none⟩),.int .i64 kb,sv,.bool rec] w fun r w'=>∃v,r=.returned v/\bx C (WI.told π rec F (body s).1) w'/\RK C w w'/\dL w' v (body s).2
section
variable {C : Rc}{π : bO}{g cap : Nat}{ns : List aJ}{l : List Int}{w : Wd}{k8 : Nat}{o : List (Nat × Obj)}{F : jB}{m : List (Nat × dB)}{W : Wd}
section
variable{s t u:dB}
variable{a a':Option Addr}
variable{n c n' c' ka:Nat}
variable{rec:Bool}
theorem bE.box(h:bE C g cap ns l w k8 o F m W)(k:Nat)(s:dB)(hx:(k,s)∈m):∃a n c,W.cell? ⟨k,0,none⟩=some (.bool s.isNone)/\W.cell? ⟨k,1,none⟩=some (.slice a n c)/\W.frozen? ⟨k,0,none⟩=false/\W.frozen? ⟨k,1,none⟩=false/\dL W (.agg #[.bool s.isNone,.slice a n c]) s/\eK s:=by obtain⟨_,_,ws,a,n,c,hb,hs⟩:=h.st (k,s) hx;obtain⟨s0,s1,f0,f1,_⟩:=aH hb;exact⟨a,n,c,s0,s1,f0,f1,hs,ws⟩
theorem bE.node(h:bE C g cap ns l w k8 o F m W)(k:Nat)(d:aJ)(hx:(k,.cells (pz d) 176)∈o):W.heap[k]?=some (.cells (pz d) 176):=(h.ob _ hx).2.1
theorem bE.JZ(G:Gd C g)(h:bE C g cap ns l w k8 o F m W)(hs:dL W (.agg #[.bool s.isNone,.slice a n c]) s)(ws:eK s)(ht:dL W (.agg #[.bool t.isNone,.slice a' n' c']) t)(wt:eK t) :
  bE C g cap ns l w k8 o F ((W.heap.size+1,t) :: (W.heap.size,s) :: m) ((W.alloc (.cells #[.bool s.isNone,.slice a n c] 121)).alloc (.cells #[.bool t.isNone,.slice a' n' c'] 121)):=by
 have h1:=(h.new G hs ws).new G (ht.below (below_alloc1 W (.cells #[.bool s.isNone,.slice a n c] 121))) wt;rw[show(W.alloc (.cells #[.bool s.isNone,.slice a n c] 121)).heap.size=W.heap.size+1 by simp]at h1;exact h1
theorem o9(π:bO)(G:Gd C g)(h:bE C g cap ns l w k8 o F m W)(p:Int)(hs:dL W (.agg #[.bool s.isNone,.slice a n c]) s)(ws:eK s)(hr:WI.df rec F (sV p s)) :
  Calls prog 77 #[.pointer (some ⟨C.b,0,none⟩),.int .i64 p,.agg #[.bool s.isNone,.slice a n c],.bool rec] W fun r w'=>r=.returned (.tuple #[])/\bE C g cap ns l w k8 o (WI.told π rec F (sV p s)) m w' :=
 (uY π C F p s _ rec W h.ra hs ws hr).mono fun _ _ ⟨h1,h2,h3⟩=>⟨h1,h.step G h2 h3⟩
theorem yL.go{cond:iZ}(hA:yL C π g cap ns ka cond)(G:Gd C g)(h:bE C g cap ns l w k8 o F m W){yes no:dB}{te:lV}(hc:cond s=(te,yes,no))(hs:dL W (.agg #[.bool s.isNone,.slice a n c]) s)(ws:eK s)(hr:WI.df rec F te) :
  Calls prog 108 #[.pointer (some ⟨C.b,0,none⟩),.int .i64 (ka:Nat),.agg #[.bool s.isNone,.slice a n c],.bool rec] W fun r w'=>∃a1 n1 c1 a2 n2 c2,r=.returned (.tuple #[.agg #[.bool yes.isNone,.slice a1 n1 c1],.agg #[.bool no.isNone,.slice a2 n2 c2]])/\bE C g cap ns l w k8 o (WI.told π rec F te) m w'/\dL w' (.agg #[.bool yes.isNone,.slice a1 n1 c1]) yes/\dL w' (.agg #[.bool no.isNone,.slice a2 n2 c2]) no:=by
 have q:=hA F s _ rec W h.ra h.look ws hs (by rw[hc];exact hr);rw[hc]at q;refine q.mono ?_;rintro r w'⟨v1,v2,rfl,h1,h2,h3,h4⟩;have xx:dL w' v1 yes:=h3;have h4':dL w' v2 no:=h4;obtain⟨a1,n1,c1,rfl⟩:=xx.form;obtain⟨a2,n2,c2,rfl⟩:=h4'.form;exact⟨a1,n1,c1,a2,n2,c2,rfl,h.step G h1 h2,xx,h4'⟩
theorem qR.go{kb:Int}{body:jb}(hA:qR C π g cap ns l kb body)(G:Gd C g)(h:bE C g cap ns l w k8 o F m W){te:lV}(hc:body s=(te,t))(hs:dL W (.agg #[.bool s.isNone,.slice a n c]) s)(ws:eK s)(hr:WI.df rec F te) :
  Calls prog 76 #[.pointer (some ⟨C.b,0,none⟩),.int .i64 kb,.agg #[.bool s.isNone,.slice a n c],.bool rec] W fun r w'=>∃a1 n1 c1,r=.returned (.agg #[.bool t.isNone,.slice a1 n1 c1])/\bE C g cap ns l w k8 o (WI.told π rec F te) m w'/\dL w' (.agg #[.bool t.isNone,.slice a1 n1 c1]) t:=by
 have q:=hA F s _ rec W h.ra h.uG h.look ws hs (by rw[hc];exact hr);rw[hc]at q;refine q.mono ?_;rintro r w'⟨v1,rfl,h1,h2,h3⟩;have xx:dL w' v1 t:=h3;obtain⟨a1,n1,c1,rfl⟩:=xx.form;exact⟨a1,n1,c1,rfl,h.step G h1 h2,xx⟩
theorem oY(G:Gd C g)(h:bE C g cap ns l w k8 o F m W)(hu:uw s t=u)(hs:dL W (.agg #[.bool s.isNone,.slice a n c]) s)(ws:eK s)(ht:dL W (.agg #[.bool t.isNone,.slice a' n' c']) t)(wt:eK t) :
  Calls prog 110 #[.pointer (some ⟨C.b,0,none⟩),.agg #[.bool s.isNone,.slice a n c],.agg #[.bool t.isNone,.slice a' n' c']] W fun r w'=>∃a1 n1 c1,r=.returned (.agg #[.bool u.isNone,.slice a1 n1 c1])/\bE C g cap ns l w k8 o F m w'/\dL w' (.agg #[.bool u.isNone,.slice a1 n1 c1]) u:=by
 refine(wR C.b W h.ra.cells.1 hs ht ws wt).mono ?_;rintro r w'⟨v,rfl,h1,h2⟩;rw[hu]at h1;obtain⟨a1,n1,c1,rfl⟩:=h1.form;exact⟨a1,n1,c1,rfl,h.call G h2,h1⟩
theorem Pt(G:Gd C g)(h:bE C g cap ns l w k8 o F m W)(hs:dL W (.agg #[.bool s.isNone,.slice a n c]) s)(ht:dL W (.agg #[.bool t.isNone,.slice a' n' c']) t) :
  Calls prog 150 #[.agg #[.bool s.isNone,.slice a n c],.agg #[.bool t.isNone,.slice a' n' c']] W fun r w'=>r=.returned (.bool (PW s t))/\bE C g cap ns l w k8 o F m w' :=
 (p9 W hs ht).mono fun _ _ ⟨h1,h2⟩=>⟨h1,h.call G h2⟩
theorem Mg(G:Gd C g)(h:bE C g cap ns l w k8 o F m W){e f:dt}(hs:dL W (.agg #[.bool (some e:dB).isNone,.slice a n c]) (some e))(ht:dL W (.agg #[.bool (some f:dB).isNone,.slice a' n' c']) (some f))(hu:u=some fun k=>bK l (e k) (f k)) :
  Calls prog 151 #[.pointer (some ⟨C.b,0,none⟩),.agg #[.bool (some e:dB).isNone,.slice a n c],.agg #[.bool (some f:dB).isNone,.slice a' n' c']] W fun r w'=>∃a1 n1 c1,r=.returned (.agg #[.bool u.isNone,.slice a1 n1 c1])/\bE C g cap ns l w k8 o F m w'/\dL w' (.agg #[.bool u.isNone,.slice a1 n1 c1]) u:=by
 obtain⟨g1,e1,e2⟩:=hs;obtain⟨g2,f1,f2⟩:=ht;rw[e1,f1];refine(lk C F l g1 g2 e f W h.ra h.uG e2 f2).mono ?_;rintro r w'⟨v,rfl,h1,h2⟩;rw[<-hu]at h1;obtain⟨a1,n1,c1,rfl⟩:=h1.form;exact⟨a1,n1,c1,rfl,h.call G h2,h1⟩
theorem Ia(G:Gd C g)(h:bE C g cap ns l w k8 o F m W){e f:dt}(hs:dL W (.agg #[.bool (some e:dB).isNone,.slice a n c]) (some e))(ht:dL W (.agg #[.bool (some f:dB).isNone,.slice a' n' c']) (some f))(hu:u=some fun k=>dG (e k) (f k)) :
  Calls prog 152 #[.pointer (some ⟨C.b,0,none⟩),.agg #[.bool (some e:dB).isNone,.slice a n c],.agg #[.bool (some f:dB).isNone,.slice a' n' c']] W fun r w'=>∃a1 n1 c1,r=.returned (.agg #[.bool u.isNone,.slice a1 n1 c1])/\bE C g cap ns l w k8 o F m w'/\dL w' (.agg #[.bool u.isNone,.slice a1 n1 c1]) u:=by
 obtain⟨g1,e1,e2⟩:=hs;obtain⟨g2,f1,f2⟩:=ht;rw[e1,f1];refine(wV C F l g1 g2 e f W h.ra h.uG e2 f2).mono ?_;rintro r w'⟨v,rfl,h1,h2⟩;rw[<-hu]at h1;obtain⟨a1,n1,c1,rfl⟩:=h1.form;exact⟨a1,n1,c1,rfl,h.call G h2,h1⟩
theorem Eg(G:Gd C g)(h:bE C g cap ns l w k8 o F m W)(Q5:s=none)(hu:u=none)(hs:dL W (.agg #[.bool s.isNone,.slice a n c]) s) :
  Calls prog 152 #[.pointer (some ⟨C.b,0,none⟩),.agg #[.bool s.isNone,.slice a n c],.agg #[.bool t.isNone,.slice a' n' c']] W fun r w'=>∃a1 n1 c1,r=.returned (.agg #[.bool u.isNone,.slice a1 n1 c1])/\bE C g cap ns l w k8 o F m w'/\dL w' (.agg #[.bool u.isNone,.slice a1 n1 c1]) u:=by
 subst Q5 hu;have e:Value.agg #[.bool (none:dB).isNone,.slice a n c]=.agg #[.bool true,.slice none 0 0]:=hs;rw[e];refine(xZ C.b a' n' c' t.isNone W).mono ?_;rintro r w'⟨rfl,h2⟩;exact⟨none,0,0,rfl,h.call G h2,rfl⟩
end
end
end RI
end
namespace RI
theorem jU(π:bO)(l:List Int)(hπ:π=[-32768,32767] ++ l){C:Rc}{g cap:Nat}{ns:List aJ}(G:Gd C g)(hP:C.ao<=4/\C.narrow<=3/\C.aj<=3)(d:aJ){ka:Nat}(ha:d.a=(ka:Int)){cond:iZ}{body:jb}(hA:yL C π g cap ns ka cond)(hB:qR C π g cap ns l d.b body)(R:JK π cond body)
  (F:jB) (s:dB) (v:Value) (rec:Bool) (w:Wd) (hR:bx C F w) (hS:gH C l w) (hL:dq C.pb g cap ns w) (ws:eK s) (hv:dL w v s) (hr:WI.df rec F (rA π C cond body d.aA s).1) :
  Calls prog 111 #[.pointer (some ⟨C.b,0,none⟩),.agg (pz d),v,.bool rec] w fun r w'=>∃v',r=.returned v'/\bx C (WI.told π rec F (rA π C cond body d.aA s).1) w'/\RK C w w'/\dL w' v' (rA π C cond body d.aA s).2:=by
 obtain⟨va,vn,vc,rfl⟩:=hv.form;have HW:=Ph (l:=l) G hR hS hL d hv ws;obtain⟨W,hW⟩:∃W,((w.alloc (.cells (pz d) 176)).alloc (.cells #[.bool s.isNone,.slice va vn vc] 121)).alloc (.cells #[.bool false,.slice none 0 0] 121)=W:=⟨_,rfl⟩;rw[hW]at HW;have H:=hid HW;have HG:=hid G;have HA:=hid hA;have HB:=hid hB;have HR:=hid R;have Yn:=hid ha;have ZD:=hid hπ;obtain⟨U,hU⟩:∃U,Vb π cond body d.aA C.aj s=U:=⟨_,rfl⟩;have HU:=hid hU;have hU0:=Jn.start π cond body d.aA C.aj ws;rw[hU]at hU0;have HU0:=hid hU0;have Hu:=hid hr;have HRU:Hid (WI.df rec F U.1):=by have q:=Ax π C cond body d.aA s (ej:=U.1) (oj:=U.2.1) (sj:=U.2.2) hU rfl;rw[q]at hr;exact WI.df.left (WI.df.left (WI.df.left hr))
 obtain⟨p1,p2,p3⟩:=hP;have p1':((C.ao:Nat):Int)<=4:=by omega
 have p2':((C.narrow:Nat):Int)<=3:=by omega
 have p3':((C.aj:Nat):Int)<=3:=by omega
 unfold pz at hW;unfold pz;clear hR hS hL HW hA hB R ha hπ hU hU0 hr G ws hv;go_enter func111,ntmps111;go_upto_region 1 with fail;try rw[hW]
 obtain⟨k5,e5⟩:∃k,k=w.heap.size:=⟨_,rfl⟩;obtain⟨k6,e6⟩:∃k,k=w.heap.size+1:=⟨_,rfl⟩;obtain⟨k8,e8⟩:∃k,k=w.heap.size+1+1:=⟨_,rfl⟩;rw[<-e8,<-e6,<-e5];rw[<-e8,<-e6,<-e5]at H;clear hW e5 e6 e8;go_wp2_with fail;refine(fl _).mono ?_;rintro r w1⟨rfl,b1⟩;have h1:=(H.call HG.out b1).new HG.out (s:=none) (a:=none) (n:=0) (c:=0) rfl (fun _ q=>by cases q);have H1:Hid (bE C g cap ns l w k8 _ F [(w1.heap.size,none),(k6,s)] (w1.alloc (.cells #[.bool true,.slice none 0 0] 121))):=h1;clear h1 b1 H;go_upto_region 2 with fail;generalize w1.alloc (.cells #[.bool true,.slice none 0 0] 121)=W1 at *
 generalize w1.heap.size=k9 at *;go_wp2_with fail
 go_loopw [10] (fun v10 wr=>∃(j:Nat) (ej:lV) (oj sj:dB),j<=C.aj/\v10=.int .i64 j/\Hid (Jn π cond body d.aA U (C.aj - j) ej oj sj)/\Hid (bE C g cap ns l w k8 [(k5,.cells (pz d) 176)] (WI.told π rec F ej) [(k9,oj),(k6,sj)] wr)) (fun v10 _=>C.aj - (intOf v10).toNat)
 case atStart=>exact⟨0,[],none,s,Nat.zero_le _,rfl,HU0,by unfold Hid;rw[WI.ep];exact H1.out⟩
 case round =>
  obtain⟨j,ej,oj,sj,hj,rfl,FO,hq⟩:=hrel;clear H1 HU0;have m4:=cell_of hq.ra.aV 4 (v:=.int .i64 (C.aj:Nat)) rfl;by_cases hju:j<C.aj
  ·have uq:((j:Nat):Int)<((C.aj:Nat):Int):=by omega
   obtain⟨m,hm⟩:∃m,C.aj - j=m+1:=⟨C.aj - j - 1,by omega⟩;rw[hm]at FO;have kg:C.aj - (j+1)=m:=by omega
   obtain⟨te,yes,no,hco⟩:∃te yes no,cond sj=(te,yes,no):=⟨_,_,_,rfl⟩;obtain⟨tb,sb,hbo⟩:∃tb sb,body yes=(tb,sb):=⟨_,_,rfl⟩;obtain⟨on,A7⟩:∃on,uw oj no=on:=⟨_,rfl⟩;have ui:=HR.c FO.wf.2;have rr:=FO.Zc HRU.out;have kC:=FO.on HR.out;rw[hco]at ui rr kC;simp only at ui rr kC;have Bi:=HR.b ui.1;rw[hbo]at rr kC Bi;simp only at rr kC Bi;rw[A7]at kC;have T8:=oD FO.wf.1 ui.2;rw[A7]at T8;have jq:Hid (eK yes/\eK no/\eK sb/\eK on/\eK oj):=⟨ui.1,ui.2,Bi,T8,FO.wf.1⟩;have qK:=hid rr;have J9:=hid kC;have DO:=hid hco;have Qd:=hid hbo;have FU:=hid A7;clear ui rr kC Bi T8 FO hco hbo A7
   -- come
   have hn:=hq.node k5 d (List.mem_cons_self ..);have n8:=cell_of hn 8 (v:=.int .i64 d.aA) rfl;obtain⟨sa,sn,sc,s0,s1,_,_,ju,qN⟩:=hq.box k6 sj (by simp);have HC:=hid (o9 π HG.out hq.out d.aA ju qN qK.1);clear hn ju;go_wp2_with fail;refine HC.mono ?_;rintro r w2⟨rfl,h2⟩;have H2:Hid (bE _ _ _ _ _ _ _ _ _ _ w2):=h2;clear h2 HC n8 s0 s1 hq m4
   -- ask
   have hn:=H2.node k5 d (List.mem_cons_self ..);have n1:=cell_of hn 1 (v:=.int .i64 (ka:Nat)) (by rw[<-Yn.out];rfl);obtain⟨ta,tn,tc,s0,s1,_,_,ju,_⟩:=H2.box k6 sj (by simp);have HC:=hid (HA.go HG.out H2.out DO.out ju qN qK.2.1);clear hn ju;go_wp2_with fail;refine HC.mono ?_;rintro r w3⟨a1,b1,c1,a2,b2,c2,rfl,h3,hy,hn⟩;have H4:=hid (h3.JZ HG.out hy jq.1 hn jq.2.1);clear h3 hy hn HC n1 s0 s1 H2 qN;go_upto_region 7 with fail;generalize (w3.alloc (.cells #[.bool yes.isNone,.slice a1 b1 c1] 121)).alloc (.cells #[.bool no.isNone,.slice a2 b2 c2] 121)=w4 at *
   generalize w3.heap.size=uR at *
   -- join
   obtain⟨xa,xn,xc,s0,s1,f0,f1,Xn,_⟩:=H4.box k9 oj (by simp);obtain⟨ya,yn,yc,t0,t1,_,_,ht,_⟩:=H4.box (uR+1) no (by simp);have HC:=hid (oY HG.out H4.out FU.out Xn jq.2.2.2.2 ht jq.2.1);clear Xn ht;go_wp2_with fail;refine HC.mono ?_;rintro r w5⟨a3,b3,c3,rfl,h5,hu⟩;have h6:=(h5.dr.sw.put HG.out hu jq.2.2.2.1);obtain⟨xa,xn,xc,s0,s1,f0,f1,_,_⟩:=h5.box k9 oj (by simp);have H6:=hid h6;clear h5 h6 hu HC t0 t1 H4;go_upto_region 8 with fail;generalize (w5.setCell ⟨k9,0,none⟩ (.bool on.isNone)).setCell ⟨k9,1,none⟩ (.slice a3 b3 c3)=w6 at *
   clear s0 s1 f0 f1
   -- does
   have hn:=H6.node k5 d (List.mem_cons_self ..);have n2:=cell_of hn 2 (v:=.int .i64 d.b) rfl;obtain⟨ya,yn,yc,t0,t1,_,_,ht,_⟩:=H6.box uR yes (by simp);have HC:=hid (HB.go HG.out H6.out Qd.out ht jq.1 qK.2.2);clear hn ht;go_wp2_with fail;refine HC.mono ?_;rintro r w7⟨a4,b4,c4,rfl,h7,hu⟩;have h8:=h7.sw.dr.sw.put HG.out hu jq.2.2.1;obtain⟨xa,xn,xc,s0,s1,f0,f1,_,_⟩:=h7.box k6 sj (by simp);have H8:=hid h8.sw;clear h7 h8 hu HC t0 t1 n2 H6;go_wp2_with fail;refine⟨⟨j+1,ej ++ sV d.aA sj ++ te ++ tb,on,sb,by omega,by go_num,by rw[kg];exact J9,?_⟩,by simp[intOf];omega⟩;unfold Hid;rw[WI.aG,WI.aG,WI.aG];exact H8.out
  ·obtain rfl:j=C.aj:=by omega
   rw[Nat.sub_self]at FO;have aab:=FO.end;subst aab;have wfo:=FO.wf;have jq:=hid wfo;clear FO hju hj wfo HRU;obtain⟨sa,sn,sc,s0,s1,_,_,ju,qN⟩:=hq.box k6 sj (by simp);have h1:=hq.new HG.out ju qN;obtain⟨F0,hF0⟩:∃F0,WI.told π rec F ej=F0:=⟨_,rfl⟩;rw[hF0]at h1;have Yf:=hid hF0;have H1:=hid h1;clear ju h1 hF0;go_upto_region 10 with fail;generalize wr.alloc (.cells #[.bool sj.isNone,.slice sa sn sc] 121)=W2 at *
   generalize wr.heap.size=mo at *;clear m4 s0 s1 hq;obtain⟨Ux,hUx⟩:∃Ux,Lg π cond body sj C.ao=Ux:=⟨_,rfl⟩;have Tz:=Gp.start HR.out qN C.ao;rw[hUx]at Tz;have VW:=hid Tz;have Td:=JS.start HR.out C qN;rw[hUx]at Td;have Tx:=hid Td;have F9:=hid qN;clear Tz Td qN hUx;go_wp2_with fail
   go_loopw [14] (fun ZB wq=>∃(k f:Nat) (i:dB),ZB=.int .i64 k/\Hid (Gp π cond body sj C.ao Ux k f i)/\Hid (bE C g cap ns l w k8 [(k5,.cells (pz d) 176)] F0 [(mo,i),(k9,oj),(k6,sj)] wq)) (fun ZB _=>1100001 - (intOf ZB).toNat)
   case atStart=>exact⟨1,1100000,sj,rfl,VW,H1⟩
   case round =>
    obtain⟨k,f,i,rfl,VF,hq⟩:=hrel;clear H1 VW;obtain⟨te,yes,no,hco⟩:∃te yes no,cond i=(te,yes,no):=⟨_,_,_,rfl⟩;obtain⟨tb,sb,hbo⟩:∃tb sb,body yes=(tb,sb):=⟨_,_,rfl⟩;obtain⟨nx,eV⟩:∃nx,uw sj sb=nx:=⟨_,rfl⟩;obtain⟨jj,hjj⟩:∃jj,uw i nx=jj:=⟨_,rfl⟩;have wi:=VF.wf;have ui:=HR.c wi;rw[hco]at ui;simp only at ui;have Bi:=HR.b ui.1;rw[hbo]at Bi;simp only at Bi;have VC:Be cond body sj i=nx:=by unfold Be;rw[hco];show uw sj (body yes).2=nx;rw[hbo];exact eV
    have QV:=oD F9.out Bi;rw[eV]at QV;have Zi:=oD wi QV;rw[hjj]at Zi;have VM:=VF.sum;have jq:Hid (eK yes/\eK no/\eK sb/\eK nx/\eK jj/\eK i/\eK oj/\eK sj):=⟨ui.1,ui.2,Bi,QV,Zi,wi,jq.1,jq.2⟩;have Yc:Hid ((PW i jj=true->i=Ux)/\(PW i jj=false->∃(e n:dt) (f':Nat),i=some e/\(∀q,Wv (e q))/\jj=some n/\(∀q,Wv (n q))/\f=f'+1/\Gp π cond body sj C.ao Ux (k+1) f' (if C.ao<k then some fun q=>bK π (e q) (n q) else some n))):=by have q1:=VF.end;have q2:=VF.on HR.out F9.out;rw[VC,hjj]at q1 q2;exact⟨q1,q2⟩
    have DO:=hid hco;have Qd:=hid hbo;have jd:=hid eV;have HJJ:=hid hjj;clear ui Bi QV Zi wi VF hco hbo eV hjj VC
    -- ask
    have hn:=hq.node k5 d (List.mem_cons_self ..);have n1:=cell_of hn 1 (v:=.int .i64 (ka:Nat)) (by rw[<-Yn.out];rfl);obtain⟨ta,tn,tc,s0,s1,_,_,ju,_⟩:=hq.box mo i (by simp);have HC:=hid (HA.go HG.out hq.out DO.out ju jq.2.2.2.2.2.1 (WI.jH _ _));clear hn ju;go_wp2_with fail;refine HC.mono ?_;rintro r w3⟨a1,b1,c1,a2,b2,c2,rfl,h3,hy,hn⟩;have H4:Hid (bE C g cap ns l w k8 _ F0 _ _):=h3.JZ HG.out hy jq.1 hn jq.2.1;clear h3 hy hn HC n1 s0 s1 hq;go_upto_region 13 with fail;generalize (w3.alloc (.cells #[.bool yes.isNone,.slice a1 b1 c1] 121)).alloc (.cells #[.bool no.isNone,.slice a2 b2 c2] 121)=w4 at *
    generalize w3.heap.size=DN at *
    -- does
    have hn:=H4.node k5 d (List.mem_cons_self ..);have n2:=cell_of hn 2 (v:=.int .i64 d.b) rfl;obtain⟨ya,yn,yc,t0,t1,_,_,ht,_⟩:=H4.box DN yes (by simp);have HC:=hid (HB.go HG.out H4.out Qd.out ht jq.1 (WI.jH _ _));clear hn ht;go_wp2_with fail;refine HC.mono ?_;rintro r w5⟨a3,b3,c3,rfl,h5,hu⟩;have H5:Hid (bE C g cap ns l w k8 _ F0 _ _):=h5.dr.dr.new HG.out hu jq.2.2.1;clear h5 hu HC t0 t1 n2 H4;go_upto_region 14 with fail;generalize w5.alloc (.cells #[.bool sb.isNone,.slice a3 b3 c3] 121)=w6 at *
    generalize w5.heap.size=Wr at *
    -- next
    obtain⟨xa,xn,xc,s0,s1,_,_,hs,_⟩:=H5.box k6 sj (by simp);obtain⟨ya,yn,yc,t0,t1,_,_,ht,_⟩:=H5.box Wr sb (by simp);have HC:=hid (oY HG.out H5.out jd.out hs F9.out ht jq.2.2.1);clear hs ht;go_wp2_with fail;refine HC.mono ?_;rintro r w7⟨a4,b4,c4,rfl,h7,hu⟩;have H7:Hid (bE C g cap ns l w k8 _ F0 _ _):=h7.dr.new HG.out hu jq.2.2.2.1;clear h7 hu HC s0 s1 t0 t1 H5;go_upto_region 15 with fail;generalize w7.alloc (.cells #[.bool nx.isNone,.slice a4 b4 c4] 121)=w8 at *
    generalize w7.heap.size=DB at *
    -- j
    obtain⟨xa,xn,xc,s0,s1,_,_,hs,_⟩:=H7.box mo i (by simp);obtain⟨ya,yn,yc,t0,t1,_,_,ht,_⟩:=H7.box DB nx (by simp);have HC:=hid (oY HG.out H7.out HJJ.out hs jq.2.2.2.2.2.1 ht jq.2.2.2.1);clear hs ht;go_wp2_with fail;refine HC.mono ?_;rintro r w9⟨a5,b5,c5,rfl,h9,hu⟩;have H9:Hid (bE C g cap ns l w k8 _ F0 _ _):=h9.dr.new HG.out hu jq.2.2.2.2.1;clear h9 hu HC s0 s1 t0 t1 H7;go_upto_region 16 with fail;generalize w9.alloc (.cells #[.bool jj.isNone,.slice a5 b5 c5] 121)=w10 at *
    generalize w9.heap.size=YF at *
    -- same
    obtain⟨xa,xn,xc,s0,s1,_,_,hs,_⟩:=H9.box mo i (by simp);obtain⟨ya,yn,yc,t0,t1,_,_,ht,_⟩:=H9.box YF jj (by simp);have HC:=hid (Pt HG.out H9.out hs ht);clear hs ht;go_wp2_with fail;refine HC.mono ?_;rintro r w11⟨rfl,tK⟩;have Qk:=hid tK;clear tK HC s0 s1 t0 t1 H9;cases he:PW i jj with
    | false =>
     obtain⟨e,n,f',rfl,we,rfl,wn,hf,hW1⟩:=Yc.2 he;have Kj:=hid hW1;have m2:=cell_of Qk.ra.aV 2 (v:=.int .i64 (C.ao:Nat)) rfl;clear hW1 Yc he HJJ DO;obtain⟨xa,xn,xc,s0,s1,YB,XQ,hs,_⟩:=Qk.box mo (some e) (by simp);obtain⟨ya,yn,yc,t0,t1,_,_,ht,wt⟩:=Qk.box YF (some n) (by simp);by_cases hd:C.ao<k
     ·have Oa:¬ ((k:Nat):Int)<=((C.ao:Nat):Int):=by omega
      rw[if_pos hd]at Kj;obtain⟨u,hu⟩:∃u:dB,u=some fun q=>bK l (e q) (n q):=⟨_,rfl⟩
      have Oc:(some fun q=>bK π (e q) (n q):dB)=u:=by rw[hu,ZD.out];exact congrArg some (funext fun q=>Fx l (we q))
      rw[Oc]at Kj;have HC:=hid (Mg HG.out Qk.out hs ht hu);have N7:=hid Kj.wf;clear hs ht we wn wt hd hu Oc;go_wp2_with fail;refine HC.mono ?_;rintro r w12⟨a6,b6,c6,rfl,rR,hu⟩;have Zt:Hid (bE C g cap ns l w k8 _ F0 _ _):=rR.dr.put HG.out hu N7.out;clear s0 s1 YB XQ;obtain⟨xa,xn,xc,s0,s1,YB,XQ,_,_⟩:=rR.box mo (some e) (by simp);clear rR hu HC Qk t0 t1 m2;go_wp2_with fail;exact⟨⟨k+1,f',u,by go_num,Kj,Zt⟩,by simp[intOf];omega⟩
     ·have Oa:((k:Nat):Int)<=((C.ao:Nat):Int):=by omega
      rw[if_neg hd]at Kj;have Zt:Hid (bE C g cap ns l w k8 _ F0 _ _):=Qk.dr.put HG.out ht wt;clear hs ht we wn wt hd Qk;go_wp2_with fail;exact⟨⟨k+1,f',some n,by go_num,Kj,Zt⟩,by simp[intOf];omega⟩
    | true =>
     obtain rfl:=Yc.1 he;have H1:Hid (bE C g cap ns l w k8 _ F0 _ _):=Qk.dr;clear he Yc Qk jd HJJ DO Qd VM;obtain⟨Un,FO⟩:∃Un,FJ π C cond body sj=Un:=⟨_,rfl⟩;rw[FO]at Tx;have HUn:=hid FO;clear FO;go_wp2_with fail
     go_loopw [21] (fun v21 wp=>∃(j:Nat) (i:dB),j<=C.narrow/\v21=.int .i64 j/\Hid (JS π cond body sj Un (C.narrow - j) i)/\Hid (bE C g cap ns l w k8 [(k5,.cells (pz d) 176)] F0 [(mo,i),(k9,oj),(k6,sj)] wp)) (fun v21 _=>C.narrow - (intOf v21).toNat)
     case atStart=>exact⟨0,i,Nat.zero_le _,rfl,Tx,H1⟩
     case round =>
      obtain⟨j,i,hj,rfl,Ts,hq⟩:=hrel;clear H1 Tx;have m3:=cell_of hq.ra.aV 3 (v:=.int .i64 (C.narrow:Nat)) rfl;obtain⟨te,yes,no,hco⟩:∃te yes no,cond i=(te,yes,no):=⟨_,_,_,rfl⟩;obtain⟨tb,sb,hbo⟩:∃tb sb,body yes=(tb,sb):=⟨_,_,rfl⟩;have wi:=Ts.wf';have ui:=HR.c wi;rw[hco]at ui;simp only at ui;have Bi:=HR.b ui.1;rw[hbo]at Bi;simp only at Bi;by_cases Ro:j<C.narrow
      ·have uq:((j:Nat):Int)<((C.narrow:Nat):Int):=by omega
       obtain⟨m,hm⟩:∃m,C.narrow - j=m+1:=⟨C.narrow - j - 1,by omega⟩;rw[hm]at Ts;have kg:C.narrow - (j+1)=m:=by omega
       obtain⟨nx,eV⟩:∃nx,uw sj sb=nx:=⟨_,rfl⟩;have VC:Be cond body sj i=nx:=by unfold Be;rw[hco];show uw sj (body yes).2=nx;rw[hbo];exact eV
       have A7:=Ts.on HR.out F9.out;rw[VC]at A7;have FU:=hid A7;have QV:=oD F9.out Bi;rw[eV]at QV;have jq:Hid (eK yes/\eK no/\eK sb/\eK nx/\eK i/\eK oj/\eK sj):=⟨ui.1,ui.2,Bi,QV,wi,jq.2.2.2.2.2.2.1,F9.out⟩;have DO:=hid hco;have Qd:=hid hbo;have jd:=hid eV;clear ui Bi QV wi Ts hco hbo eV VC A7
       -- ask
       have hn:=hq.node k5 d (List.mem_cons_self ..);have n1:=cell_of hn 1 (v:=.int .i64 (ka:Nat)) (by rw[<-Yn.out];rfl);obtain⟨ta,tn,tc,s0,s1,_,_,ju,_⟩:=hq.box mo i (by simp);have HC:=hid (HA.go HG.out hq.out DO.out ju jq.2.2.2.2.1 (WI.jH _ _));clear hn ju;go_wp2_with fail;refine HC.mono ?_;rintro r w3⟨a1,b1,c1,a2,b2,c2,rfl,h3,hy,hn⟩;have H4:Hid (bE C g cap ns l w k8 _ F0 _ _):=h3.JZ HG.out hy jq.1 hn jq.2.1;clear h3 hy hn HC n1 s0 s1 hq m3;go_upto_region 25 with fail;generalize (w3.alloc (.cells #[.bool yes.isNone,.slice a1 b1 c1] 121)).alloc (.cells #[.bool no.isNone,.slice a2 b2 c2] 121)=w4 at *
       generalize w3.heap.size=DN at *
       -- does
       have hn:=H4.node k5 d (List.mem_cons_self ..);have n2:=cell_of hn 2 (v:=.int .i64 d.b) rfl;obtain⟨ya,yn,yc,t0,t1,_,_,ht,_⟩:=H4.box DN yes (by simp);have HC:=hid (HB.go HG.out H4.out Qd.out ht jq.1 (WI.jH _ _));clear hn ht;go_wp2_with fail;refine HC.mono ?_;rintro r w5⟨a3,b3,c3,rfl,h5,hu⟩;have H5:Hid (bE C g cap ns l w k8 _ F0 _ _):=h5.dr.dr.new HG.out hu jq.2.2.1;clear h5 hu HC t0 t1 n2 H4;go_upto_region 26 with fail;generalize w5.alloc (.cells #[.bool sb.isNone,.slice a3 b3 c3] 121)=w6 at *
       generalize w5.heap.size=Wr at *
       -- next
       obtain⟨xa,xn,xc,s0,s1,_,_,hs,_⟩:=H5.box k6 sj (by simp);obtain⟨ya,yn,yc,t0,t1,_,_,ht,_⟩:=H5.box Wr sb (by simp);have HC:=hid (oY HG.out H5.out jd.out hs F9.out ht jq.2.2.1);clear hs ht;go_wp2_with fail;refine HC.mono ?_;rintro r w7⟨a4,b4,c4,rfl,h7,hu⟩;have H7:Hid (bE C g cap ns l w k8 _ F0 _ _):=h7.dr.new HG.out hu jq.2.2.2.1;clear h7 hu HC s0 s1 t0 t1 H5;go_upto_region 27 with fail;generalize w7.alloc (.cells #[.bool nx.isNone,.slice a4 b4 c4] 121)=w8 at *
       generalize w7.heap.size=DB at *
       -- narrowed
       obtain⟨u,KD,Ui⟩:∃u:dB,Hid (JS π cond body sj Un m u)/\∀(a:Option Addr) (n c:Nat) (a':Option Addr) (n' c':Nat),dL w8 (.agg #[.bool i.isNone,.slice a n c]) i->dL w8 (.agg #[.bool nx.isNone,.slice a' n' c']) nx->Calls prog 152 #[.pointer (some ⟨C.b,0,none⟩),.agg #[.bool i.isNone,.slice a n c],.agg #[.bool nx.isNone,.slice a' n' c']] w8 fun r w'=>∃a1 n1 c1,r=.returned (.agg #[.bool u.isNone,.slice a1 n1 c1])/\bE C g cap ns l w k8 [(k5,.cells (pz d) 176)] F0 [(DB,nx),(mo,i),(k9,oj),(k6,sj)] w'/\dL w' (.agg #[.bool u.isNone,.slice a1 n1 c1]) u:=by
        rcases FU.out with⟨rfl,h⟩ | ⟨e,e',rfl,rfl,_,_,h⟩
        ·exact⟨none,h,fun a n c a' n' c' h1 h2=>Eg HG.out H7.out rfl rfl h1⟩
        ·exact⟨_,h,fun a n c a' n' c' h1 h2=>Ia HG.out H7.out h1 h2 rfl⟩
       obtain⟨xa,xn,xc,s0,s1,_,_,hs,_⟩:=H7.box mo i (by simp);obtain⟨ya,yn,yc,t0,t1,_,_,ht,_⟩:=H7.box DB nx (by simp);have HC:=hid (Ui _ _ _ _ _ _ hs ht);clear hs ht Ui FU jd DO Qd;go_wp2_with fail;refine HC.mono ?_;rintro r w9⟨a5,b5,c5,rfl,h9,hu⟩;have H9:Hid (bE C g cap ns l w k8 _ F0 _ _):=h9.dr.put HG.out hu KD.wf';clear s0 s1;obtain⟨xa,xn,xc,s0,s1,YB,XQ,_,_⟩:=h9.box mo i (by simp);clear h9 hu HC t0 t1 H7;go_wp2_with fail;exact⟨⟨j+1,u,by omega,by go_num,by rw[kg];exact KD,H9⟩,by simp[intOf];omega⟩
      ·obtain rfl:j=C.narrow:=by omega
       rw[Nat.sub_self]at Ts;obtain rfl:=Ts.end;obtain⟨on,A7⟩:∃on,uw oj no=on:=⟨_,rfl⟩;have TD:=Ax π C cond body d.aA s HU.out HUn.out;rw[hco]at TD;simp only at TD;rw[hbo,A7]at TD;simp only at TD;have hr:=Hu.out;rw[TD]at hr;have Wj:=hid TD;have r3:=WI.df.right (π:=π) hr;have r2:=WI.df.right (π:=π) (WI.df.left hr);have r1:=WI.df.right (π:=π) (WI.df.left (WI.df.left hr));rw[WI.aG,WI.aG,Yf.out]at r3;rw[WI.aG,Yf.out]at r2;rw[Yf.out]at r1;have qK:=hid (And.intro r1 (And.intro r2 r3));have T8:=oD jq.2.2.2.2.2.2.1 ui.2;rw[A7]at T8;have jq:Hid (eK yes/\eK no/\eK sb/\eK on/\eK i/\eK oj):=⟨ui.1,ui.2,Bi,T8,wi,jq.2.2.2.2.2.2.1⟩;have DO:=hid hco;have Qd:=hid hbo;have FU:=hid A7;clear r1 r2 r3 hr TD ui Bi T8 wi Ts hco hbo A7 Ro hj
       -- come
       have hn:=hq.node k5 d (List.mem_cons_self ..);have n8:=cell_of hn 8 (v:=.int .i64 d.aA) rfl;obtain⟨sa,sn,sc,s0,s1,_,_,ju,_⟩:=hq.box mo i (by simp);have HC:=hid (o9 π HG.out hq.out d.aA ju jq.2.2.2.2.1 qK.1);clear hn ju;go_wp2_with fail;refine HC.mono ?_;rintro r w2⟨rfl,h2⟩;have H2:Hid (bE _ _ _ _ _ _ _ _ _ _ w2):=h2;clear h2 HC n8 s0 s1 hq m3
       -- ask
       have hn:=H2.node k5 d (List.mem_cons_self ..);have n1:=cell_of hn 1 (v:=.int .i64 (ka:Nat)) (by rw[<-Yn.out];rfl);obtain⟨ta,tn,tc,s0,s1,_,_,ju,_⟩:=H2.box mo i (by simp);have HC:=hid (HA.go HG.out H2.out DO.out ju jq.2.2.2.2.1 qK.2.1);clear hn ju;go_wp2_with fail;refine HC.mono ?_;rintro r w3⟨a1,b1,c1,a2,b2,c2,rfl,h3,hy,hn⟩;have H4:=hid (h3.JZ HG.out hy jq.1 hn jq.2.1);clear h3 hy hn HC n1 s0 s1 H2;go_upto_region 30 with fail;generalize (w3.alloc (.cells #[.bool yes.isNone,.slice a1 b1 c1] 121)).alloc (.cells #[.bool no.isNone,.slice a2 b2 c2] 121)=w4 at *
       generalize w3.heap.size=YI at *
       -- does
       have hn:=H4.node k5 d (List.mem_cons_self ..);have n2:=cell_of hn 2 (v:=.int .i64 d.b) rfl;obtain⟨ya,yn,yc,t0,t1,_,_,ht,_⟩:=H4.box YI yes (by simp);have HC:=hid (HB.go HG.out H4.out Qd.out ht jq.1 qK.2.2);clear hn ht;go_wp2_with fail;refine HC.mono ?_;rintro r w5⟨a3,b3,c3,rfl,h5,_⟩;have H5:=hid h5;clear h5 HC t0 t1 n2 H4
       -- join
       obtain⟨xa,xn,xc,s0,s1,_,_,hs,_⟩:=H5.box k9 oj (by simp);obtain⟨ya,yn,yc,t0,t1,_,_,ht,_⟩:=H5.box (YI+1) no (by simp);have HC:=hid (oY HG.out H5.out FU.out hs jq.2.2.2.2.2 ht jq.2.1);clear hs ht;go_wp2_with fail;refine HC.mono ?_;rintro r w6⟨a4,b4,c4,rfl,h6,hu⟩;have HT:=hid (h6.ret hu);obtain⟨z0,z1,DT,DY,_⟩:=aH h6.res;clear h6 hu HC s0 s1 t0 t1 H5;go_wp2_with fail;refine bodyPost_ret (v:=.agg #[.bool on.isNone,.slice a4 b4 c4]) (by simp[results,results111,go_sem,HT.2.2.2.1,HT.2.2.2.2]) rfl ⟨_,rfl,?_,HT.2.1,?_⟩
       ·rw[Wj.out]
        simp only;rw[WI.aG,WI.aG,WI.aG,Yf.out];exact HT.1
       ·rw[Wj.out]
        exact HT.2.2.1
end RI
end Go.Proofs.YtiopfihjmkfdmaaGreatDoor
