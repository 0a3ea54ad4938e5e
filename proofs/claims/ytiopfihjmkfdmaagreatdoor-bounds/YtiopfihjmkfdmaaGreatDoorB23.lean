import Derived.Test.YtiopfihjmkfdmaaGreatDoorB15
import Derived.Test.YtiopfihjmkfdmaaGreatDoorB21
import Derived.Test.YtiopfihjmkfdmaaGreatDoorB22
import Derived.Laws.Alloc2
import Derived.Laws.IdiomCopy
namespace Go.Proofs.YtiopfihjmkfdmaaGreatDoor
open Go.Proofs.Tryz Sp
open Go.RowKit
set_option maxRecDepth 100000
set_option maxHeartbeats 16000000
namespace RI
section
variable{w w' W W' w1 w2 w3:Wd}
variable{v vs vt u:Value}
variable{b k4 k5 kr kz g1 g2 g i:Nat}
abbrev T:=Sp.Iv
def pA(x:T):Int:=x.a
def pB(x:T):Int:=x.b
theorem Vj{x y:T}(h:pA x=pA y)(k:pB x=pB y):x=y:=by
 cases x;cases y
 simp only[pA,pB]at h k;rw[h,k]
abbrev bO:=List Int
abbrev Dm(π:bO):pO:=oN π
abbrev Kr(π:bO):Sp.Rk (Dm π):=SR π
abbrev Wv(x:T):Prop:=jO x
def dF(x y:T):T:=⟨min x.a y.a,max x.b y.b⟩
theorem QA(n:Int)(w:Wd):Calls prog 142 #[.int .i64 0,.int .i64 n] w fun e w'=>e=.returned (.agg #[.int .i64 (pA ⟨n,n⟩),.int .i64 (pB ⟨n,n⟩)])/\Below w.heap.size w w':=On n w
theorem RN(w:Wd):Calls prog 107 #[.int .i64 0] w fun e w'=>e=.returned (.agg #[.int .i64 (pA eF),.int .i64 (pB eF)])/\Below w.heap.size w w':=Mf w
theorem Y5(x:T)(w:Wd):Calls prog 144 #[.agg #[.int .i64 (pA x),.int .i64 (pB x)],.int .i64 0,.int .i64 0] w fun e w'=>e=.returned (.bool (decide (x.a<=0) && decide (0<=x.b)))/\Below w.heap.size w w':=Rw x.a x.b w
theorem RW{x:T}(h:Wv x)(w:Wd):Calls prog 143 #[.int .i64 0,.agg #[.int .i64 (pA x),.int .i64 (pB x)]] w fun e w'=>e=.returned (.agg #[.int .i64 (pA (cJ (-x.b) (-x.a))),.int .i64 (pB (cJ (-x.b) (-x.a)))])/\Below w.heap.size w w':=L2 x.a x.b w h.1 h.2.1 h.2.2
theorem UM{x y:T}(h:Wv x)(k:Wv y)(w:Wd):Calls prog 149 #[.int .i64 0,.agg #[.int .i64 (pA x),.int .i64 (pB x)],.agg #[.int .i64 (pA y),.int .i64 (pB y)]] w fun e w'=>e=.returned (.agg #[.int .i64 (pA (dF x y)),.int .i64 (pB (dF x y))])/\Below w.heap.size w w' :=
 Ow x.a x.b y.a y.b w h.1 h.2.1 h.2.2 k.1 k.2.1 k.2.2
def Jo(e:Fin 8->T):List Value:=(List.ofFn e).flatMap fun x=>[.int .i64 (pA x),.int .i64 (pB x)]
def gF(e:Fin 8->T):Array Value:=(Jo e).toArray
theorem uE(e:Fin 8->T):(Jo e).length=16:=by unfold Jo;rw[fw (k:=2) (fun _=>rfl),List.length_ofFn]
theorem kQ(e:Fin 8->T)(k:Nat)(hk:k<8):(gF e)[k*2]?=some (.int .i64 (pA (e ⟨k,hk⟩)))/\(gF e)[k*2+1]?=some (.int .i64 (pB (e ⟨k,hk⟩))):=by
 have h:(List.ofFn e)[k]?=some (e ⟨k,hk⟩):=by rw[List.getElem?_ofFn,dif_pos hk]
 unfold gF Jo;rw[List.getElem?_toArray,List.getElem?_toArray];exact⟨by have:=gX (k:=2) (f:=fun x:T=>[Value.int .i64 (pA x),.int .i64 (pB x)]) (fun _=>rfl) (List.ofFn e) k _ 0 h (by omega);simpa using this,by have:=gX (k:=2) (f:=fun x:T=>[Value.int .i64 (pA x),.int .i64 (pB x)]) (fun _=>rfl) (List.ofFn e) k _ 1 h (by omega);simpa using this⟩
def ph(e:Fin 8->T)(k:Nat)(x:T):Fin 8->T:=fun j=>if j.val=k then x else e j
theorem Mr(e:Fin 8->T)(k:Nat)(hk:k<8)(x:T):((gF e).setIfInBounds (k*2) (.int .i64 (pA x))).setIfInBounds (k*2+1) (.int .i64 (pB x))=gF (ph e k x):=by
 have e1:List.ofFn (ph e k x)=(List.ofFn e).set k x:=by
  refine List.ext_getElem? fun i=>?_
  rw[List.getElem?_set,List.getElem?_ofFn,List.getElem?_ofFn,List.length_ofFn];by_cases hi:i<8
  ·rw[dif_pos hi,dif_pos hi]
   unfold ph;by_cases h:k=i
   ·rw[if_pos h,if_pos hk,if_pos h.symm]
   ·rw[if_neg h,if_neg (fun h'=>h h'.symm)]
  ·rw[dif_neg hi,dif_neg hi]
   rw[if_neg (by omega)]
 refine Array.ext_getElem? fun i=>?_
 have hR:(gF (ph e k x))[i]?=if k*2<=i/\i<k*2+2 then [Value.int .i64 (pA x),.int .i64 (pB x)][i - k*2]? else(Jo e)[i]?:=by unfold gF Jo;rw[List.getElem?_toArray,e1];exact pq (k:=2) (fun _=>rfl) (List.ofFn e) k x i (by rw[List.length_ofFn];exact hk)
 rw[hR,Array.getElem?_setIfInBounds,Array.getElem?_setIfInBounds];unfold gF;have hl:=uE e;simp only[Array.size_setIfInBounds,List.size_toArray,hl,List.getElem?_toArray];by_cases h1:k*2+1=i
 ·subst h1
  rw[if_pos rfl,if_pos (by omega),if_pos (by omega),show k*2+1 - k*2=1 by omega];rfl
 ·rw[if_neg h1]
  by_cases h2:k*2=i
  ·subst h2
   rw[if_pos rfl,if_pos (by omega),if_pos (by omega),show k*2 - k*2=0 by omega];rfl
  ·rw[if_neg h2,if_neg (by omega)]
theorem Lt:prog.underlying 119=some (.slice 191):=by kernel_rfl
theorem Cl:(prog.info? 191).map (·.size)=some 2:=by kernel_rfl
def XJ:Array Value:=#[.int .i64 0,.int .i64 0,.int .i64 0,.int .i64 0,.int .i64 0,.int .i64 0,.int .i64 0,.int .i64 0,.int .i64 0,.int .i64 0,.int .i64 0,.int .i64 0,.int .i64 0,.int .i64 0,.int .i64 0,.int .i64 0]
theorem Eo(w:Wd):(Instr.makeSlice 119 (.int .i64 8) (.int .i64 8)).run prog w=.ok (.slice (some ⟨w.heap.size,0,none⟩) 8 8) (w.alloc (.cells XJ 191)):=by kernel_rfl
theorem SY(w:Wd)(S Z:Nat)(e:Fin 8->T)(zz:Array Value)(ty:TypeId)(hz:zz.size=16)(hZ:Bk w Z zz 191)(hS:Bk w S (gF e) 191) :
  (Builtin.copy_ #[119,119] ty #[.slice (some ⟨Z,0,none⟩) 8 8,.slice (some ⟨S,0,none⟩) 8 8]).run prog w=.ok (.int .i64 8) (w.setCells Z 0 (Jo e)):=by
 have hl:=run_loadCells_list (P:=prog) w ⟨S,0,none⟩ (Jo e) (fun j v hj=>by rw[show(⟨S,0,none⟩:Addr).add j=⟨S,j,none⟩ by unfold Addr.add;simp;intro h;exact h.symm];exact cell_of hS j (by unfold gF;rw[List.getElem?_toArray];exact hj))
 have gI:=run_storeCells_cells (P:=prog) Z 0 (Jo e) 0 w (fun j hj=>by
  rw[uE]at hj;simp only[Nat.zero_add];rw[cell_of hZ j (Array.getElem?_eq_getElem (by omega))];rfl) (fun j hj=>aw hZ _) (fun v hv=>by
  unfold Jo at hv;obtain⟨x,_,hx⟩:=List.mem_flatMap.1 hv;simp at hx
  rcases hx with rfl | rfl<;>rfl)
 rw[uE]at hl;cases hq:prog.info? 191 with
 | none=>have:=Cl;simp[hq]at this
 | some i =>
  have hi:i.size=2:=by have:=Cl;simpa [hq] using this
  simp[Builtin.copy_,run_underlying Lt,Builtin.lenOf,Builtin.firstCells,sizeOf,typeInfo,hq,hi,hl,gI];rfl
def dL(w:Wd)(v:Value):Option (Fin 8->T)->Prop
 | none=>v=.agg #[.bool true,.slice none 0 0]
 | some e=>∃g,v=.agg #[.bool false,.slice (some ⟨g,0,none⟩) 8 8]/\w.heap[g]?=some (.cells (gF e) 191)
theorem dL.below{s:Option (Fin 8->T)}(h:dL w v s)(b:Below w.heap.size w w'):dL w' v s:=by
 cases s with
 | none=>exact h
 | some e=>obtain⟨g,h1,h2⟩:=h;exact⟨g,h1,(b.block _ (ah h2)).trans h2⟩
theorem CA(e:Fin 8->T):(gF e).size=16:=by unfold gF;rw[List.size_toArray];exact uE e
theorem mX(g:Nat)(e:Fin 8->T)(k:Nat)(hk:k<8)(x:T)(w:Wd)(h:Bk w g (gF e) 191) :
  Calls prog 106 #[.agg #[.bool false,.slice (some ⟨g,0,none⟩) 8 8],.int .i64 (k:Nat),.agg #[.int .i64 (pA x),.int .i64 (pB x)]] w fun r w'=>∃v,r=.returned v/\dL w' v (some (ph e k x))/\Below w.heap.size w w':=by
 have hki:((k:Nat):Int)<8:=by omega
 obtain⟨k0,k1,k2,kb⟩:=bY (w:=w) (o1:=.cells #[.bool false,.slice (some ⟨g,0,none⟩) 8 8] 121) (o2:=.cells #[.int .i64 (pA x),.int .i64 (pB x)] 191) (o3:=.cells #[.bool false,.slice none 0 0] 121) (Below.refl _ _);have Ku:=Eo;obtain⟨zz,rS⟩:∃zz,zz=XJ:=⟨_,rfl⟩;rw[<-rS]at Ku;have P4:zz.size=16:=by rw[rS];rfl
 clear rS;generalize oe:pA x=xa at *;generalize hxb:pB x=xb at *;have K0:=hid k0;have K1:=hid k1;have K2:=hid k2;have KB:=hid kb;clear k0 k1 k2 kb;have N6:=hid oe;have HXB:=hid hxb;clear oe hxb;go_enter func106,ntmps106;go_upto_region 1 with fail;generalize ((w.alloc (.cells #[.bool false,.slice (some ⟨g,0,none⟩) 8 8] 121)).alloc (.cells #[.int .i64 xa,.int .i64 xb] 191)).alloc (.cells #[.bool false,.slice none 0 0] 121)=W3 at *
 obtain⟨k3,Ko⟩:∃k3,k3=w.heap.size:=⟨_,rfl⟩;obtain⟨k5,ye⟩:∃k5,k5=w.heap.size+1:=⟨_,rfl⟩;obtain⟨kr,hkr⟩:∃kr,kr=w.heap.size+1+1:=⟨_,rfl⟩;rw[<-hkr,<-ye,<-Ko];rw[<-Ko]at K0;rw[<-ye]at K1;rw[<-hkr]at K2;have l3:w.heap.size<=kr:=by omega
 clear Ko ye hkr;have TU:=Ku W3;have hG3:W3.heap[g]?=_:=(KB.block _ (ah h)).trans h;have hZ4:=heap_alloc_new W3 (.cells zz 191);have hG4:(W3.alloc (.cells zz 191)).heap[g]?=_:=heap_alloc_old hG3;have hcp:=fun ty=>SY (W3.alloc (.cells zz 191)) g W3.heap.size e zz ty P4 hZ4 hG4
 have h5:=ar hZ4 (d:=gF e) (by rw[CA,P4]);have e5:(gF e).toList=Jo e:=by unfold gF;rfl
 rw[e5]at h5;have B5:Below W3.heap.size W3 ((W3.alloc (.cells zz 191)).setCells W3.heap.size 0 (Jo e)):=au (Nat.le_refl _) _ _ _ _ (below_alloc1 _ _);have K0':Hid (_=_):=(B5.block _ (ah K0.out)).trans K0.out;have K1':Hid (_=_):=(B5.block _ (ah K1.out)).trans K1.out;have K2':Hid (_=_):=(B5.block _ (ah K2.out)).trans K2.out;have A5:Hid (Below w.heap.size w _):=KB.trans (B5.mono KB.size);have H5:=hid h5;have s0:=cell_of K0.out 1 (v:=.slice (some ⟨g,0,none⟩) 8 8) rfl;have n3:k3≠W3.heap.size:=by have:=ah K0.out;omega
 have nr:kr≠W3.heap.size:=by have:=ah K2.out;omega
 have hl:w.heap.size<=W3.heap.size:=KB.size;have Bh:(W3.alloc (.cells zz 191)).cell? ⟨k3,1,none⟩=_:=cell_of (heap_alloc_old K0.out) 1 (v:=.slice (some ⟨g,0,none⟩) 8 8) rfl;clear Ku hZ4 hG4 hG3 h5 e5 B5 K0 K1 K2 KB h;go_upto_region 2 with fail;generalize hW5:(W3.alloc (.cells zz 191)).setCells W3.heap.size 0 (Jo e)=W5 at *
 generalize hW4:W3.alloc (.cells zz 191)=W4 at *;generalize W3.heap.size=kz at *;clear hW4 hW5 TU;obtain⟨va,vb⟩:=kQ e k hk;have x0:=cell_of K1'.out 0 (v:=.int .i64 xa) rfl;have x1:=cell_of K1'.out 1 (v:=.int .i64 xb) rfl;have z0:=cell_of H5.out (k*2) va;have z1:=cell_of H5.out (k*2+1) vb;have f0:=aw H5.out (k*2);have f1:=aw H5.out (k*2+1);have hr6:((W5.setCell ⟨kz,k*2,none⟩ (.int .i64 xa)).setCell ⟨kz,k*2+1,none⟩ (.int .i64 xb)).heap[kr]?=some (.cells #[.bool false,.slice none 0 0] 121):=by rw[Below.heap_setCell _ _ _ _ nr,Below.heap_setCell _ _ _ _ nr];exact K2'.out
 obtain⟨m0,m1,kh,kj,mq⟩:=aH hr6;have MQ:=hid (mq (.bool false) (.slice (some ⟨kz,0,none⟩) 8 8));have Bn:Hid (dL ((((W5.setCell ⟨kz,k*2,none⟩ (.int .i64 xa)).setCell ⟨kz,k*2+1,none⟩ (.int .i64 xb)).setCell ⟨kr,0,none⟩ (.bool false)).setCell ⟨kr,1,none⟩ (.slice (some ⟨kz,0,none⟩) 8 8)) (.agg #[.bool false,.slice (some ⟨kz,0,none⟩) 8 8]) (some (ph e k x))):=by refine⟨kz,rfl,?_⟩;rw[Below.heap_setCell _ _ _ _ nr.symm,Below.heap_setCell _ _ _ _ nr.symm,ai (ai H5.out (k*2) (.int .i64 xa)) (k*2+1) (.int .i64 xb),<-N6.out,<-HXB.out,Mr e k hk x]
 have TL:Hid (Below w.heap.size w ((((W5.setCell ⟨kz,k*2,none⟩ (.int .i64 xa)).setCell ⟨kz,k*2+1,none⟩ (.int .i64 xb)).setCell ⟨kr,0,none⟩ (.bool false)).setCell ⟨kr,1,none⟩ (.slice (some ⟨kz,0,none⟩) 8 8))) :=
  (((A5.setCell (p:=⟨kz,k*2,none⟩) hl _).setCell (p:=⟨kz,k*2+1,none⟩) hl _).setCell (p:=⟨kr,0,none⟩) l3 _).setCell (p:=⟨kr,1,none⟩) l3 _
 clear mq hr6;go_wp2_with fail;exact bodyPost_ret (v:=.agg #[.bool false,.slice (some ⟨kz,0,none⟩) 8 8]) (by simp[results,results106,go_sem,MQ.1,MQ.2]) rfl ⟨_,rfl,Bn.out,TL.out⟩
theorem iY{p:Addr}(h:w.cell? p=some v):p.block<w.heap.size:=by
 rcases Nat.lt_or_ge p.block w.heap.size with k | k
 ·exact k
 ·simp[World.cell?,Array.getElem?_eq_none k]at h
def zT:T:=⟨0,0⟩
theorem Li:XJ=gF fun _=>zT:=rfl
def uw:Option (Fin 8->T)->Option (Fin 8->T)->Option (Fin 8->T)
 | none,t=>t
 | some s,none=>some s
 | some s,some t=>some fun k=>dF (s k) (t k)
theorem mH(π:bO)(s t:Option (Fin 8->T)):uw s t=Sp.jn (Dm π) s t:=by cases s<;>cases t<;>rfl
structure rY(w:Wd)(b k4 k5 kr kz g1 g2:Nat)(s t f:Fin 8->T)(W:Wd):Prop where
 d:W.cell? ⟨b,1,none⟩=some (.int .i64 0)
 x:W.heap[k4]?=some (.cells #[.bool false,.slice (some ⟨g1,0,none⟩) 8 8] 121)
 y:W.heap[k5]?=some (.cells #[.bool false,.slice (some ⟨g2,0,none⟩) 8 8] 121)
 r:W.heap[kr]?=some (.cells #[.bool false,.slice none 0 0] 121)
 s:W.heap[g1]?=some (.cells (gF s) 191)
 t:W.heap[g2]?=some (.cells (gF t) 191)
 z:W.heap[kz]?=some (.cells (gF f) 191)
 b:Below w.heap.size w W
theorem rY.call{s t f:Fin 8->T}(h:rY w b k4 k5 kr kz g1 g2 s t f W)(k:Below W.heap.size W W'):rY w b k4 k5 kr kz g1 g2 s t f W' :=
 ⟨by rw[k.cell (p:=⟨b,1,none⟩) (iY h.d)];exact h.d,(k.block _ (ah h.x)).trans h.x,(k.block _ (ah h.y)).trans h.y,(k.block _ (ah h.r)).trans h.r,(k.block _ (ah h.s)).trans h.s,(k.block _ (ah h.t)).trans h.t,(k.block _ (ah h.z)).trans h.z,h.b.trans (k.mono h.b.size)⟩
theorem rY.put{s t f:Fin 8->T}(h:rY w b k4 k5 kr kz g1 g2 s t f W)(nb:b≠kz)(n4:k4≠kz)(n5:k5≠kz)(nr:kr≠kz)(n1:g1≠kz)(n2:g2≠kz)(hl:w.heap.size<=kz)(k:Nat)(hk:k<8)(x:T) :
  rY w b k4 k5 kr kz g1 g2 s t (ph f k x) ((W.setCell ⟨kz,k*2,none⟩ (.int .i64 (pA x))).setCell ⟨kz,k*2+1,none⟩ (.int .i64 (pB x))):=by
 have e:∀i,i≠kz->((W.setCell ⟨kz,k*2,none⟩ (.int .i64 (pA x))).setCell ⟨kz,k*2+1,none⟩ (.int .i64 (pB x))).heap[i]?=W.heap[i]?:=fun i hi=>by rw[Below.heap_setCell _ _ _ _ hi,Below.heap_setCell _ _ _ _ hi]
 refine⟨?_,(e _ n4).trans h.x,(e _ n5).trans h.y,(e _ nr).trans h.r,(e _ n1).trans h.s,(e _ n2).trans h.t,?_,(h.b.setCell (p:=⟨kz,k*2,none⟩) hl _).setCell (p:=⟨kz,k*2+1,none⟩) hl _⟩
 ·have hd:=h.d
  unfold World.cell? at hd ⊢;simp only at hd ⊢;rw[e b nb];exact hd
 ·rw[ai (ai h.z (k*2) (.int .i64 (pA x))) (k*2+1) (.int .i64 (pB x)),Mr f k hk x]
theorem Lx(s t f:Fin 8->T)(j:Nat)(hj:j<8)(hf:∀i:Fin 8,f i=if i.val<j then dF (s i) (t i) else zT):∀i:Fin 8,ph f j (dF (s ⟨j,hj⟩) (t ⟨j,hj⟩)) i=if i.val<j+1 then dF (s i) (t i) else zT:=by
 intro i;unfold ph;by_cases h:i.val=j
 ·rw[if_pos h,if_pos (by omega)]
  have:i=⟨j,hj⟩:=Fin.ext h;rw[this]
 ·rw[if_neg h,hf i]
  by_cases h2:i.val<j
  ·rw[if_pos h2,if_pos (by omega)]
  ·rw[if_neg h2,if_neg (by omega)]
theorem join_some(b g1 g2:Nat)(s t:Fin 8->T)(w:Wd)(hb:w.cell? ⟨b,1,none⟩=some (.int .i64 0))(hs:∀k,Wv (s k))(ht:∀k,Wv (t k))(h1:Bk w g1 (gF s) 191)(h2:Bk w g2 (gF t) 191) :
  Calls prog 110 #[.pointer (some ⟨b,0,none⟩),.agg #[.bool false,.slice (some ⟨g1,0,none⟩) 8 8],.agg #[.bool false,.slice (some ⟨g2,0,none⟩) 8 8]] w fun r w'=>∃v,r=.returned v/\dL w' v (some fun k=>dF (s k) (t k))/\Below w.heap.size w w':=by
 obtain⟨k0,k1,k2,kb⟩:=bY (w:=w) (o1:=.cells #[.bool false,.slice (some ⟨g1,0,none⟩) 8 8] 121) (o2:=.cells #[.bool false,.slice (some ⟨g2,0,none⟩) 8 8] 121) (o3:=.cells #[.bool false,.slice none 0 0] 121) (Below.refl _ _);have Ku:=Eo;rw[Li]at Ku;obtain⟨z0,Hq⟩:∃z0:Fin 8->T,z0=fun _=>zT:=⟨_,rfl⟩
 rw[<-Hq]at Ku;have HZ0:Hid (∀i:Fin 8,z0 i=if i.val<0 then dF (s i) (t i) else zT):=fun i=>by rw[Hq,if_neg (by omega)]
 clear Hq;have K0:=hid k0;have K1:=hid k1;have K2:=hid k2;have KB:=hid kb;clear k0 k1 k2 kb;go_enter func110,ntmps110;go_upto_region 5 with fail;generalize ((w.alloc (.cells #[.bool false,.slice (some ⟨g1,0,none⟩) 8 8] 121)).alloc (.cells #[.bool false,.slice (some ⟨g2,0,none⟩) 8 8] 121)).alloc (.cells #[.bool false,.slice none 0 0] 121)=W3 at *
 obtain⟨k4,hk4⟩:∃k3,k3=w.heap.size:=⟨_,rfl⟩;obtain⟨k5,ye⟩:∃k5,k5=w.heap.size+1:=⟨_,rfl⟩;obtain⟨kr,hkr⟩:∃kr,kr=w.heap.size+1+1:=⟨_,rfl⟩;rw[<-hkr,<-ye,<-hk4];rw[<-hk4]at K0;rw[<-ye]at K1;rw[<-hkr]at K2;have l3:w.heap.size<=kr:=by omega
 clear hk4 ye hkr;have TU:=Ku W3;have kx:=below_alloc1 W3 (.cells (gF z0) 191);have H4:Hid (rY w b k4 k5 kr W3.heap.size g1 g2 s t z0 (W3.alloc (.cells (gF z0) 191))):=by have B4:=KB.trans (kx.mono KB.size);exact⟨by rw[B4.cell (p:=⟨b,1,none⟩) (iY hb)];exact hb,heap_alloc_old K0.out,heap_alloc_old K1.out,heap_alloc_old K2.out,(B4.block _ (ah h1)).trans h1,(B4.block _ (ah h2)).trans h2,heap_alloc_new _ _,B4⟩
 have nb:b≠W3.heap.size:=by have h9:b<w.heap.size:=iY hb;have:=KB.size;omega
 have n4:k4≠W3.heap.size:=by have:=ah K0.out;omega
 have n5:k5≠W3.heap.size:=by have:=ah K1.out;omega
 have nr:kr≠W3.heap.size:=by have:=ah K2.out;omega
 have n1:g1≠W3.heap.size:=by have:=ah h1;have:=KB.size;omega
 have n2:g2≠W3.heap.size:=by have:=ah h2;have:=KB.size;omega
 have hl:w.heap.size<=W3.heap.size:=KB.size;clear Ku K0 K1 K2 KB kx hb h1 h2;go_upto_region 6 with fail;generalize W3.alloc (.cells (gF z0) 191)=W4 at *
 generalize W3.heap.size=kz at *;clear TU;go_wp2_with fail
 go_loopw [8] (fun v8 wr=>∃(j:Nat) (f:Fin 8->T),j<=8/\v8=.int .i64 j/\Hid (∀i:Fin 8,f i=if i.val<j then dF (s i) (t i) else zT)/\Hid (rY w b k4 k5 kr kz g1 g2 s t f wr)) (fun v8 _=>8 - (intOf v8).toNat)
 case atStart=>exact⟨0,z0,Nat.zero_le _,rfl,HZ0,H4⟩
 case round =>
  obtain⟨j,f,hj,rfl,hf,hq⟩:=hrel;clear H4 HZ0;by_cases kB:j<8
  ·have uq:((j:Nat):Int)<8:=by omega
   obtain⟨J2,HJ⟩:∃J2,Hid (J2=j*2):=⟨_,rfl⟩;obtain⟨sx,hsx⟩:∃sx,Hid (sx=s ⟨j,kB⟩):=⟨_,rfl⟩;obtain⟨tx,htx⟩:∃tx,Hid (tx=t ⟨j,kB⟩):=⟨_,rfl⟩;have uW:Hid (∀W,(∃f,rY w b k4 k5 kr kz g1 g2 s t f W)->W.cell? ⟨g1,J2,none⟩=some (.int .i64 (pA sx))/\W.cell? ⟨g1,J2+1,none⟩=some (.int .i64 (pB sx))/\W.cell? ⟨g2,J2,none⟩=some (.int .i64 (pA tx))/\W.cell? ⟨g2,J2+1,none⟩=some (.int .i64 (pB tx))/\W.cell? ⟨k4,1,none⟩=some (.slice (some ⟨g1,0,none⟩) 8 8)/\W.cell? ⟨k5,1,none⟩=some (.slice (some ⟨g2,0,none⟩) 8 8)):=fun W ⟨f',hW⟩=>by obtain⟨a1,a2⟩:=kQ s j kB;obtain⟨a3,a4⟩:=kQ t j kB;rw[HJ.out,hsx.out,htx.out];exact⟨cell_of hW.s _ a1,cell_of hW.s _ a2,cell_of hW.t _ a3,cell_of hW.t _ a4,cell_of hW.x 1 rfl,cell_of hW.y 1 rfl⟩
   have HCR:Hid (∀W:Wd,Calls prog 149 #[.int .i64 0,.agg #[.int .i64 (pA sx),.int .i64 (pB sx)],.agg #[.int .i64 (pA tx),.int .i64 (pB tx)]] W fun e w'=>e=.returned (.agg #[.int .i64 (pA (dF sx tx)),.int .i64 (pB (dF sx tx))])/\Below W.heap.size W w'):=fun W=>UM (by rw[hsx.out];exact hs _) (by rw[htx.out];exact ht _) W
   have HN:Hid (∀i:Fin 8,ph f j (dF sx tx) i=if i.val<j+1 then dF (s i) (t i) else zT):=by unfold Hid;rw[hsx.out,htx.out];exact Lx s t f j kB hf.out
   have HP:Hid (∀W,rY w b k4 k5 kr kz g1 g2 s t f W->rY w b k4 k5 kr kz g1 g2 s t (ph f j (dF sx tx)) ((W.setCell ⟨kz,J2,none⟩ (.int .i64 (pA (dF sx tx)))).setCell ⟨kz,J2+1,none⟩ (.int .i64 (pB (dF sx tx))))/\(W.cell? ⟨kz,J2,none⟩).isSome=true/\(W.cell? ⟨kz,J2+1,none⟩).isSome=true/\W.frozen? ⟨kz,J2,none⟩=false/\W.frozen? ⟨kz,J2+1,none⟩=false):=fun W hW=>by rw[HJ.out];obtain⟨a1,a2⟩:=kQ f j kB;exact⟨hW.put nb n4 n5 nr n1 n2 hl j kB (dF sx tx),by rw[cell_of hW.z _ a1];rfl,by rw[cell_of hW.z _ a2];rfl,aw hW.z _,aw hW.z _⟩
   generalize dF sx tx=jx at *;clear hsx htx;go_wp2_with fail;refine wp_region_held_drew (S:=fun w':Wd=>∃f,rY w b k4 k5 kr kz g1 g2 s t f w') (by kernel_rfl) ⟨f,hq.call (Below.refl _ _).drew⟩ (fun aa=>?_);have hJ:rY w b k4 k5 kr kz g1 g2 s t f wr.drew:=hq.call (Below.refl _ _).drew;generalize wr.drew=V at *;refine tq 0 (.slice (some ⟨kz,0,none⟩) 8 8) aa ?_;refine tq 1 (.int .i64 (j:Nat)) aa ?_;refine tq 2 (.pointer (some ⟨b,0,none⟩)) aa ?_;refine tq 3 (.pointer (some ⟨b,0,none⟩)) aa ?_;refine tq 4 (.pointer (some ⟨b,1,none⟩)) aa ?_;refine tq 5 (.pointer (some ⟨b,1,none⟩)) aa ?_;refine tk 6 (.int .i64 0) rfl (fun w' h=>by obtain⟨_,h⟩:=h;have q:=h.d;go_simp) aa ?_;refine tq 7 (.pointer (some ⟨k4,1,none⟩)) aa ?_;refine tk 8 (.slice (some ⟨g1,0,none⟩) 8 8) rfl (fun w' h=>by have q:=(uW.out _ h).2.2.2.2.1;go_simp) aa ?_;refine tq 9 (.int .i64 (j:Nat)) aa ?_;refine tk 10 (.pointer (some ⟨g1,J2,none⟩)) rfl (fun w' h=>by rw[HJ.out];go_simp) aa ?_;refine tk 11 (.agg #[.int .i64 (pA sx),.int .i64 (pB sx)]) rfl (fun w' h=>by have q:=(uW.out _ h).1;have q2:=(uW.out _ h).2.1;go_simp) aa ?_;refine tq 12 (.pointer (some ⟨k5,1,none⟩)) aa ?_;refine tk 13 (.slice (some ⟨g2,0,none⟩) 8 8) rfl (fun w' h=>by have q:=(uW.out _ h).2.2.2.2.2;go_simp) aa ?_;refine tq 14 (.int .i64 (j:Nat)) aa ?_;refine tk 15 (.pointer (some ⟨g2,J2,none⟩)) rfl (fun w' h=>by rw[HJ.out];go_simp) aa ?_;refine tk 16 (.agg #[.int .i64 (pA tx),.int .i64 (pB tx)]) rfl (fun w' h=>by have q:=(uW.out _ h).2.2.1;have q2:=(uW.out _ h).2.2.2.1;go_simp) aa ?_;refine cH 17 fun K hK=>?_
   simp only[bT,gN];go_simp;refine(HCR.out _).mono ?_;rintro e w8⟨rfl,b8⟩;replace hJ:=hJ.call b8;go_wp2_with fail;refine hK.out _ _ ⟨f,hJ⟩ (fun _=>?_);clear hK K b8;refine tk 18 (.pointer (some ⟨kz,J2,none⟩)) rfl (fun w' h=>by rw[HJ.out];go_simp) ⟨f,hJ⟩ ?_;obtain⟨p1,p2,p3,p4,p5⟩:=HP.out _ hJ;obtain⟨u1,Kp⟩:=Option.isSome_iff_exists.1 p2;obtain⟨u2,Oc⟩:=Option.isSome_iff_exists.1 p3;have HP1:=hid p1;clear p1 p2 p3;refine cH 19 fun K hK=>?_
   simp only[bT];go_simp;refine hK.out _ _ ⟨_,HP1.out⟩ (fun _=>?_);clear hK K;refine wpAnyH_done (by kernel_rfl) ?_ _;go_wp2_with fail;exact⟨⟨j+1,ph f j jx,by omega,by go_num,HN,HP1⟩,by simp[intOf];omega⟩
  ·obtain rfl:j=8:=by omega
   have h0:=hq.out;obtain⟨m0,m1,kh,kj,mq⟩:=aH h0.r;have MQ:=hid (mq (.bool false) (.slice (some ⟨kz,0,none⟩) 8 8));have Bn:Hid (dL ((wr.setCell ⟨kr,0,none⟩ (.bool false)).setCell ⟨kr,1,none⟩ (.slice (some ⟨kz,0,none⟩) 8 8)) (.agg #[.bool false,.slice (some ⟨kz,0,none⟩) 8 8]) (some fun k=>dF (s k) (t k))):=by
    refine⟨kz,rfl,?_⟩;rw[Below.heap_setCell _ _ _ _ nr.symm,Below.heap_setCell _ _ _ _ nr.symm,h0.z];have:f=fun k=>dF (s k) (t k):=funext fun i=>by rw[hf.out i,if_pos i.isLt]
    rw[this]
   have TL:Hid (Below w.heap.size w ((wr.setCell ⟨kr,0,none⟩ (.bool false)).setCell ⟨kr,1,none⟩ (.slice (some ⟨kz,0,none⟩) 8 8))):=(h0.b.setCell (p:=⟨kr,0,none⟩) l3 _).setCell (p:=⟨kr,1,none⟩) l3 _;clear mq h0 hq;go_wp2_with fail;exact bodyPost_ret (v:=.agg #[.bool false,.slice (some ⟨kz,0,none⟩) 8 8]) (by simp[results,results110,go_sem,MQ.1,MQ.2]) rfl ⟨_,rfl,Bn.out,TL.out⟩
theorem dL.form{s:Option (Fin 8->T)}(h:dL w v s):∃a n c,v=.agg #[.bool s.isNone,.slice a n c]:=by
 cases s with
 | none=>exact⟨_,_,_,h⟩
 | some e=>obtain⟨g,h1,_⟩:=h;exact⟨_,_,_,h1⟩
theorem RE(b:Nat)(va:Option Addr)(vn vc:Nat)(n:Bool)(w:Wd) :
  Calls prog 110 #[.pointer (some ⟨b,0,none⟩),.agg #[.bool true,.slice none 0 0],.agg #[.bool n,.slice va vn vc]] w fun r w'=>r=.returned (.agg #[.bool n,.slice va vn vc])/\Below w.heap.size w w':=by
 go_enter func110,ntmps110;go_wp2_with fail;go_returns;exact⟨rfl,by go_grown⟩
theorem Sb(b:Nat)(va:Option Addr)(vn vc:Nat)(w:Wd) :
  Calls prog 110 #[.pointer (some ⟨b,0,none⟩),.agg #[.bool false,.slice va vn vc],.agg #[.bool true,.slice none 0 0]] w fun r w'=>r=.returned (.agg #[.bool false,.slice va vn vc])/\Below w.heap.size w w':=by
 go_enter func110,ntmps110;go_wp2_with fail;go_returns;exact⟨rfl,by go_grown⟩
def eK(s:Option (Fin 8->T)):Prop:=∀e,s=some e->∀k,Wv (e k)
theorem wR(b:Nat){s t:Option (Fin 8->T)}(w:Wd)(hb:w.cell? ⟨b,1,none⟩=some (.int .i64 0))(hs:dL w vs s)(ht:dL w vt t)(ws:eK s)(wt:eK t) :
  Calls prog 110 #[.pointer (some ⟨b,0,none⟩),vs,vt] w fun r w'=>∃v,r=.returned v/\dL w' v (uw s t)/\Below w.heap.size w w':=by
 cases s with
 | none =>have e:vs=.agg #[.bool true,.slice none 0 0]:=hs;subst e;obtain⟨a,n,c,rfl⟩:=ht.form;exact(RE b a n c _ w).mono fun r w' ⟨h1,h2⟩=>⟨_,h1,ht.below h2,h2⟩
 | some s =>
  cases t with
  | none =>have e:vt=.agg #[.bool true,.slice none 0 0]:=ht;subst e;obtain⟨g,rfl,h⟩:=hs;exact(Sb b _ _ _ w).mono fun r w' ⟨h1,h2⟩=>⟨_,h1,dL.below (s:=some s) ⟨g,rfl,h⟩ h2,h2⟩
  | some t =>obtain⟨g1,rfl,h1⟩:=hs;obtain⟨g2,rfl,h2⟩:=ht;exact join_some b g1 g2 s t w hb (ws s rfl) (wt t rfl) h1 h2
def PW(s t:Option (Fin 8->T)):Bool:=match s,t with
 | none,none=>true
 | some s,some t=>decide (∀k,s k=t k)
 | _,_=>false
theorem eqV(a b c d:Int)(w:Wd):(Op.equalIn 10000 191 (.agg #[.int .i64 a,.int .i64 b]) (.agg #[.int .i64 c,.int .i64 d])).run prog w=.ok (decide (a=c/\b=d)) w:=by
 by_cases h1:a=c
 ·by_cases h2:b=d
  ·simp[go_sem,h1,h2]
  ·simp[go_sem,h1,h2]
 ·simp[go_sem,h1]
theorem zd(n m:Bool)(va:Option Addr)(vn vc:Nat)(ua:Option Addr)(un uc:Nat)(w:Wd)(h:n=true∨m=true) :
  Calls prog 150 #[.agg #[.bool n,.slice va vn vc],.agg #[.bool m,.slice ua un uc]] w fun r w'=>r=.returned (.bool (n == m))/\Below w.heap.size w w':=by
 cases n<;>cases m
 ·simp at h
 all_goals
  go_enter func150,ntmps150;go_wp2_with fail;go_returns;exact⟨rfl,by go_grown⟩
theorem Ip(g1 g2:Nat)(s t:Fin 8->T)(w:Wd)(h1:Bk w g1 (gF s) 191)(h2:Bk w g2 (gF t) 191) :
  Calls prog 150 #[.agg #[.bool false,.slice (some ⟨g1,0,none⟩) 8 8],.agg #[.bool false,.slice (some ⟨g2,0,none⟩) 8 8]] w fun r w'=>r=.returned (.bool (decide (∀k,s k=t k)))/\Below w.heap.size w w':=by
 obtain⟨k0,k1,kb⟩:=eY (w:=w) (o1:=.cells #[.bool false,.slice (some ⟨g1,0,none⟩) 8 8] 121) (o2:=.cells #[.bool false,.slice (some ⟨g2,0,none⟩) 8 8] 121) (Below.refl _ _);have HS:Hid (_=_):=(kb.block _ (ah h1)).trans h1;have HT:Hid (_=_):=(kb.block _ (ah h2)).trans h2;have s0:=cell_of k0 1 (v:=.slice (some ⟨g1,0,none⟩) 8 8) rfl;have s1:=cell_of k1 1 (v:=.slice (some ⟨g2,0,none⟩) 8 8) rfl;have KB:=hid kb;clear k0 k1 kb h1 h2;go_enter func150,ntmps150;go_upto_region 3 with fail;generalize (w.alloc (.cells #[.bool false,.slice (some ⟨g1,0,none⟩) 8 8] 121)).alloc (.cells #[.bool false,.slice (some ⟨g2,0,none⟩) 8 8] 121)=W at *
 obtain⟨k4,hk4⟩:∃k3,k3=w.heap.size:=⟨_,rfl⟩;obtain⟨k5,ye⟩:∃k5,k5=w.heap.size+1:=⟨_,rfl⟩;rw[<-ye,<-hk4];rw[<-hk4]at s0;rw[<-ye]at s1;clear hk4 ye;go_wp2_with fail
 go_loopw [5] (fun v5 wr=>∃(j m:Nat),j<=8/\v5=.int .i64 j/\wr=W.drewN m/\Hid (∀i:Fin 8,i.val<j->s i=t i)) (fun v5 _=>8 - (intOf v5).toNat)
 case atStart=>exact⟨0,0,Nat.zero_le _,rfl,rfl,fun i h=>absurd h (Nat.not_lt_zero _)⟩
 case round =>
  obtain⟨j,m,hj,rfl,rfl,hf⟩:=hrel;by_cases kB:j<8
  ·have uq:((j:Nat):Int)<8:=by omega
   obtain⟨a1,a2⟩:=kQ s j kB;obtain⟨a3,a4⟩:=kQ t j kB;have c1:=cell_of HS.out _ a1;have c2:=cell_of HS.out _ a2;have c3:=cell_of HT.out _ a3;have c4:=cell_of HT.out _ a4;clear a1 a2 a3 a4;by_cases he:s ⟨j,kB⟩=t ⟨j,kB⟩
   ·have HN:Hid (∀i:Fin 8,i.val<j+1->s i=t i):=fun i hi=>by
     by_cases h:i.val=j
     ·have:i=⟨j,kB⟩:=Fin.ext h
      rw[this];exact he
     ·exact hf.out i (by omega)
    rw[<-he]at c3 c4;generalize pA (s ⟨j,kB⟩)=xa at *;generalize pB (s ⟨j,kB⟩)=xb at *;have eE:∀w,(Op.equalIn 10000 191 (.agg #[.int .i64 xa,.int .i64 xb]) (.agg #[.int .i64 xa,.int .i64 xb])).run prog w=.ok true w:=fun w=>by rw[eqV,decide_eq_true ⟨rfl,rfl⟩]
    clear he;go_wp2_with fail;go_quiet (fail);go_wp2_with fail;exact⟨⟨j+1,_,by omega,by go_num,rfl,HN⟩,by simp[intOf];omega⟩
   ·have E:Hid (decide (∀k,s k=t k)=false):=decide_eq_false fun h=>he (h _)
    have db:¬ (pA (s ⟨j,kB⟩)=pA (t ⟨j,kB⟩)/\pB (s ⟨j,kB⟩)=pB (t ⟨j,kB⟩)):=fun h=>he (Vj h.1 h.2)
    generalize pA (s ⟨j,kB⟩)=xa at *;generalize pB (s ⟨j,kB⟩)=xb at *;generalize pA (t ⟨j,kB⟩)=ya at *;generalize pB (t ⟨j,kB⟩)=yb at *;have eE:∀w,(Op.equalIn 10000 191 (.agg #[.int .i64 xa,.int .i64 xb]) (.agg #[.int .i64 ya,.int .i64 yb])).run prog w=.ok false w:=fun w=>by rw[eqV,decide_eq_false db]
    clear he db;go_wp2_with fail;go_quiet (fail);go_wp2_with fail;go_ret;exact⟨by rw[E.out];rfl,⟨KB.os,KB.tape,KB.output,KB.size,KB.block⟩⟩
  ·obtain rfl:j=8:=by omega
   have E:Hid (decide (∀k,s k=t k)=true):=decide_eq_true fun k=>hf.out k k.isLt
   go_wp2_with fail;go_ret;exact⟨by rw[E.out];rfl,⟨KB.os,KB.tape,KB.output,KB.size,KB.block⟩⟩
theorem p9{s t:Option (Fin 8->T)}(w:Wd)(hs:dL w vs s)(ht:dL w vt t) :
  Calls prog 150 #[vs,vt] w fun r w'=>r=.returned (.bool (PW s t))/\Below w.heap.size w w':=by
 cases s with
 | none =>
  have e:vs=.agg #[.bool true,.slice none 0 0]:=hs;subst e;obtain⟨a,n,c,rfl⟩:=ht.form;refine(zd true _ _ _ _ a n c w (.inl rfl)).mono fun r w' ⟨h1,h2⟩=>⟨?_,h2⟩
  rw[h1];cases t<;>rfl
 | some s =>
  cases t with
  | none =>have e:vt=.agg #[.bool true,.slice none 0 0]:=ht;subst e;obtain⟨g,rfl,h⟩:=hs;exact(zd false true _ _ _ _ _ _ w (.inr rfl)).mono fun r w' ⟨h1,h2⟩=>⟨by rw[h1];rfl,h2⟩
  | some t =>obtain⟨g1,rfl,h1⟩:=hs;obtain⟨g2,rfl,h2⟩:=ht;exact Ip g1 g2 s t w h1 h2
theorem Sl(π:bO)(s t:Option (Fin 8->T)):PW s t=D3 (Dm π) s t:=by
 cases s with
 | none=>cases t<;>rfl
 | some s =>
  cases t with
  | none=>rfl
  | some t =>
   show decide (∀k,s k=t k)=@decide (∀k,s k=t k) _;by_cases h:∀k,s k=t k
   ·rw[decide_eq_true h]
   ·rw[decide_eq_false h]
abbrev dt:=Fin 8->T
abbrev dB:=Option dt
abbrev jB:=List dB × List Nat
structure Rc where
 base:Nat
 b:Nat
 pb:Nat
 gf:Nat
 gs:Nat
 ao:Nat
 narrow:Nat
 aj:Nat
 th:Bool
 sv:Value
def raC(C:Rc)(n m:Nat):Array Value:=#[.pointer (some ⟨C.pb,0,none⟩),.int .i64 0,.int .i64 (C.ao:Nat),.int .i64 (C.narrow:Nat),.int .i64 (C.aj:Nat),.bool C.th,C.sv,.slice (some ⟨C.gf,0,none⟩) n n,.slice (some ⟨C.gs,0,none⟩) m m]
structure bx(C:Rc)(F:jB)(w:Wd):Prop where
 aV:w.heap[C.b]?=some (.cells (raC C F.1.length F.2.length) 186)
 gf:∃c,w.heap[C.gf]?=some (.cells c 121)/\c.size=F.1.length*2
 gs:∃c,w.heap[C.gs]?=some (.cells c 3)/\c.size=F.2.length
 f:∀p s,F.1[p]?=some s->∃u v,w.cell? ⟨C.gf,p*2,none⟩=some u/\w.cell? ⟨C.gf,p*2+1,none⟩=some v/\dL w (.agg #[u,v]) s/\eK s
 s:∀i k,F.2[i]?=some k->w.cell? ⟨C.gs,i,none⟩=some (.int .i64 ((k:Nat):Int))/\k<=2
 lb:C.base<=C.b
 lf:C.base<=C.gf
 ls:C.base<=C.gs
 A4:F.1.length<=1000/\F.2.length<=1000
structure RK(C:Rc)(w w':Wd):Prop where
 below:Below C.base w w'
 others:∀k,k<w.heap.size->k≠C.gf->k≠C.gs->w'.heap[k]?=w.heap[k]?
theorem RK.refl(C:Rc)(w:Wd):RK C w w:=⟨Below.refl _ _,fun _ _ _ _=>rfl⟩
theorem RK.trans{C:Rc}(h:RK C w1 w2)(k:RK C w2 w3):RK C w1 w3 :=
 ⟨h.below.trans k.below,fun i hi h1 h2=>by rw[k.others i (Nat.lt_of_lt_of_le hi h.below.size) h1 h2,h.others i hi h1 h2]⟩
theorem RK.aB{C:Rc}(h:Below w.heap.size w w')(hB:C.base<=w.heap.size):RK C w w':=⟨h.mono hB,fun k hk _ _=>h.block k hk⟩
theorem bx.le{C:Rc}{F:jB}(h:bx C F w):C.base<=w.heap.size:=Nat.le_trans h.lb (Nat.le_of_lt (ah h.aV))
theorem bx.apart{C:Rc}{F:jB}(h:bx C F w){c:Array Value}(hg:Bk w g c 191):g≠C.gf/\g≠C.gs:=by
 obtain⟨c1,h1,_⟩:=h.gf;obtain⟨c2,h2,_⟩:=h.gs;refine⟨fun e=>?_,fun e=>?_⟩
 ·unfold Bk at hg;rw[e,h1]at hg;cases hg
 ·unfold Bk at hg;rw[e,h2]at hg;cases hg
theorem bx.distinct{C:Rc}{F:jB}(h:bx C F w):C.b≠C.gf/\C.b≠C.gs/\C.gf≠C.gs:=by
 obtain⟨c1,h1,_⟩:=h.gf;obtain⟨c2,h2,_⟩:=h.gs;have h0:=h.aV;refine⟨fun e=>?_,fun e=>?_,fun e=>?_⟩
 ·rw[e,h1]at h0;cases h0
 ·rw[e,h2]at h0;cases h0
 ·rw[e,h2]at h1;cases h1
theorem dL.bF{C:Rc}{F:jB}{s:dB}(h:dL w v s)(ha:bx C F w)(k:RK C w w'):dL w' v s:=by
 cases s with
 | none=>exact h
 | some e =>obtain⟨g,h1,h2⟩:=h;obtain⟨n1,n2⟩:=ha.apart h2;exact⟨g,h1,(k.others g (ah h2) n1 n2).trans h2⟩
theorem bx.call{C:Rc}{F:jB}(h:bx C F w)(b:Below w.heap.size w w'):bx C F w':=by
 obtain⟨c1,h1,l1⟩:=h.gf;obtain⟨c2,h2,l2⟩:=h.gs;refine⟨(b.block _ (ah h.aV)).trans h.aV,⟨c1,(b.block _ (ah h1)).trans h1,l1⟩,⟨c2,(b.block _ (ah h2)).trans h2,l2⟩,fun p s hs=>?_,fun i k hk=>?_,h.lb,h.lf,h.ls,h.A4⟩
 ·obtain⟨u,v,e1,e2,e3,e4⟩:=h.f p s hs
  exact⟨u,v,by rw[b.cell (p:=⟨C.gf,p*2,none⟩) (iY e1)];exact e1,by rw[b.cell (p:=⟨C.gf,p*2+1,none⟩) (iY e2)];exact e2,e3.below b,e4⟩
 ·obtain⟨e1,e2⟩:=h.s i k hk
  exact⟨by rw[b.cell (p:=⟨C.gs,i,none⟩) (iY e1)];exact e1,e2⟩
theorem cG{o:Nat}(h:b≠g∨o≠i):(w.setCell ⟨g,i,none⟩ u).cell? ⟨b,o,none⟩=w.cell? ⟨b,o,none⟩:=by
 by_cases hb:b=g
 ·have ho:o≠i:=by
   rcases h with h | h
   ·exact absurd hb h
   ·exact h
  subst hb;unfold World.cell? World.setCell;simp only[Array.getElem?_modify];cases hw:w.heap[b]? with
  | none=>simp
  | some ob=>cases ob<;>simp[ho.symm]
 ·unfold World.cell?
  simp only;rw[Below.heap_setCell w ⟨g,i,none⟩ u b hb]
theorem bx.site{C:Rc}{F:jB}(h:bx C F w){k k':Nat}(hi:F.2[i]?=some k)(hk:k'<=2):bx C (F.1,F.2.set i k') (w.setCell ⟨C.gs,i,none⟩ (.int .i64 ((k':Nat):Int)))/\RK C w (w.setCell ⟨C.gs,i,none⟩ (.int .i64 ((k':Nat):Int))):=by
 obtain⟨c1,h1,l1⟩:=h.gf;obtain⟨c2,h2,l2⟩:=h.gs;obtain⟨n1,n2,n3⟩:=h.distinct;have hl:=(List.getElem?_eq_some_iff.1 hi).1;have ix:∀j,j≠C.gs->(w.setCell ⟨C.gs,i,none⟩ (.int .i64 ((k':Nat):Int))).heap[j]?=w.heap[j]?:=fun j hj=>Below.heap_setCell _ _ _ _ hj
 have hK:RK C w (w.setCell ⟨C.gs,i,none⟩ (.int .i64 ((k':Nat):Int))):=⟨(Below.refl _ _).setCell (p:=⟨C.gs,i,none⟩) h.ls _,fun j _ _ hj=>ix j hj⟩;refine⟨⟨?_,⟨c1,(ix _ n3).trans h1,l1⟩,⟨_,ai h2 i _,by simp[l2]⟩,fun p s hs=>?_,fun j m hm=>?_,h.lb,h.lf,h.ls,⟨h.A4.1,by simpa using h.A4.2⟩⟩,hK⟩
 ·rw[ix _ n2,List.length_set];exact h.aV
 ·obtain⟨u,v,e1,e2,e3,e4⟩:=h.f p s hs
  exact⟨u,v,by rw[cG (.inl n3)];exact e1,by rw[cG (.inl n3)];exact e2,e3.bF h hK,e4⟩
 ·rw[List.getElem?_set]at hm
  by_cases e:i=j
  ·subst e
   rw[if_pos rfl,if_pos hl]at hm;cases hm
   refine⟨?_,hk⟩;refine cell_of (ai h2 i _) i ?_;rw[Array.getElem?_setIfInBounds_self,if_pos (by rw[l2];exact hl)]
  ·rw[if_neg e]at hm
   obtain⟨e1,e2⟩:=h.s j m hm;exact⟨by rw[cG (.inr (fun h=>e h.symm))];exact e1,e2⟩
def Ag(s:dB)(k:Fin 8):Int:=match s with | none=>0 | some e=>(e k).a
def U6(s:dB)(k:Fin 8):Int:=match s with | none=>0 | some e=>(e k).b
theorem R6(s:dB)(j:Nat)(hj:j<8):(WI.sI s)[0]?=some (.bool s.isSome)/\(WI.sI s)[1+j*2]?=some (.int .i64 (Ag s ⟨j,hj⟩))/\(WI.sI s)[1+j*2+1]?=some (.int .i64 (U6 s ⟨j,hj⟩)):=by
 have hl:(WI.Bu s).2[j]?=some (Ag s ⟨j,hj⟩,U6 s ⟨j,hj⟩):=by
  cases s with
  | none =>show(List.replicate 8 ((0:Int),(0:Int)))[j]?=_;rw[List.getElem?_replicate,if_pos hj];rfl
  | some e =>show(List.ofFn fun k=>WI.nL (e k))[j]?=_;rw[List.getElem?_ofFn,dif_pos hj];rfl
 obtain⟨h1,h2⟩:=vR (fun v:Int × Int=>Value.int .i64 v.1) (fun v:Int × Int=>Value.int .i64 v.2) _ j _ hl;unfold WI.sI WI.Ag Km;refine⟨?_,?_,?_⟩
 ·cases s<;>rfl
 ·rw[List.getElem?_toArray,show 1+j*2=j*2+1 by omega,List.getElem?_cons_succ];exact h1
 ·rw[List.getElem?_toArray,show 1+j*2+1=(j*2+1)+1 by omega,List.getElem?_cons_succ];exact h2
theorem wB(s:dB)(v:Value)(w:Wd)(hs:dL w v s) :
  Calls prog 47 #[.agg (WI.sI s),v] w fun e w'=>e=.returned (.bool true)/\Below w.heap.size w w':=by
 obtain⟨va,vn,vc,rfl⟩:=hs.form;obtain⟨fa,Qi⟩:∃fa,fa=WI.sI s:=⟨_,rfl⟩;have HG:Hid (∀(j:Nat) (hj:j<8),fa[0]?=some (.bool s.isSome)/\fa[1+j*2]?=some (.int .i64 (Ag s ⟨j,hj⟩))/\fa[1+j*2+1]?=some (.int .i64 (U6 s ⟨j,hj⟩))):=by rw[Qi];exact R6 s
 rw[<-Qi];obtain⟨a1,a2,kb⟩:=eY (w:=w) (o1:=.cells fa 76) (o2:=.cells #[.bool s.isNone,.slice va vn vc] 121) (Below.refl _ _);have HW:Hid (dL ((w.alloc (.cells fa 76)).alloc (.cells #[.bool s.isNone,.slice va vn vc] 121)) (.agg #[.bool s.isNone,.slice va vn vc]) s/\Below w.heap.size w ((w.alloc (.cells fa 76)).alloc (.cells #[.bool s.isNone,.slice va vn vc] 121))):=⟨hs.below kb,kb⟩;clear hs kb Qi;go_enter func47,ntmps47;go_upto_region 1 with fail;generalize (w.alloc (.cells fa 76)).alloc (.cells #[.bool s.isNone,.slice va vn vc] 121)=W at *
 obtain⟨k2,e2⟩:∃k,k=w.heap.size:=⟨_,rfl⟩;obtain⟨k3,e3⟩:∃k,k=w.heap.size+1:=⟨_,rfl⟩;rw[<-e3,<-e2];rw[<-e2]at a1;rw[<-e3]at a2;clear e2 e3;have c0:=cell_of a1 0 (HG.out 0 (by omega)).1;obtain⟨q0,q1,_⟩:=aH a2;cases s with
 | none =>
  simp only[Option.isSome_none]at c0;simp only[Option.isNone_none]at q0;have HA:=hid a1;clear a1 a2 q1;go_wp2_with fail
  go_loopw [5] (fun v5 wr=>∃j:Nat,j<=8/\v5=.int .i64 j/\wr=W) (fun v5 _=>8 - (intOf v5).toNat)
  case atStart=>exact⟨0,Nat.zero_le _,rfl,rfl⟩
  case round =>
   obtain⟨j,hj,rfl,rfl⟩:=hrel;by_cases kB:j<8
   ·have uq:((j:Nat):Int)<8:=by omega
    have x1:=cell_of HA.out _ (HG.out j kB).2.1;have x2:=cell_of HA.out _ (HG.out j kB).2.2;simp only[Ag,U6]at x1 x2;go_wp2_with fail;exact⟨⟨j+1,by omega,by go_num,trivial⟩,by simp[intOf];omega⟩
   ·obtain rfl:j=8:=by omega
    go_wp2_with fail;go_ret;exact⟨rfl,HW.2⟩
 | some e =>
  simp only[Option.isSome_some]at c0;simp only[Option.isNone_some]at q0;obtain⟨ge,g1,g2⟩:=HW.1;simp only[Option.isNone_some]at g1;injection g1 with g1
  have g3:=congrArg Array.toList g1;simp at g3;obtain⟨rfl,rfl,rfl⟩:=g3;have HA:Hid (W.heap[k2]?=some (.cells fa 76)/\W.heap[ge]?=some (.cells (gF e) 191)):=⟨a1,g2⟩;have HB:=hid HW.2;clear a1 a2 HW g1 g2;go_wp2_with fail
  go_loopw [5] (fun v5 wr=>∃j:Nat,j<=8/\v5=.int .i64 j/\wr=W) (fun v5 _=>8 - (intOf v5).toNat)
  case atStart=>exact⟨0,Nat.zero_le _,rfl,rfl⟩
  case round =>
   obtain⟨j,hj,rfl,rfl⟩:=hrel;by_cases kB:j<8
   ·have uq:((j:Nat):Int)<8:=by omega
    have x1:=cell_of HA.1 _ (HG.out j kB).2.1;have x2:=cell_of HA.1 _ (HG.out j kB).2.2;have y1:=cell_of HA.2 _ (kQ e j kB).1;have y2:=cell_of HA.2 _ (kQ e j kB).2;simp only[Ag,U6]at x1 x2;simp only[pA,pB]at y1 y2;go_wp2_with fail;exact⟨⟨j+1,by omega,by go_num,trivial⟩,by simp[intOf];omega⟩
   ·obtain rfl:j=8:=by omega
    go_wp2_with fail;go_ret;exact⟨rfl,HB.out⟩
theorem bx.cells{C:Rc}{F:jB}(h:bx C F w):w.cell? ⟨C.b,1,none⟩=some (.int .i64 0)/\w.cell? ⟨C.b,7,none⟩=some (.slice (some ⟨C.gf,0,none⟩) F.1.length F.1.length)/\w.cell? ⟨C.b,8,none⟩=some (.slice (some ⟨C.gs,0,none⟩) F.2.length F.2.length) :=
 ⟨cell_of h.aV 1 rfl,cell_of h.aV 7 rfl,cell_of h.aV 8 rfl⟩
theorem JT(b:Nat)(site:Int)(bad:Bool)(w:Wd) :
  Calls prog 109 #[.pointer (some ⟨b,0,none⟩),.int .i64 site,.bool bad,.bool false] w fun r w'=>r=.returned (.tuple #[])/\w'=w:=by
 go_enter func109,ntmps109;go_wp2_with fail;try simp only[Exit.inBlock,Exit.then]
 refine bodyPost_ret (results_none rfl _ _ _) rfl ?_;exact⟨rfl,rfl⟩
theorem Ii(b:Nat)(site:Int)(bad:Bool)(w:Wd)(h:site<0) :
  Calls prog 109 #[.pointer (some ⟨b,0,none⟩),.int .i64 site,.bool bad,.bool true] w fun r w'=>r=.returned (.tuple #[])/\w'=w:=by
 go_enter func109,ntmps109;go_wp2_with fail;try simp only[Exit.inBlock,Exit.then]
 refine bodyPost_ret (results_none rfl _ _ _) rfl ?_;exact⟨rfl,rfl⟩
theorem LN(C:Rc)(π:bO)(F:jB)(q:Nat)(bad:Bool)(w:Wd)(h:bx C F w)(hq:q<F.2.length) :
  Calls prog 109 #[.pointer (some ⟨C.b,0,none⟩),.int .i64 (q:Nat),.bool bad,.bool true] w fun r w'=>r=.returned (.tuple #[])/\bx C (cR (Dm π) F (.site (q:Int) bad)) w'/\RK C w w':=by
 obtain⟨k,hk⟩:∃k,F.2[q]?=some k:=⟨_,List.getElem?_eq_getElem hq⟩;obtain⟨c1,k2⟩:=h.s q k hk;obtain⟨_,_,b8⟩:=h.cells;obtain⟨cs,uX,_⟩:=h.gs;have f1:=aw uX q;have hqi:((q:Nat):Int)<((F.2.length:Nat):Int):=by omega
 have hq0:¬ ((q:Nat):Int)<0:=by omega
 have aay:decide (((q:Nat):Int)<0)=false:=decide_eq_false hq0;have ZZ:((F.2.length:Nat):Int)<=1000:=by have:=h.A4.2;omega
 have Ka:∀k',k'=max k (if bad then 2 else 1)->cR (Dm π) F (.site (q:Int) bad)=(F.1,F.2.set q k'):=fun k' e=>by
  show(F.1,F.2.modify (q:Int).toNat _)=_;rw[Int.toNat_natCast,e];congr 1;refine List.ext_getElem? fun i=>?_
  rw[List.getElem?_modify,List.getElem?_set];by_cases hi:q=i
  ·subst hi
   rw[if_pos rfl,if_pos hq,hk];simp
  ·rw[if_neg hi]
   simp[hi]
 have HR:=hid h;cases bad with
 | true =>
  have E:=Ka 2 (by simp;omega);have HF:Hid (bx C (cR (Dm π) F (.site (q:Int) true)) (w.setCell ⟨C.gs,q,none⟩ (.int .i64 2))/\RK C w (w.setCell ⟨C.gs,q,none⟩ (.int .i64 2))):=by unfold Hid;rw[E];exact h.site (k':=2) hk (by omega)
  clear E Ka h uX hk;generalize C.b=cb at *;generalize C.gs=cg at *;go_enter func109,ntmps109;go_wp2_with fail
  go_end0
  exact⟨rfl,HF.1,HF.2⟩
 | false =>
  by_cases hz:k=0
  ·subst hz
   have E:=Ka 1 (by simp);have HF:Hid (bx C (cR (Dm π) F (.site (q:Int) false)) (w.setCell ⟨C.gs,q,none⟩ (.int .i64 1))/\RK C w (w.setCell ⟨C.gs,q,none⟩ (.int .i64 1))):=by unfold Hid;rw[E];exact h.site (k':=1) hk (by omega)
   clear E Ka h uX hk;generalize C.b=cb at *;generalize C.gs=cg at *;go_enter func109,ntmps109;go_wp2_with fail
   go_end0
   exact⟨rfl,HF.1,HF.2⟩
  ·have E:=Ka k (by simp;omega)
   have es:F.2.set q k=F.2:=by
    refine List.ext_getElem? fun i=>?_
    rw[List.getElem?_set];by_cases hi:q=i
    ·subst hi;rw[if_pos rfl,if_pos hq,hk]
    ·rw[if_neg hi]
   rw[es]at E;have HF:Hid (bx C (cR (Dm π) F (.site (q:Int) false)) w):=by unfold Hid;rw[E];exact h
   have hz':¬ ((k:Nat):Int)=0:=by omega
   clear E es Ka h uX hk;generalize C.b=cb at *;generalize C.gs=cg at *;go_enter func109,ntmps109;go_wp2_with fail
   go_end0
   exact⟨rfl,HF.out,RK.refl _ _⟩
theorem bx.aA{C:Rc}{F:jB}(h:bx C F w){p:Nat}(hp:p<F.1.length){s:dB}(hs:dL w (.agg #[u,v]) s)(hw:eK s):bx C (F.1.set p s,F.2) ((w.setCell ⟨C.gf,p*2,none⟩ u).setCell ⟨C.gf,p*2+1,none⟩ v)/\RK C w ((w.setCell ⟨C.gf,p*2,none⟩ u).setCell ⟨C.gf,p*2+1,none⟩ v):=by
 obtain⟨c1,h1,l1⟩:=h.gf;obtain⟨c2,h2,l2⟩:=h.gs;obtain⟨n1,n2,n3⟩:=h.distinct;have ix:∀j,j≠C.gf->((w.setCell ⟨C.gf,p*2,none⟩ u).setCell ⟨C.gf,p*2+1,none⟩ v).heap[j]?=w.heap[j]?:=fun j hj=>by rw[Below.heap_setCell _ _ _ _ hj,Below.heap_setCell _ _ _ _ hj]
 have hK:RK C w ((w.setCell ⟨C.gf,p*2,none⟩ u).setCell ⟨C.gf,p*2+1,none⟩ v):=⟨((Below.refl _ _).setCell (p:=⟨C.gf,p*2,none⟩) h.lf _).setCell (p:=⟨C.gf,p*2+1,none⟩) h.lf _,fun j _ hj _=>ix j hj⟩;have hN:=ai (ai h1 (p*2) u) (p*2+1) v;refine⟨⟨?_,⟨_,hN,by simp[l1]⟩,⟨c2,(ix _ n3.symm).trans h2,l2⟩,fun i s' dw=>?_,fun j m hm=>?_,h.lb,h.lf,h.ls,⟨by simpa using h.A4.1,h.A4.2⟩⟩,hK⟩
 ·rw[ix _ n1,List.length_set];exact h.aV
 ·rw[List.getElem?_set]at dw
  by_cases e:p=i
  ·subst e
   rw[if_pos rfl,if_pos hp]at dw;cases dw
   refine⟨u,v,cell_of hN _ ?_,cell_of hN _ ?_,hs.bF h hK,hw⟩
   ·rw[Array.getElem?_setIfInBounds,if_neg (by omega),Array.getElem?_setIfInBounds_self,if_pos (by rw[l1];omega)]
   ·rw[Array.getElem?_setIfInBounds_self,if_pos (by rw[Array.size_setIfInBounds,l1];omega)]
  ·rw[if_neg e]at dw
   obtain⟨u',v',e1,e2,e3,e4⟩:=h.f i s' dw;exact⟨u',v',by rw[cG (.inr (by omega)),cG (.inr (by omega))];exact e1,by rw[cG (.inr (by omega)),cG (.inr (by omega))];exact e2,e3.bF h hK,e4⟩
 ·obtain⟨e1,e2⟩:=h.s j m hm
  exact⟨by rw[cG (.inl n3.symm),cG (.inl n3.symm)];exact e1,e2⟩
theorem CK(b:Nat)(p:Int)(n:Bool)(va:Option Addr)(vn vc:Nat)(rec:Bool)(w:Wd)(h:rec=false∨n=true) :
  Calls prog 77 #[.pointer (some ⟨b,0,none⟩),.int .i64 p,.agg #[.bool n,.slice va vn vc],.bool rec] w fun r w'=>r=.returned (.tuple #[])/\Below w.heap.size w w':=by
 cases rec with
 | false =>
  go_enter func77,ntmps77;go_wp2_with fail
  go_end0
  exact⟨rfl,by go_grown⟩
 | true =>
  obtain rfl:n=true:=by simpa using h
  go_enter func77,ntmps77;go_wp2_with fail
  go_end0
  exact⟨rfl,by go_grown⟩
theorem oD{s t:dB}(hs:eK s)(ht:eK t):eK (uw s t):=by have:=kK (K:=Kr []) (s:=s) (t:=t) hs ht;rw[mH []];exact this
theorem qu{α:Type}(l:List α)(p:Nat)(f:α->α)(x:α)(h:l[p]?=some x):l.modify p f=l.set p (f x):=by
 refine List.ext_getElem? fun i=>?_
 rw[List.getElem?_modify,List.getElem?_set];by_cases hi:p=i
 ·subst hi
  rw[if_pos rfl,if_pos (List.getElem?_eq_some_iff.1 h).1,h];simp
 ·rw[if_neg hi]
  simp[hi]
theorem Ok(C:Rc)(π:bO)(F:jB)(p:Nat)(e:dt)(g:Nat)(w:Wd)(h:bx C F w)(hp:p<F.1.length)(he:∀k,Wv (e k))(hg:Bk w g (gF e) 191) :
  Calls prog 77 #[.pointer (some ⟨C.b,0,none⟩),.int .i64 (p:Nat),.agg #[.bool false,.slice (some ⟨g,0,none⟩) 8 8],.bool true] w fun r w'=>r=.returned (.tuple #[])/\bx C (cR (Dm π) F (.aA (p:Int) e)) w'/\RK C w w':=by
 obtain⟨s0,Q5⟩:∃s0,F.1[p]?=some s0:=⟨_,List.getElem?_eq_getElem hp⟩;have E:Hid (cR (Dm π) F (.aA (p:Int) e)=(F.1.set p (uw s0 (some e)),F.2)):=by unfold Hid;show(F.1.modify (p:Int).toNat _,F.2)=_;rw[Int.toNat_natCast];exact Prod.ext ((qu (α:=dB) F.1 p (fun f=>Sp.jn (Dm π) f (some e)) s0 Q5).trans (congrArg (fun x:dB=>F.1.set p x) (mH π s0 (some e)).symm)) rfl
 have hpi:((p:Nat):Int)<((F.1.length:Nat):Int):=by omega
 have ZZ:((F.1.length:Nat):Int)<=1000:=by have:=h.A4.1;omega
 have kb:=below_alloc1 w (.cells #[.bool false,.slice (some ⟨g,0,none⟩) 8 8] 121);have hA:=h.call kb;have Tq:=heap_alloc_new w (.cells #[.bool false,.slice (some ⟨g,0,none⟩) 8 8] 121);have Ny:=(kb.block _ (ah hg)).trans hg;have mx:Hid (RK C w _):=RK.aB kb h.le;have A9:C.gf<w.heap.size:=by obtain⟨c,hc,_⟩:=h.gf;exact ah hc
 clear h kb hg;rw[E.out];go_enter func77,ntmps77;go_wp2_with fail;generalize w.alloc (.cells #[.bool false,.slice (some ⟨g,0,none⟩) 8 8] 121)=W at *;obtain⟨k6,Kx⟩:∃k6,k6=w.heap.size:=⟨_,rfl⟩;rw[<-Kx];rw[<-Kx]at Tq;have nk6:k6≠C.gf:=by omega
 clear Kx A9;have hq:bx C F W.drew:=hA.call (Below.refl _ _).drew;have hb6:W.drew.heap[k6]?=some (.cells #[.bool false,.slice (some ⟨g,0,none⟩) 8 8] 121):=Tq;have Yi:W.drew.heap[g]?=some (.cells (gF e) 191):=Ny;have Vu:Hid (RK C w W.drew):=mx.trans ⟨(Below.refl _ _).drew,fun _ _ _ _=>rfl⟩;obtain⟨J2,HJ⟩:∃J2,Hid (J2=p*2):=⟨_,rfl⟩;obtain⟨u0,v0,e1,e2,e3,e4⟩:=hq.f p s0 Q5;rw[<-HJ.out]at e1 e2;obtain⟨za,zn,zc,ez⟩:=e3.form;obtain⟨rfl,rfl⟩:u0=.bool s0.isNone/\v0=.slice za zn zc:=by
  injection ez with ez
  have:=congrArg Array.toList ez;simp at this;exact this
 have HJN:Hid (Calls _ _ _ _ _):=wR C.b W.drew hq.cells.1 e3 (show dL W.drew (.agg #[.bool false,.slice (some ⟨g,0,none⟩) 8 8]) (some e) from⟨g,rfl,Yi⟩) e4 (fun e' h k=>by cases h;exact he k);have HWJ:Hid (eK (uw s0 (some e))):=oD e4 (fun e' h k=>by cases h;exact he k);have HQ:=hid hq;have HC7:=hid hq.cells.2.1;clear e3 e4 ez hq Yi;refine wp_region_held_drew (S:=fun w':Wd=>w'.cell? ⟨C.b,7,none⟩=some (.slice (some ⟨C.gf,0,none⟩) F.1.length F.1.length)/\w'.heap[k6]?=some (.cells #[.bool false,.slice (some ⟨g,0,none⟩) 8 8] 121)) (by kernel_rfl) ⟨HC7.out,hb6⟩ (fun aa=>?_);generalize W.drew=V at *;clear hA Tq Ny mx;refine tq 0 (.pointer (some ⟨C.b,0,none⟩)) aa ?_;refine tq 1 (.pointer (some ⟨C.b,0,none⟩)) aa ?_;refine tq 2 (.pointer (some ⟨C.b,7,none⟩)) aa ?_;refine tk 3 (.slice (some ⟨C.gf,0,none⟩) F.1.length F.1.length) rfl (fun w' h=>by have q:=h.1;go_simp) aa ?_;refine tq 4 (.int .i64 (p:Nat)) aa ?_;refine tq 5 (.pointer (some ⟨C.b,0,none⟩)) aa ?_;refine tq 6 (.pointer (some ⟨C.b,0,none⟩)) aa ?_;refine tq 7 (.pointer (some ⟨C.b,0,none⟩)) aa ?_;refine tq 8 (.pointer (some ⟨C.b,7,none⟩)) aa ?_;refine tk 9 (.slice (some ⟨C.gf,0,none⟩) F.1.length F.1.length) rfl (fun w' h=>by have q:=h.1;go_simp) aa ?_;refine tq 10 (.int .i64 (p:Nat)) aa ?_;refine tk 11 (.pointer (some ⟨C.gf,J2,none⟩)) rfl (fun w' h=>by rw[HJ.out];go_simp) aa ?_;refine tk 13 (.agg #[.bool false,.slice (some ⟨g,0,none⟩) 8 8]) rfl (fun w' h=>by have q:=cell_of h.2 0 (v:=.bool false) rfl;have q2:=cell_of h.2 1 (v:=.slice (some ⟨g,0,none⟩) 8 8) rfl;go_simp) aa ?_;refine cH 12 fun K hK=>?_
 simp only[bT,gN];go_simp;refine hK.out _ _ aa (fun _=>?_);clear hK K;refine cH 14 fun K hK=>?_
 simp only[bT];go_simp;refine HJN.mono ?_;rintro r w8⟨v8,rfl,FW,b8⟩;obtain⟨ya,yn,yc,rfl⟩:=FW.form;have UH:bx C F w8:=HQ.call b8;have Yw:w8.cell? ⟨C.b,7,none⟩=some (.slice (some ⟨C.gf,0,none⟩) F.1.length F.1.length)/\w8.heap[k6]?=some (.cells #[.bool false,.slice (some ⟨g,0,none⟩) 8 8] 121):=⟨UH.cells.2.1,(b8.block _ (ah hb6)).trans hb6⟩;have HP:Hid (bx C (F.1.set p (uw s0 (some e)),F.2) _/\RK C w8 _):=UH.aA hp FW HWJ.out;have HK8:Hid (RK C w w8):=Vu.trans (RK.aB b8 HQ.le);obtain⟨y0,y1,y2,y3,_,_⟩:=UH.f p s0 Q5;obtain⟨cg,ZE,_⟩:=UH.gf;have f0:=aw ZE (p*2);have f1:=aw ZE (p*2+1);obtain⟨n1,n2,n3⟩:=UH.distinct;have hS9:∀u v:Value,((w8.setCell ⟨C.gf,p*2,none⟩ u).setCell ⟨C.gf,p*2+1,none⟩ v).cell? ⟨C.b,7,none⟩=some (.slice (some ⟨C.gf,0,none⟩) F.1.length F.1.length):=fun u v=>by rw[cG (.inl n1),cG (.inl n1)];exact Yw.1
 have TF:∀u v:Value,((w8.setCell ⟨C.gf,p*2,none⟩ u).setCell ⟨C.gf,p*2+1,none⟩ v).heap[k6]?=some (.cells #[.bool false,.slice (some ⟨g,0,none⟩) 8 8] 121):=fun u v=>by rw[Below.heap_setCell _ _ _ _ nk6,Below.heap_setCell _ _ _ _ nk6];exact Yw.2
 rw[<-HJ.out]at y2 y3 f0 f1 HP hS9 TF;have HY:=hid (And.intro y2 (And.intro y3 (And.intro f0 f1)));have HS9:=hid hS9;have Z3:=hid TF;clear y2 y3 f0 f1 hS9 TF ZE UH e1 e2 b8 FW;go_wp2_with fail;refine hK.out _ _ Yw (fun _=>?_);clear hK K;refine tk 15 (.pointer (some ⟨C.gf,J2,none⟩)) rfl (fun w' h=>by rw[HJ.out];go_simp) Yw ?_;have y2:=HY.1;have y3:=HY.2.1;have f0:=HY.2.2.1;have f1:=HY.2.2.2;refine cH 16 fun K hK=>?_
 simp only[bT];go_simp;refine hK.out _ _ ⟨HS9.out _ _,Z3.out _ _⟩ (fun _=>?_);clear hK K;refine wpAnyH_done (by kernel_rfl) ?_ _;go_wp2_with fail
 go_end0
 exact⟨rfl,HP.1,HK8.trans HP.2⟩
end
end RI
section
namespace RI
section
variable{C:Rc}
variable{g cap ge k6 k8 kn k n:Nat}
variable{ns:List aJ}
variable{w w' W W' V:Wd}
variable{e:dt}
variable{d:aJ}
variable{F F':jB}
structure Gd(C:Rc)(g:Nat):Prop where
 p:C.pb<C.base
 g:g<C.base
theorem BR(G:Gd C g)(h:dq C.pb g cap ns w)(k:Below C.base w w'):dq C.pb g cap ns w' :=
 ⟨by rw[k.cell (p:=⟨C.pb,0,none⟩) G.p];exact h.slice,fun j d c u h1 h2 h3=>by rw[k.cell (p:=⟨g,j*10+c,none⟩) G.g];exact h.cells j d c u h1 h2 h3,Nat.lt_of_lt_of_le h.ltp k.size,Nat.lt_of_lt_of_le h.ltg k.size,h.mm,h.hmax,h.hn⟩
theorem look(G:Gd C g)(h:dq C.pb g cap ns w)(k:RK C w w'):dq C.pb g cap ns w':=BR G h k.below
def dA(π:bO)(x:Sm)(ct:Ct)(e:dt):List (gd T) × Option T:=Sp.dA (Dm π) x ct e
def Qu(a b:Int)(ok:Bool):Option T->Prop
 | some x=>a=pA x/\b=pB x/\ok=true/\Wv x
 | none=>ok=false
def jm(C:Rc)(π:bO)(g cap:Nat)(ns:List aJ)(x:Sm)(k:Nat)(ct:Ct):Prop:=∀(F:jB) (e:dt) (ge:Nat) (rec:Bool) (w:Wd),bx C F w->dq C.pb g cap ns w->(∀k,Wv (e k))->w.heap[ge]?=some (.cells (gF e) 191)->WI.df rec F (dA π x ct e).1 ->
 Calls prog 105 #[.pointer (some ⟨C.b,0,none⟩),.int .i64 (k:Nat),.agg #[.bool false,.slice (some ⟨ge,0,none⟩) 8 8],.bool rec] w fun r w'=>∃a b ok,r=.returned (.tuple #[.agg #[.int .i64 a,.int .i64 b],.bool ok])/\bx C (WI.told π rec F (dA π x ct e).1) w'/\RK C w w'/\Qu a b ok (dA π x ct e).2
def pz(d:aJ):Array Value:=#[.int .i64 d.kind,.int .i64 d.a,.int .i64 d.b,.int .i64 d.c,.int .i64 d.n,.int .i64 d.next,.string ⟨d.sign.toArray⟩,.int .i64 d.site,.int .i64 d.aA,.bool d.els]
structure iV(C:Rc)(g cap:Nat)(ns:List aJ)(e:dt)(ge:Nat)(d:aJ)(w:Wd)(k6 k8 kn:Nat)(F:jB)(W:Wd):Prop where
 ra:bx C F W
 look:dq C.pb g cap ns W
 env:W.heap[ge]?=some (.cells (gF e) 191)
 box:W.heap[k6]?=some (.cells #[.bool false,.slice (some ⟨ge,0,none⟩) 8 8] 121)
 res:W.heap[k8]?=some (.cells #[.int .i64 0,.int .i64 0] 191)
 nd:W.heap[kn]?=some (.cells (pz d) 176)
 bF:RK C w W
 old:bx C F w∨C.gf<w.heap.size/\C.gs<w.heap.size
 l6:w.heap.size<=k6
 l8:w.heap.size<=k8
 ln:w.heap.size<=kn
theorem iV.step(G:Gd C g)(h:iV C g cap ns e ge d w k6 k8 kn F W)(hR:bx C F' W')(k:RK C W W'):iV C g cap ns e ge d w k6 k8 kn F' W':=by
 have hl:C.gf<w.heap.size/\C.gs<w.heap.size:=by
  rcases h.old with h | h
  ·obtain⟨c1,h1,_⟩:=h.gf
   obtain⟨c2,h2,_⟩:=h.gs;exact⟨ah h1,ah h2⟩
  ·exact h
 have l6:=h.l6;have l8:=h.l8;have ln:=h.ln;obtain⟨n1,n2⟩:=h.ra.apart h.env;exact⟨hR,RI.look G h.look k,(k.others _ (ah h.env) n1 n2).trans h.env,(k.others _ (ah h.box) (by omega) (by omega)).trans h.box,(k.others _ (ah h.res) (by omega) (by omega)).trans h.res,(k.others _ (ah h.nd) (by omega) (by omega)).trans h.nd,h.bF.trans k,.inr hl,l6,l8,ln⟩
theorem iV.call(G:Gd C g)(h:iV C g cap ns e ge d w k6 k8 kn F W)(k:Below W.heap.size W W'):iV C g cap ns e ge d w k6 k8 kn F W':=h.step G (h.ra.call k) (RK.aB k h.ra.le)
def wW(w:Wd)(ge:Nat)(d:aJ):Wd:=((w.alloc (.cells #[.bool false,.slice (some ⟨ge,0,none⟩) 8 8] 121)).alloc (.cells #[.int .i64 0,.int .i64 0] 191)).alloc (.cells #[.int .i64 d.kind,.int .i64 d.a,.int .i64 d.b,.int .i64 d.c,.int .i64 d.n,.int .i64 d.next,.string ⟨d.sign.toArray⟩,.int .i64 d.site,.int .i64 d.aA,.bool d.els] 176)
theorem qW{w:Wd}(G:Gd C g)(hR:bx C F w)(hL:dq C.pb g cap ns w)(nO:Bk w ge (gF e) 191)(d:aJ):iV C g cap ns e ge d w w.heap.size (w.heap.size+1) (w.heap.size+1+1) F (wW w ge d):=by obtain⟨h1,h2,h3,kb⟩:=bY (w:=w) (o1:=.cells #[.bool false,.slice (some ⟨ge,0,none⟩) 8 8] 121) (o2:=.cells #[.int .i64 0,.int .i64 0] 191) (o3:=.cells (pz d) 176) (Below.refl _ _);have hk:=RK.aB kb hR.le;exact⟨hR.call kb,RI.look G hL hk,(kb.block _ (ah nO)).trans nO,h1,h2,h3,hk,.inl hR,Nat.le_refl _,by omega,by omega⟩
theorem GA{u v:Value}{ty:TypeId}(h:Bk w' k #[u,v] ty)(hb:Below w.heap.size w w')(hk:w.heap.size<=k)(a b:Value):Below w.heap.size w ((w'.setCell ⟨k,0,none⟩ a).setCell ⟨k,1,none⟩ b)/\((w'.setCell ⟨k,0,none⟩ a).setCell ⟨k,1,none⟩ b).heap[k]?=some (.cells #[a,b] ty) :=
 ⟨(hb.setCell (p:=⟨k,0,none⟩) hk _).setCell (p:=⟨k,1,none⟩) hk _,by rw[ai (ai h 0 a) 1 b];rfl⟩
theorem bx.own(h:bx C F w)(hb:k≠C.b)(hf:k≠C.gf)(hs:k≠C.gs)(he:∀e,w.heap[k]?≠some (.cells (gF e) 191))(ix:∀j,j≠k->w'.heap[j]?=w.heap[j]?):bx C F w':=by
 have oc:∀j o,j≠k->w'.cell? ⟨j,o,none⟩=w.cell? ⟨j,o,none⟩:=fun j o hj=>by unfold World.cell?;simp only;rw[ix j hj]
 refine⟨(ix _ hb.symm).trans h.aV,?_,?_,fun p s hp=>?_,fun i m hm=>?_,h.lb,h.lf,h.ls,h.A4⟩
 ·rw[ix _ hf.symm];exact h.gf
 ·rw[ix _ hs.symm];exact h.gs
 ·obtain⟨u,v,e1,e2,e3,e4⟩:=h.f p s hp
  refine⟨u,v,(oc _ _ hf.symm).trans e1,(oc _ _ hf.symm).trans e2,?_,e4⟩;cases s with
  | none=>exact e3
  | some e =>obtain⟨g,q1,q2⟩:=e3;exact⟨g,q1,(ix g (fun hg=>he e (by rw[<-hg];exact q2))).trans q2⟩
 ·obtain⟨e1,e2⟩:=h.s i m hm
  exact⟨(oc _ _ hs.symm).trans e1,e2⟩
theorem RK.own(h:RK C w w')(hk:w.heap.size<=k)(hb:C.base<=w.heap.size)(i:Nat)(u:Value):RK C w (w'.setCell ⟨k,i,none⟩ u) :=
 ⟨h.below.setCell (p:=⟨k,i,none⟩) (Nat.le_trans hb hk) _,fun j hj h1 h2=>by rw[Below.heap_setCell _ _ _ _ (by show j≠k;omega)];exact h.others j hj h1 h2⟩
theorem BI(c:Array Value)(h:c.size=2)(ty:TypeId)(e:dt):some (Obj.cells c ty)≠some (.cells (gF e) 191):=fun q=>by
 injection q with q
 injection q with q1 q2
 rw[q1,CA]at h;omega
theorem iV.lt(h:iV C g cap ns e ge d w k6 k8 kn F W):C.gf<w.heap.size/\C.gs<w.heap.size:=by
 rcases h.old with h | h
 ·obtain⟨c1,h1,_⟩:=h.gf
  obtain⟨c2,h2,_⟩:=h.gs;exact⟨ah h1,ah h2⟩
 ·exact h
theorem iV.ret(h:iV C g cap ns e ge d w k6 k8 kn F W)(u v:Value):bx C F ((W.setCell ⟨k8,0,none⟩ u).setCell ⟨k8,1,none⟩ v)/\RK C w ((W.setCell ⟨k8,0,none⟩ u).setCell ⟨k8,1,none⟩ v):=by
 obtain⟨l1,l2⟩:=h.lt;have l8:=h.l8;have hb:k8≠C.b:=fun q=>by have:=h.ra.aV;rw[<-q,h.res]at this;cases this
 have hle:C.base<=w.heap.size:=Nat.le_trans h.ra.lf (by omega);exact⟨h.ra.own (k:=k8) hb (by omega) (by omega) (fun e=>by rw[h.res];exact BI _ rfl _ _) (fun j hj=>by rw[Below.heap_setCell _ _ _ _ hj,Below.heap_setCell _ _ _ _ hj]),(h.bF.own l8 hle _ _).own l8 hle _ _⟩
theorem iV.late(G:Gd C g)(h:iV C g cap ns e ge d w k6 k8 kn F V)(u v:Value)(ty:TypeId) :
  iV C g cap ns e ge d w k6 k8 kn F (V.alloc (.cells #[u,v] ty))/\∀w8,Below (V.alloc (.cells #[u,v] ty)).heap.size (V.alloc (.cells #[u,v] ty)) w8->iV C g cap ns e ge d w k6 k8 kn F w8/\w8.heap[V.heap.size]?=some (.cells #[u,v] ty)/\∀a b,iV C g cap ns e ge d w k6 k8 kn F ((w8.setCell ⟨V.heap.size,0,none⟩ a).setCell ⟨V.heap.size,1,none⟩ b)/\((w8.setCell ⟨V.heap.size,0,none⟩ a).setCell ⟨V.heap.size,1,none⟩ b).heap[V.heap.size]?=some (.cells #[a,b] ty):=by
 have ba:=below_alloc1 V (.cells #[u,v] ty);have hn:=heap_alloc_new V (.cells #[u,v] ty);refine⟨h.call G ba,fun w8 b8=>?_⟩;have Bo:=(b8.block _ (ah hn)).trans hn;have bb:=ba.trans (b8.mono ba.size);exact⟨h.call G bb,Bo,fun a b=>⟨h.call G (GA Bo bb (Nat.le_refl _) a b).1,(GA Bo bb (Nat.le_refl _) a b).2⟩⟩
theorem I1(π:bO){n:Nat}(G:Gd C g)(ct:Ct)(hd:ns[k]?=some d)(hk:d.kind=1)(hn:d.n=(n:Int))(hm:n<=32767):jm C π g cap ns (.num n) k ct:=by
 intro F e ge rec w hR hL he nO hr;have HW:=qW G hR hL nO d;obtain⟨W,hW⟩:∃W,wW w ge d=W:=⟨_,rfl⟩;rw[hW]at HW;unfold wW at hW;rw[hk]at hW;have m0:=cell_of hR.aV 0 (v:=.pointer (some ⟨C.pb,0,none⟩)) rfl;have c0:=hL.slice;obtain⟨dj,r0,r1,r2,r3,r4,r5,r6,r7,r8,r9⟩:=hL.facts hd;have h1:=hL.mm;have h2:=hL.hmax;have h3:=hL.hn;have lp:=hL.ltp;have lg:=hL.ltg;have lb:C.b<w.heap.size:=ah hR.aV;rw[hk]at r0;have H:=hid HW;have HE:Hid (WI.told π rec F (dA π (.num n) ct e).1=F/\Qu (pA ⟨(n:Int),(n:Int)⟩) (pB ⟨(n:Int),(n:Int)⟩) true (dA π (.num n) ct e).2):=⟨WI.ep π rec F,rfl,rfl,rfl,⟨by show(-32768:Int)<=(n:Int);omega,Int.le_refl _,by show(n:Int)<=32767;omega⟩⟩;have HK:Hid (d.kind=1/\d.n=(n:Int)):=⟨hk,hn⟩;clear hR hL nO he hr hd HW hk hn;go_enter func105,ntmps105;go_upto_region 2 with fail;try rw[hW]
 obtain⟨k6,e6⟩:∃k6,k6=w.heap.size:=⟨_,rfl⟩;obtain⟨k8,e8⟩:∃k8,k8=w.heap.size+1:=⟨_,rfl⟩;obtain⟨kn,en⟩:∃kn,kn=w.heap.size+1+1:=⟨_,rfl⟩;rw[<-en,<-e8,<-e6];rw[<-en,<-e8,<-e6]at H;clear hW m0 c0 r0 r1 r2 r3 r4 r5 r6 r7 r8 r9 h1 h2 h3 lp lg lb dj e6 e8 en;have m1:=H.ra.cells.1;have n0:=cell_of H.nd 0 (v:=.int .i64 1) (by rw[<-HK.1];rfl);have n4:=cell_of H.nd 4 (v:=.int .i64 (n:Int)) (by rw[<-HK.2];rfl);go_wp2_with fail;refine wp_region_held_drew (S:=fun w':Wd=>iV C g cap ns e ge d w k6 k8 kn F w') (by kernel_rfl) (H.call G (Below.refl _ _).drew) (fun aa=>?_);have HG:=hid G;clear m1 n0 n4 H G;generalize W.drew=V at *;refine tq 0 (.pointer (some ⟨C.b,0,none⟩)) aa ?_;refine tq 1 (.pointer (some ⟨C.b,0,none⟩)) aa ?_;refine tq 2 (.pointer (some ⟨C.b,1,none⟩)) aa ?_;refine tq 3 (.pointer (some ⟨C.b,1,none⟩)) aa ?_;refine tk 4 (.int .i64 0) rfl (fun w' h=>by have q:=h.ra.cells.1;go_simp) aa ?_;refine tq 5 (.pointer (some ⟨kn,4,none⟩)) aa ?_;refine tk 6 (.int .i64 (n:Int)) rfl (fun w' h=>by have q:=cell_of h.nd 4 (v:=.int .i64 (n:Int)) (by rw[<-HK.2];rfl);go_simp) aa ?_;refine Kn 7 8 (fun K hK=>?c1) (fun K hK=>?c2)
 case' c1 =>
  simp only[bT,gN];go_simp;refine(QA _ _).mono ?_;rintro r w8⟨rfl,b8⟩;generalize pB ⟨(n:Int),(n:Int)⟩=xb at *;generalize pA ⟨(n:Int),(n:Int)⟩=xa at *;have h8:=aa.call HG.out b8;have h9:∀o,iV C g cap ns e ge d w k6 k8 kn F (w8.alloc o):=fun o=>aa.call HG.out (b8.alloc b8.size o)
  have hv:=heap_alloc_new w8 (.cells #[.int .i64 xa,.int .i64 xb] 191);clear b8;go_wp2_with fail;refine hK.out _ _ h8 (fun _=>?_);clear hK K;refine cH 8 fun K hK=>?_
  simp only[bT];go_simp;refine hK.out _ _ (h9 _) (fun _=>?_);clear hK K;refine cH 9 fun K hK=>?_
  simp only[bT];go_simp;refine hK.out _ _ (h9 _) (fun _=>?_);clear hK K;refine wpAnyH_done (by kernel_rfl) ?_ _;replace h9:=h9 (.cells #[.int .i64 xa,.int .i64 xb] 191);generalize w8.alloc (.cells #[.int .i64 xa,.int .i64 xb] 191)=X at *;generalize w8.heap.size=kv at *
 case' c2 =>
  simp only[bT,gN];go_simp;obtain⟨h8,hL⟩:=aa.late HG.out (.int .i64 0) (.int .i64 0) 191;have HL:=hid hL;clear hL;generalize V.alloc (.cells #[.int .i64 0,.int .i64 0] 191)=V1 at *;generalize V.heap.size=kv at *;refine hK.out _ _ h8 (fun _=>?_);clear hK K;refine cH 7 fun K hK=>?_
  simp only[bT];go_simp;refine(QA _ _).mono ?_;rintro r w8⟨rfl,b8⟩;generalize pB ⟨(n:Int),(n:Int)⟩=xb at *;generalize pA ⟨(n:Int),(n:Int)⟩=xa at *;obtain⟨Uj,Bo,hf⟩:=HL.out w8 b8;obtain⟨h9,hv⟩:=hf (.int .i64 xa) (.int .i64 xb);obtain⟨q0,q1,mv,mu,_⟩:=aH Bo;clear b8 hf Bo;go_wp2_with fail;refine hK.out _ _ Uj (fun _=>?_);clear hK K;refine cH 9 fun K hK=>?_
  simp only[bT];go_simp;refine hK.out _ _ h9 (fun _=>?_);clear hK K;refine wpAnyH_done (by kernel_rfl) ?_ _;generalize (w8.setCell ⟨kv,0,none⟩ (.int .i64 xa)).setCell ⟨kv,1,none⟩ (.int .i64 xb)=X at *
 all_goals
  have v0:=cell_of hv 0 (v:=.int .i64 xa) rfl;have v1:=cell_of hv 1 (v:=.int .i64 xb) rfl;obtain⟨m0,m1,kh,kj,mq⟩:=aH h9.res;have MQ:=hid (mq (.int .i64 xa) (.int .i64 xb));have HT:=hid (h9.ret (.int .i64 xa) (.int .i64 xb));clear h9 hv mq h8 aa;go_wp2_with fail;exact bodyPost_ret (v:=.tuple #[.agg #[.int .i64 xa,.int .i64 xb],.bool true]) (by simp[results,results105,go_sem,MQ.1,MQ.2]) rfl ⟨xa,xb,true,rfl,by rw[HE.1];exact HT.1,HT.2,HE.2⟩
end
end RI
end
section
namespace RI
section
variable{F:jB}
variable{g cap vn vc k:Nat}
variable{ns:List aJ}
variable{w W W':Wd}
theorem fl(w:Wd):Calls prog 75 #[] w fun r w'=>r=.returned (.agg #[.bool true,.slice none 0 0])/\Below w.heap.size w w':=by go_enter func75,ntmps75;go_wp2_with fail;go_returns;exact⟨rfl,by go_grown⟩
theorem jT(k:Nat)(hk:k<6)(w:Wd):Calls prog 148 #[.string ⟨(aQ k).toArray⟩] w fun r w'=>r=.returned (.string ⟨(aQ (wH k)).toArray⟩)/\w'=w:=by
 rcases(show k=0∨k=1∨k=2∨k=3∨k=4∨k=5 from by omega) with rfl | rfl | rfl | rfl | rfl | rfl
 all_goals
  simp only[aQ,wH];go_enter func148,ntmps148;go_wp2_with fail;go_ret;exact⟨rfl,rfl⟩
theorem zC(k:Nat)(hk:k<6)(w:Wd):Calls prog 191 #[.string ⟨(aQ k).toArray⟩] w fun r w'=>r=.returned (.string ⟨(aQ (dT k)).toArray⟩)/\w'=w:=by
 rcases(show k=0∨k=1∨k=2∨k=3∨k=4∨k=5 from by omega) with rfl | rfl | rfl | rfl | rfl | rfl
 all_goals
  simp only[aQ,dT];go_enter func191,ntmps191;go_wp2_with fail;go_ret;exact⟨rfl,rfl⟩
structure MH(C:Rc)(F:jB)(g cap:Nat)(ns:List aJ)(w:Wd)(k7 k9 uR lE:Nat)(n:Bool)(va:Option Addr)(vn vc:Nat)(x y:T)(W:Wd):Prop where
 ra:bx C F W
 look:dq C.pb g cap ns W
 s:W.heap[k7]?=some (.cells #[.bool n,.slice va vn vc] 121)
 x:W.heap[k9]?=some (.cells #[.int .i64 (pA x),.int .i64 (pB x)] 191)
 y:W.heap[uR]?=some (.cells #[.int .i64 (pA y),.int .i64 (pB y)] 191)
 r:W.heap[lE]?=some (.cells #[.bool false,.slice none 0 0] 121)
 b:Below w.heap.size w W
 l:w.heap.size<=lE
theorem MH.call{C:Rc}{k7 k9 uR lE:Nat}{n:Bool}{va:Option Addr}{x y:T}(h:MH C F g cap ns w k7 k9 uR lE n va vn vc x y W)(k:Below W.heap.size W W'):MH C F g cap ns w k7 k9 uR lE n va vn vc x y W' :=
 ⟨h.ra.call k,h.look.after k,(k.block _ (ah h.s)).trans h.s,(k.block _ (ah h.x)).trans h.x,(k.block _ (ah h.y)).trans h.y,(k.block _ (ah h.r)).trans h.r,h.b.trans (k.mono h.b.size),h.l⟩
def lW(w:Wd)(n:Bool)(va:Option Addr)(vn vc:Nat)(x y:T):Wd:=(((w.alloc (.cells #[.bool n,.slice va vn vc] 121)).alloc (.cells #[.int .i64 (pA x),.int .i64 (pB x)] 191)).alloc (.cells #[.int .i64 (pA y),.int .i64 (pB y)] 191)).alloc (.cells #[.bool false,.slice none 0 0] 121)
theorem CF{C:Rc}{w:Wd}(n:Bool)(va:Option Addr)(vn vc:Nat)(x y:T)(hR:bx C F w)(hL:dq C.pb g cap ns w):MH C F g cap ns w w.heap.size (w.heap.size+1) (w.heap.size+1+1) (w.heap.size+1+1+1) n va vn vc x y (lW w n va vn vc x y):=by obtain⟨h1,h2,h3,h4,kb⟩:=bM (w:=w) (o1:=.cells #[.bool n,.slice va vn vc] 121) (o2:=.cells #[.int .i64 (pA x),.int .i64 (pB x)] 191) (o3:=.cells #[.int .i64 (pA y),.int .i64 (pB y)] 191) (o4:=.cells #[.bool false,.slice none 0 0] 121) (Below.refl _ _);exact⟨hR.call kb,hL.after kb,h1,h2,h3,h4,kb,by omega⟩
theorem vi{C:Rc}{d:aJ}(hd:ns[k]?=some d)(n:Bool)(va:Option Addr)(vn vc:Nat)(x y:T)(r:Nat)(hR:bx C F w)(hL:dq C.pb g cap ns w)(h:n=true∨d.kind≠2) :
  Calls prog 190 #[.pointer (some ⟨C.b,0,none⟩),.agg #[.bool n,.slice va vn vc],.int .i64 (k:Nat),.agg #[.int .i64 (pA x),.int .i64 (pB x)],.string ⟨(aQ r).toArray⟩,.agg #[.int .i64 (pA y),.int .i64 (pB y)]] w fun r w'=>r=.returned (.agg #[.bool n,.slice va vn vc])/\Below w.heap.size w w':=by
 have HH:=hid h;clear h;have HW:=CF n va vn vc x y hR hL;obtain⟨W,hW⟩:∃W,lW w n va vn vc x y=W:=⟨_,rfl⟩;rw[hW]at HW;unfold lW at hW;have H:=hid HW;have HD:Hid (ns[k]?=some d):=hd;generalize aQ r=sg at *;clear hR hL hd HW;go_enter func190,ntmps190;go_upto_region 1 with fail;try rw[hW]
 obtain⟨k7,e7⟩:∃k,k=w.heap.size:=⟨_,rfl⟩;obtain⟨k9,e9⟩:∃k,k=w.heap.size+1:=⟨_,rfl⟩;obtain⟨uR,e11⟩:∃k,k=w.heap.size+1+1:=⟨_,rfl⟩;obtain⟨lE,e12⟩:∃k,k=w.heap.size+1+1+1:=⟨_,rfl⟩;rw[<-e12,<-e11,<-e9,<-e7];rw[<-e12,<-e11,<-e9,<-e7]at H;clear hW e7 e9 e11 e12;have m0:=cell_of H.ra.aV 0 (v:=.pointer (some ⟨C.pb,0,none⟩)) rfl;have c0:=H.look.slice;obtain⟨dj,r0,r1,r2,r3,r4,r5,r6,r7,r8,r9⟩:=H.look.facts HD.out;have h1:=H.look.mm;have h2:=H.look.hmax;have h3:=H.look.hn;go_upto_region 2 with fail;have h9:=H.call (below_alloc1 W (.cells (pz d) 176))
 have hn:=heap_alloc_new W (.cells (pz d) 176);unfold pz at h9 hn;generalize W.alloc (.cells #[.int .i64 d.kind,.int .i64 d.a,.int .i64 d.b,.int .i64 d.c,.int .i64 d.n,.int .i64 d.next,.string ⟨d.sign.toArray⟩,.int .i64 d.site,.int .i64 d.aA,.bool d.els] 176)=X at *;generalize W.heap.size=kn at *;have n0:=cell_of hn 0 (v:=.int .i64 d.kind) rfl;have s0:=cell_of h9.s 0 (v:=.bool n) rfl;have s1:=cell_of h9.s 1 (v:=.slice va vn vc) rfl;obtain⟨y0,y1,nA,nB,mq⟩:=aH h9.r;have MQ:=hid (mq (.bool n) (.slice va vn vc));have HB:Hid (Below w.heap.size w _):=(h9.b.setCell (p:=⟨lE,0,none⟩) h9.l (.bool n)).setCell (p:=⟨lE,1,none⟩) h9.l (.slice va vn vc);clear H m0 c0 r0 r1 r2 r3 r4 r5 r6 r7 r8 r9 h1 h2 h3 dj h9 mq hn HD;cases n with
 | true =>go_wp2_with fail;exact bodyPost_ret (v:=.agg #[.bool true,.slice va vn vc]) (by simp[results,results190,go_sem,MQ.1,MQ.2]) rfl ⟨rfl,HB.out⟩
 | false =>
  have zr:¬ d.kind=2:=by simpa using HH.out
  generalize d.kind=q at *;clear HH;go_wp2_with fail;exact bodyPost_ret (v:=.agg #[.bool false,.slice va vn vc]) (by simp[results,results190,go_sem,MQ.1,MQ.2]) rfl ⟨rfl,HB.out⟩
end
end RI
end
section
namespace RI
section
variable{V w W W':Wd}
variable{x y:T}
variable{v a b sv:Value}
variable{s:dB}
variable{k g cap n lo:Nat}
variable{F:jB}
variable{ns:List aJ}
theorem Qz{S:Wd->Prop}(hS:S V)(call:∀W W',S W->Below W.heap.size W W'->S W')(u v:Value)(ty:TypeId):S (V.alloc (.cells #[u,v] ty))/\∀w8,Below (V.alloc (.cells #[u,v] ty)).heap.size (V.alloc (.cells #[u,v] ty)) w8->S w8/\w8.heap[V.heap.size]?=some (.cells #[u,v] ty)/\∀a b,S ((w8.setCell ⟨V.heap.size,0,none⟩ a).setCell ⟨V.heap.size,1,none⟩ b)/\((w8.setCell ⟨V.heap.size,0,none⟩ a).setCell ⟨V.heap.size,1,none⟩ b).heap[V.heap.size]?=some (.cells #[a,b] ty):=by have ba:=below_alloc1 V (.cells #[u,v] ty);have hn:=heap_alloc_new V (.cells #[u,v] ty);refine⟨call _ _ hS ba,fun w8 b8=>?_⟩;have Bo:=(b8.block _ (ah hn)).trans hn;have bb:=ba.trans (b8.mono ba.size);exact⟨call _ _ hS bb,Bo,fun a b=>⟨call _ _ hS (GA Bo bb (Nat.le_refl _) a b).1,(GA Bo bb (Nat.le_refl _) a b).2⟩⟩
def tg(π:bO)(side:Sm)(r:Nat)(y:T)(s:dB):dB:=qz (Dm π) side r y s
theorem So(π:bO)(n:Nat)(hm:n<8)(r:Nat)(hr:r<6)(e:dt)(he:∀k,Wv (e k))(wy:Wv y)(hc:e ⟨n,hm⟩=x∨r≠3∨y.a≠y.b):tg π (.name n) r y (some e)=if max (pA (e ⟨n,hm⟩)) (pA (iB r x y))<=min (pB (e ⟨n,hm⟩)) (pB (iB r x y)) then some (ph e n ⟨max (pA (e ⟨n,hm⟩)) (pA (iB r x y)),min (pB (e ⟨n,hm⟩)) (pB (iB r x y))⟩) else none:=by
 have q:=RZ r hr (x:=x) (z:=e ⟨n,hm⟩) (he _) wy hc;have q2:(Dm π).bound r (pE (Dm π) e n) y=dy r (e ⟨n,hm⟩) y:=congrArg (fun v=>dy r v y) (dif_pos hm);by_cases hp:max (pA (e ⟨n,hm⟩)) (pA (iB r x y))<=min (pB (e ⟨n,hm⟩)) (pB (iB r x y))
 ·rw[if_pos hp]
  exact vo (Dm π) n r y e _ (q2.trans (q.trans (if_pos hp)))
 ·rw[if_neg hp]
  exact u7 (Dm π) n r y e (q2.trans (q.trans (if_neg hp)))
theorem dL.other(h:dL w v s){c:Array Value}(hk:Bk w k c 121)(i:Nat)(u:Value):dL (w.setCell ⟨k,i,none⟩ u) v s:=by
 cases s with
 | none=>exact h
 | some e =>obtain⟨g,h1,h2⟩:=h;refine⟨g,h1,?_⟩;rw[Below.heap_setCell _ _ _ _ (fun q:g=k=>by rw[q,hk]at h2;cases h2)];exact h2
theorem dL.put(h:dL w v s)(hk:Bk w k #[a,b] 121)(u1 u2:Value):dL ((w.setCell ⟨k,0,none⟩ u1).setCell ⟨k,1,none⟩ u2) v s :=
 (h.other hk 0 u1).other (ai hk 0 u1) 1 u2
structure vm(C:Rc)(F:jB)(g cap:Nat)(ns:List aJ)(w:Wd)(k7 k9 uR lE kn ge:Nat)(e:dt)(n:Nat)(x y:T)(W:Wd):Prop where
 ls:MH C F g cap ns w k7 k9 uR lE false (some ⟨ge,0,none⟩) 8 8 x y W
 nd:∃c,W.heap[kn]?=some (.cells c 176)/\c[4]?=some (.int .i64 (n:Int))
 env:W.heap[ge]?=some (.cells (gF e) 191)
theorem vm.call{C:Rc}{k7 k9 uR lE kn ge:Nat}{e:dt}(h:vm C F g cap ns w k7 k9 uR lE kn ge e n x y W)(k:Below W.heap.size W W'):vm C F g cap ns w k7 k9 uR lE kn ge e n x y W':=by obtain⟨c,h1,h2⟩:=h.nd;exact⟨h.ls.call k,⟨c,(k.block _ (ah h1)).trans h1,h2⟩,(k.block _ (ah h.env)).trans h.env⟩
theorem Bw(π:bO){C:Rc}{n:Nat}{d:aJ}(hd:ns[k]?=some d)(hk:d.kind=2)(hn:d.n=(n:Int))(hm:n<8)(e:dt)(he:∀k,Wv (e k))(ge:Nat)(wx:Wv x)(wy:Wv y)(r:Nat)(hr:r<6)(hR:bx C F w)(hL:dq C.pb g cap ns w)(nO:Bk w ge (gF e) 191)(hc:e ⟨n,hm⟩=x∨r≠3∨y.a≠y.b) :
  Calls prog 190 #[.pointer (some ⟨C.b,0,none⟩),.agg #[.bool false,.slice (some ⟨ge,0,none⟩) 8 8],.int .i64 (k:Nat),.agg #[.int .i64 (pA x),.int .i64 (pB x)],.string ⟨(aQ r).toArray⟩,.agg #[.int .i64 (pA y),.int .i64 (pB y)]] w fun q w'=>∃v,q=.returned v/\dL w' v (tg π (.name n) r y (some e))/\Below w.heap.size w w':=by
 obtain⟨z,hz⟩:∃z,z=e ⟨n,hm⟩:=⟨_,rfl⟩;obtain⟨t,ht⟩:∃t,t=iB r x y:=⟨_,rfl⟩;have EB:Hid (tg π (.name n) r y (some e)=if max (pA z) (pA t)<=min (pB z) (pB t) then some (ph e n ⟨max (pA z) (pA t),min (pB z) (pB t)⟩) else none):=by unfold Hid;rw[hz,ht];exact So π n hm r hr e he wy hc
 obtain⟨za,hza⟩:∃za,za=max (pA z) (pA t):=⟨_,rfl⟩;obtain⟨zb,hzb⟩:∃zb,zb=min (pB z) (pB t):=⟨_,rfl⟩;rw[<-hza,<-hzb]at EB;have Tc:Hid (∀w:Wd,Calls prog 215 #[.agg #[.int .i64 (pA x),.int .i64 (pB x)],.string ⟨(aQ r).toArray⟩,.agg #[.int .i64 (pA y),.int .i64 (pB y)]] w fun e w'=>e=.returned (.agg #[.int .i64 (pA t),.int .i64 (pB t)])/\Below w.heap.size w w'):=fun w=>by rw[ht];exact LC r hr x.a x.b y.a y.b w wx.1 wx.2.1 wx.2.2 wy.1 wy.2.1 wy.2.2
 have Yy:=fun w:Wd=>OJ (pA z) (pB z) (pA t) (pB t) w
 rw[<-hza,<-hzb]at Yy;obtain⟨ok,rT⟩:∃ok,decide (za<=zb)=ok:=⟨_,rfl⟩;rw[rT]at Yy;have HMT:=hid Yy;have tQ:=hid rT;clear hza hzb Yy rT;have HZ:=hid hz;have Of:=hid nO;clear hz ht hc wx wy he nO hr;have HK:Hid (d.kind=2/\d.n=(n:Int)):=⟨hk,hn⟩;obtain⟨J2,HJ⟩:∃J2,Hid (J2=n*2):=⟨_,rfl⟩;have hmi:((n:Nat):Int)<8:=by omega
 clear hk hn;have HW:=CF false (some ⟨ge,0,none⟩) 8 8 x y hR hL;obtain⟨W,hW⟩:∃W,lW w false (some ⟨ge,0,none⟩) 8 8 x y=W:=⟨_,rfl⟩;rw[hW]at HW;unfold lW at hW;have H:=hid HW;have HD:Hid (ns[k]?=some d):=hd;generalize aQ r=sg at *;clear hR hL hd HW;go_enter func190,ntmps190;go_upto_region 1 with fail;try rw[hW]
 obtain⟨k7,e7⟩:∃k,k=w.heap.size:=⟨_,rfl⟩;obtain⟨k9,e9⟩:∃k,k=w.heap.size+1:=⟨_,rfl⟩;obtain⟨uR,e11⟩:∃k,k=w.heap.size+1+1:=⟨_,rfl⟩;obtain⟨lE,e12⟩:∃k,k=w.heap.size+1+1+1:=⟨_,rfl⟩;rw[<-e12,<-e11,<-e9,<-e7];rw[<-e12,<-e11,<-e9,<-e7]at H;clear hW e7 e9 e11 e12;have m0:=cell_of H.ra.aV 0 (v:=.pointer (some ⟨C.pb,0,none⟩)) rfl;have c0:=H.look.slice;obtain⟨dj,r0,r1,r2,r3,r4,r5,r6,r7,r8,r9⟩:=H.look.facts HD.out;have h1:=H.look.mm;have h2:=H.look.hmax;have h3:=H.look.hn;rw[HK.1]at r0;rw[HK.2]at r4;go_upto_region 2 with fail;have h9:=H.call (below_alloc1 W (.cells (pz d) 176))
 have hn:=heap_alloc_new W (.cells (pz d) 176);have XN:Hid (_=_):=((H.b.trans ((below_alloc1 W (.cells (pz d) 176)).mono H.b.size)).block _ (ah Of.out)).trans Of.out;unfold pz at h9 hn XN;rw[HK.1,HK.2]at h9 hn XN;generalize W.alloc (.cells #[.int .i64 2,.int .i64 d.a,.int .i64 d.b,.int .i64 d.c,.int .i64 (n:Int),.int .i64 d.next,.string ⟨d.sign.toArray⟩,.int .i64 d.site,.int .i64 d.aA,.bool d.els] 176)=X at *;generalize W.heap.size=kn at *;have n0:=cell_of hn 0 (v:=.int .i64 2) rfl;have s0:=cell_of h9.s 0 (v:=.bool false) rfl;have x0:=cell_of h9.x 0 (v:=.int .i64 (pA x)) rfl;have x1:=cell_of h9.x 1 (v:=.int .i64 (pB x)) rfl;have y0:=cell_of h9.y 0 (v:=.int .i64 (pA y)) rfl;have y1:=cell_of h9.y 1 (v:=.int .i64 (pB y)) rfl;have hX:vm C F g cap ns w k7 k9 uR lE kn ge e n x y X:=⟨h9,⟨_,hn,rfl⟩,XN.out⟩;have hL:=Qz hX (fun _ _ h k=>h.call k) (.int .i64 (pA y)) (.int .i64 (pB y)) 191;have Rl:=hid hL;clear H m0 c0 r0 r1 r2 r3 r4 r5 r6 r7 r8 r9 h1 h2 h3 dj hn HD h9 XN hL;go_upto_region 5 with fail;generalize X.alloc (.cells #[.int .i64 (pA y),.int .i64 (pB y)] 191)=Y at *
 generalize X.heap.size=kb at *;clear x0 x1 y0 y1 n0 s0 hX;have hA:=Rl.1.ls;have x0:=cell_of hA.x 0 (v:=.int .i64 (pA x)) rfl;have x1:=cell_of hA.x 1 (v:=.int .i64 (pB x)) rfl;have y0:=cell_of hA.y 0 (v:=.int .i64 (pA y)) rfl;have y1:=cell_of hA.y 1 (v:=.int .i64 (pB y)) rfl;have m1:=hA.ra.cells.1;clear hA;go_wp2_with fail;refine(Tc.out _).mono ?_;rintro q w6⟨rfl,b6⟩;obtain⟨_,VN,hf6⟩:=Rl.2 w6 b6;obtain⟨h7,hkb⟩:=hf6 (.int .i64 (pA t)) (.int .i64 (pB t));obtain⟨q0,q1,mv,mu,_⟩:=aH VN;have H7:=hid (And.intro h7 hkb);clear Rl b6 hf6 VN h7 hkb x0 x1 y0 y1 m1;go_upto_region 9 with fail;generalize (w6.setCell ⟨kb,0,none⟩ (.int .i64 (pA t))).setCell ⟨kb,1,none⟩ (.int .i64 (pB t))=W7 at *
 clear q0 q1 mv mu;have hS:vm C F g cap ns w k7 k9 uR lE kn ge e n x y W7.drew/\W7.drew.heap[kb]?=some (.cells #[.int .i64 (pA t),.int .i64 (pB t)] 191):=⟨H7.1.call (Below.refl _ _).drew,H7.2⟩;have uW:Hid (∀W:Wd,vm C F g cap ns w k7 k9 uR lE kn ge e n x y W->W.cell? ⟨ge,J2,none⟩=some (.int .i64 (pA z))/\W.cell? ⟨ge,J2+1,none⟩=some (.int .i64 (pB z))):=fun W h=>by obtain⟨a1,a2⟩:=kQ e n hm;rw[HJ.out,HZ.out];exact⟨cell_of h.env _ a1,cell_of h.env _ a2⟩
 refine wp_region_held_drew (S:=fun w':Wd=>vm C F g cap ns w k7 k9 uR lE kn ge e n x y w'/\w'.heap[kb]?=some (.cells #[.int .i64 (pA t),.int .i64 (pB t)] 191)) (by kernel_rfl) hS (fun aa=>?_);clear hS H7;generalize W7.drew=V at *;refine tq 0 (.pointer (some ⟨C.b,0,none⟩)) aa ?_;refine tq 1 (.pointer (some ⟨C.b,0,none⟩)) aa ?_;refine tq 2 (.pointer (some ⟨C.b,1,none⟩)) aa ?_;refine tq 3 (.pointer (some ⟨C.b,1,none⟩)) aa ?_;refine tk 4 (.int .i64 0) rfl (fun w' h=>by have q:=h.1.ls.ra.cells.1;go_simp) aa ?_;refine tq 5 (.pointer (some ⟨k7,1,none⟩)) aa ?_;refine tk 6 (.slice (some ⟨ge,0,none⟩) 8 8) rfl (fun w' h=>by have q:=cell_of h.1.ls.s 1 (v:=.slice (some ⟨ge,0,none⟩) 8 8) rfl;go_simp) aa ?_;refine tq 7 (.pointer (some ⟨kn,4,none⟩)) aa ?_;refine tk 8 (.int .i64 (n:Int)) rfl (fun w' h=>by obtain⟨c,q1,q2⟩:=h.1.nd;have q:=cell_of q1 4 q2;go_simp) aa ?_;refine tk 9 (.pointer (some ⟨ge,J2,none⟩)) rfl (fun w' h=>by rw[HJ.out];go_simp) aa ?_;refine tk 10 (.agg #[.int .i64 (pA z),.int .i64 (pB z)]) rfl (fun w' h=>by have q:=(uW.out _ h.1).1;have q2:=(uW.out _ h.1).2;go_simp) aa ?_;refine tk 11 (.agg #[.int .i64 (pA t),.int .i64 (pB t)]) rfl (fun w' h=>by have q:=cell_of h.2 0 (v:=.int .i64 (pA t)) rfl;have q2:=cell_of h.2 1 (v:=.int .i64 (pB t)) rfl;go_simp) aa ?_;refine Kn 12 16 (fun K hK=>?c1) (fun K hK=>?c2)
 case' c1 =>
  simp only[bT,gN];go_simp;refine(HMT.out _).mono ?_;rintro q w8⟨rfl,b8⟩;have hC:∀W W':Wd,(vm C F g cap ns w k7 k9 uR lE kn ge e n x y W/\W.heap[kb]?=some (.cells #[.int .i64 (pA t),.int .i64 (pB t)] 191))->Below W.heap.size W W'->vm C F g cap ns w k7 k9 uR lE kn ge e n x y W'/\W'.heap[kb]?=some (.cells #[.int .i64 (pA t),.int .i64 (pB t)] 191):=fun W W' h k=>⟨h.1.call k,(k.block _ (ah h.2)).trans h.2⟩
  have h8:=hC _ _ aa b8;have h9:∀o,vm C F g cap ns w k7 k9 uR lE kn ge e n x y (w8.alloc o)/\(w8.alloc o).heap[kb]?=some (.cells #[.int .i64 (pA t),.int .i64 (pB t)] 191):=fun o=>hC _ _ aa (b8.alloc b8.size o)
  have hv:=heap_alloc_new w8 (.cells #[.int .i64 za,.int .i64 zb] 191);clear b8 hC;go_wp2_with fail;refine hK.out _ _ h8 (fun _=>?_);clear hK K;refine tk 13 (.tuple #[.agg #[.int .i64 za,.int .i64 zb],.bool ok]) rfl (fun w' h=>by go_simp) h8 ?_;refine tk 14 (.agg #[.int .i64 za,.int .i64 zb]) rfl (fun w' h=>by go_simp) h8 ?_;refine tk 15 (.bool ok) rfl (fun w' h=>by go_simp) h8 ?_;refine cH 16 fun K hK=>?_
  simp only[bT,gN];go_simp;refine hK.out _ _ (h9 _) (fun _=>?_);clear hK K;refine cH 17 fun K hK=>?_
  simp only[bT];go_simp;refine hK.out _ _ (h9 _) (fun _=>?_);clear hK K;refine cH 18 fun K hK=>?_
  simp only[bT];go_simp;refine hK.out _ _ (h9 _) (fun _=>?_);clear hK K;refine wpAnyH_done (by kernel_rfl) ?_ _;replace h9:=(h9 (.cells #[.int .i64 za,.int .i64 zb] 191)).1;generalize w8.alloc (.cells #[.int .i64 za,.int .i64 zb] 191)=X8 at *;generalize w8.heap.size=kv at *
 case' c2 =>
  simp only[bT,gN];go_simp;obtain⟨h8,hL⟩:=Qz (S:=fun W:Wd=>vm C F g cap ns w k7 k9 uR lE kn ge e n x y W/\W.heap[kb]?=some (.cells #[.int .i64 (pA t),.int .i64 (pB t)] 191)) aa (fun W W' h k=>⟨h.1.call k,(k.block _ (ah h.2)).trans h.2⟩) (.int .i64 0) (.int .i64 0) 191;have HL:=hid hL;clear hL;generalize V.alloc (.cells #[.int .i64 0,.int .i64 0] 191)=V1 at *;generalize V.heap.size=kv at *;refine hK.out _ _ h8 (fun _=>?_);clear hK K;refine cH 12 fun K hK=>?_
  simp only[bT];go_simp;refine(HMT.out _).mono ?_;rintro q w8⟨rfl,b8⟩;obtain⟨Uj,Bo,hf⟩:=HL.out w8 b8;obtain⟨h9,hv⟩:=hf (.int .i64 za) (.int .i64 zb);obtain⟨q0,q1,mv,mu,_⟩:=aH Bo;clear b8 hf Bo;go_wp2_with fail;refine hK.out _ _ Uj (fun _=>?_);clear hK K;refine tk 13 (.tuple #[.agg #[.int .i64 za,.int .i64 zb],.bool ok]) rfl (fun w' h=>by go_simp) Uj ?_;refine tk 14 (.agg #[.int .i64 za,.int .i64 zb]) rfl (fun w' h=>by go_simp) Uj ?_;refine tk 15 (.bool ok) rfl (fun w' h=>by go_simp) Uj ?_;refine cH 17 fun K hK=>?_
  simp only[bT,gN];go_simp;refine hK.out _ _ h9 (fun _=>?_);clear hK K;refine cH 18 fun K hK=>?_
  simp only[bT];go_simp;refine hK.out _ _ h9 (fun _=>?_);clear hK K;refine wpAnyH_done (by kernel_rfl) ?_ _;generalize (w8.setCell ⟨kv,0,none⟩ (.int .i64 za)).setCell ⟨kv,1,none⟩ (.int .i64 zb)=X8 at *;replace h9:=h9.1
 all_goals
  clear aa h8 HMT uW;by_cases rS:za<=zb
  ·obtain rfl:true=ok:=by rw[<-tQ.out];exact(decide_eq_true rS).symm
   have Zq:Hid (tg π (.name n) r y (some e)=some (ph e n ⟨za,zb⟩)):=by unfold Hid;rw[EB.out,if_pos rS]
   have Rq:=hid (mX ge e n hm ⟨za,zb⟩ X8 h9.env);have s0:=cell_of h9.ls.s 0 (v:=.bool false) rfl;have s1:=cell_of h9.ls.s 1 (v:=.slice (some ⟨ge,0,none⟩) 8 8) rfl;obtain⟨c,qn1,qn2⟩:=h9.nd;have n4:=cell_of qn1 4 qn2;have v0:=cell_of hv 0 (v:=.int .i64 za) rfl;have v1:=cell_of hv 1 (v:=.int .i64 zb) rfl;have H9:=hid h9;clear h9 hv qn1 qn2 EB tQ rS;go_wp2_with fail;refine Rq.mono ?_;rintro q wf⟨v,rfl,hv,bv⟩;obtain⟨a',n',c',rfl⟩:=hv.form;have hY:=H9.call bv;obtain⟨y0,y1,nA,nB,mq⟩:=aH hY.ls.r;have MQ:=hid (mq (.bool false) (.slice a' n' c'));have HT:=hid (And.intro (hv.put hY.ls.r (.bool false) (.slice a' n' c')) ((hY.ls.b.setCell (p:=⟨lE,0,none⟩) hY.ls.l (.bool false)).setCell (p:=⟨lE,1,none⟩) hY.ls.l (.slice a' n' c')));simp only[Option.isNone_some]at HT ⊢;clear mq hY hv bv H9 Rq;go_wp2_with fail;exact bodyPost_ret (v:=.agg #[.bool false,.slice a' n' c']) (by simp[results,results190,go_sem,MQ.1,MQ.2]) rfl ⟨_,rfl,by rw[Zq.out];exact HT.1,HT.2⟩
  ·obtain rfl:false=ok:=by rw[<-tQ.out];exact(decide_eq_false rS).symm
   have Zq:Hid (tg π (.name n) r y (some e)=none):=by unfold Hid;rw[EB.out,if_neg rS]
   have H9:=hid h9;clear h9 hv EB tQ rS;go_wp2_with fail;refine(fl _).mono ?_;rintro q wf⟨rfl,bv⟩;have hY:=H9.call bv;obtain⟨y0,y1,nA,nB,mq⟩:=aH hY.ls.r;have MQ:=hid (mq (.bool true) (.slice none 0 0));have HT:Hid (Below w.heap.size w _):=(hY.ls.b.setCell (p:=⟨lE,0,none⟩) hY.ls.l (.bool true)).setCell (p:=⟨lE,1,none⟩) hY.ls.l (.slice none 0 0);clear mq hY bv H9;go_wp2_with fail;exact bodyPost_ret (v:=.agg #[.bool true,.slice none 0 0]) (by simp[results,results190,go_sem,MQ.1,MQ.2]) rfl ⟨_,rfl,by rw[Zq.out];rfl,HT.out⟩
theorem qT(π:bO){C:Rc}{side:Sm}{ct bh:Ct}(hs:pL ns lo side k ct bh)(wx:Wv x)(wy:Wv y)(r:Nat)(hr:r<6)(hR:bx C F w)(hL:dq C.pb g cap ns w)(hS:dL w sv s)(hw:eK s)(hc:∀n (hm:n<8) e,side=.name n->s=some e->e ⟨n,hm⟩=x∨r≠3∨y.a≠y.b) :
  Calls prog 190 #[.pointer (some ⟨C.b,0,none⟩),sv,.int .i64 (k:Nat),.agg #[.int .i64 (pA x),.int .i64 (pB x)],.string ⟨(aQ r).toArray⟩,.agg #[.int .i64 (pA y),.int .i64 (pB y)]] w fun q w'=>∃v,q=.returned v/\dL w' v (tg π side r y s)/\Below w.heap.size w w':=by
 cases s with
 | none =>
  obtain rfl:sv=_:=hS;obtain⟨d,hd⟩:∃d,ns[k]?=some d:=by
   cases side with
   | num n=>exact⟨_,hs.choose_spec.1⟩
   | name n=>exact⟨_,hs.choose_spec.1⟩
   | neg x=>obtain⟨d,a,h,_⟩:=hs;exact⟨d,h⟩
   | bin op x y=>obtain⟨d,a,b,c,h,_⟩:=hs;exact⟨d,h⟩
  exact(vi hd true none 0 0 x y r hR hL (.inl rfl)).mono fun q w' ⟨h1,h2⟩=>⟨_,h1,rfl,h2⟩
 | some e =>
  obtain⟨ge,rfl,nO⟩:=hS;have off:∀d,ns[k]?=some d->d.kind≠2->tg π side r y (some e)=some e->Calls prog 190 #[.pointer (some ⟨C.b,0,none⟩),.agg #[.bool false,.slice (some ⟨ge,0,none⟩) 8 8],.int .i64 (k:Nat),.agg #[.int .i64 (pA x),.int .i64 (pB x)],.string ⟨(aQ r).toArray⟩,.agg #[.int .i64 (pA y),.int .i64 (pB y)]] w fun q w'=>∃v,q=.returned v/\dL w' v (tg π side r y (some e))/\Below w.heap.size w w':=fun d h1 h2 h3 =>
   (vi h1 false (some ⟨ge,0,none⟩) 8 8 x y r hR hL (.inr h2)).mono fun q w' ⟨e1,e2⟩=>⟨_,e1,by rw[h3];exact⟨ge,rfl,(e2.block _ (ah nO)).trans nO⟩,e2⟩
  cases side with
  | num n=>obtain⟨d,h1,h2,_⟩:=hs;exact off d h1 (by omega) rfl
  | name n=>obtain⟨d,h1,h2,h3,h4,_⟩:=hs;exact Bw π h1 h2 h3 h4 e (hw e rfl) ge wx wy r hr hR hL nO (hc n h4 e rfl rfl)
  | neg x=>obtain⟨d,a,h1,h2,_⟩:=hs;exact off d h1 (by omega) rfl
  | bin op x y=>obtain⟨d,a,b,c,h1,h2,_⟩:=hs;exact off d h1 (by omega) rfl
end
end RI
end
section
namespace RI
section
variable{C:Rc}
variable{F:jB}
variable{g cap k7 k8 k9 Ki lE r ge:Nat}
variable{ns:List aJ}
variable{w W W':Wd}
variable{a0 a1:Value}
variable{d:aJ}
variable{x y side:Sm}
variable{a b:T}
variable{e:dt}
structure Fh(C:Rc)(F:jB)(g cap:Nat)(ns:List aJ)(w:Wd)(k7 k8 k9 Ki lE:Nat)(a0 a1:Value)(d:aJ)(x y:T)(W:Wd):Prop where
 ra:bx C F W
 look:dq C.pb g cap ns W
 s:W.heap[k7]?=some (.cells #[a0,a1] 121)
 nd:W.heap[k8]?=some (.cells (pz d) 176)
 x:W.heap[k9]?=some (.cells #[.int .i64 (pA x),.int .i64 (pB x)] 191)
 y:W.heap[Ki]?=some (.cells #[.int .i64 (pA y),.int .i64 (pB y)] 191)
 r:W.heap[lE]?=some (.cells #[.bool false,.slice none 0 0] 121)
 b:Below w.heap.size w W
 l7:w.heap.size<=k7
 l12:w.heap.size<=lE
 n7:lE≠k7
 old:C.gf<w.heap.size/\C.gs<w.heap.size
theorem Fh.call{x y:T}(h:Fh C F g cap ns w k7 k8 k9 Ki lE a0 a1 d x y W)(k:Below W.heap.size W W'):Fh C F g cap ns w k7 k8 k9 Ki lE a0 a1 d x y W' :=
 ⟨h.ra.call k,h.look.after k,(k.block _ (ah h.s)).trans h.s,(k.block _ (ah h.nd)).trans h.nd,(k.block _ (ah h.x)).trans h.x,(k.block _ (ah h.y)).trans h.y,(k.block _ (ah h.r)).trans h.r,h.b.trans (k.mono h.b.size),h.l7,h.l12,h.n7,h.old⟩
theorem Fh.put{x y:T}(G:Gd C g)(h:Fh C F g cap ns w k7 k8 k9 Ki lE a0 a1 d x y W)(b0 b1:Value):Fh C F g cap ns w k7 k8 k9 Ki lE b0 b1 d x y ((W.setCell ⟨k7,0,none⟩ b0).setCell ⟨k7,1,none⟩ b1):=by
 obtain⟨o1,o2⟩:=h.old;have l7:=h.l7;have hle:C.base<=w.heap.size:=Nat.le_trans h.ra.lf (by omega);have ix:∀j,j≠k7->((W.setCell ⟨k7,0,none⟩ b0).setCell ⟨k7,1,none⟩ b1).heap[j]?=W.heap[j]?:=fun j hj=>by rw[Below.heap_setCell _ _ _ _ hj,Below.heap_setCell _ _ _ _ hj]
 have hB:=h.b.setCell (p:=⟨k7,0,none⟩) l7 b0 |>.setCell (p:=⟨k7,1,none⟩) l7 b1
 refine⟨h.ra.own (k:=k7) (fun q=>by have:=h.ra.aV;rw[<-q,h.s]at this;cases this) (by omega) (by omega) (fun e q=>by rw[h.s]at q;cases q) ix,BR G h.look (((Below.refl _ _).setCell (p:=⟨k7,0,none⟩) (Nat.le_trans hle l7) _).setCell (p:=⟨k7,1,none⟩) (Nat.le_trans hle l7) _),by rw[ai (ai h.s 0 b0) 1 b1];rfl,(ix _ (fun q=>?_)).trans h.nd,(ix _ (fun q=>?_)).trans h.x,(ix _ (fun q=>?_)).trans h.y,(ix _ h.n7).trans h.r,hB,l7,h.l12,h.n7,h.old⟩
 ·have:=h.nd;rw[q,h.s]at this;cases this
 ·have:=h.x;rw[q,h.s]at this;cases this
 ·have:=h.y;rw[q,h.s]at this;cases this
def bW(w:Wd)(a0 a1:Value)(d:aJ)(x y:T):Wd:=((((w.alloc (.cells #[a0,a1] 121)).alloc (.cells #[.int .i64 d.kind,.int .i64 d.a,.int .i64 d.b,.int .i64 d.c,.int .i64 d.n,.int .i64 d.next,.string ⟨d.sign.toArray⟩,.int .i64 d.site,.int .i64 d.aA,.bool d.els] 176)).alloc (.cells #[.int .i64 (pA x),.int .i64 (pB x)] 191)).alloc (.cells #[.int .i64 (pA y),.int .i64 (pB y)] 191)).alloc (.cells #[.bool false,.slice none 0 0] 121)
theorem Mu(a0 a1:Value)(d:aJ)(x y:T)(hR:bx C F w)(hL:dq C.pb g cap ns w):Fh C F g cap ns w w.heap.size (w.heap.size+1) (w.heap.size+1+1) (w.heap.size+1+1+1) (w.heap.size+1+1+1+1) a0 a1 d x y (bW w a0 a1 d x y):=by obtain⟨b',h5⟩:=jW (Below.refl (bW w a0 a1 d x y).heap.size (bW w a0 a1 d x y));obtain⟨h1,h2,h3,h4,kb⟩:=bM b';obtain⟨c1,q1,_⟩:=hR.gf;obtain⟨c2,q2,_⟩:=hR.gs;exact⟨hR.call kb,hL.after kb,h1,h2,h3,h4,by simpa using h5,kb,Nat.le_refl _,by omega,by omega,⟨ah q1,ah q2⟩⟩
def AH(π:bO)(r:Nat)(x y:Sm)(a b:T)(e:dt):dB:=fJ (Dm π) r x y a b e
theorem SW(π:bO)(h:cT r a b=false):AH π r x y a b e=none:=tI (Dm π) r x y a b e h
theorem PT(π:bO)(h:cT r a b=true):AH π r x y a b e=tg π y (dT r) a (tg π x r b (some e)):=if_pos h
theorem Rs(π:bO){side:Sm}{r:Nat}{y:T}{s:dB}(wy:Wv y)(h:eK s):eK (tg π side r y s):=uL (K:=Kr π) (side:=side) (r:=r) (s:=s) h wy
theorem GR(h:r<6):dT r<6/\(dT r=3->r=3):=by rcases(show r=0∨r=1∨r=2∨r=3∨r=4∨r=5 from by omega) with rfl | rfl | rfl | rfl | rfl | rfl<;>simp[dT]
theorem Lz(π:bO)(hr:r<6)(hx:∀n (hm:n<8),x=.name n->e ⟨n,hm⟩=a)(hy:∀n (hm:n<8),y=.name n->e ⟨n,hm⟩=b)(Ga:cT r a b=true)(n:Nat)(hm:n<8)(e':dt)(hn:y=.name n)(hs:tg π x r b (some e)=some e'):e' ⟨n,hm⟩=b∨dT r≠3∨a.a≠a.b:=by
 have UC:=hy n hm hn;have same:e'=e->e' ⟨n,hm⟩=b:=fun q=>by rw[q];exact UC
 cases x with
 | num m=>exact .inl (same (by have q:some e=some e':=hs;cases q;rfl))
 | neg m=>exact .inl (same (by have q:some e=some e':=hs;cases q;rfl))
 | bin o u v=>exact .inl (same (by have q:some e=some e':=hs;cases q;rfl))
 | name m =>
  by_cases hmn:m=n
  ·subst hmn
   have hab:a=b:=(hx m hm rfl).symm.trans UC;by_cases h3:dT r=3
   ·have r3:=(GR hr).2 h3
    refine .inr (.inr fun q=>?_);subst r3;subst hab;simp[cT,q]at Ga
   ·exact .inr (.inl h3)
  ·refine .inl ?_
   cases hq:(Dm π).bound r (pE (Dm π) e m) b with
   | none =>have:=u7 (Dm π) m r b e hq;rw[show tg π (.name m) r b (some e)=none from this]at hs;cases hs
   | some v =>
    have:=vo (Dm π) m r b e v hq;rw[show tg π (.name m) r b (some e)=some (ph e m v) from this]at hs;cases hs
    exact(if_neg (α:=T) (c:=n=m) (t:=v) (e:=e ⟨n,hm⟩) (fun q=>hmn q.symm)).trans UC
theorem jD(π:bO){lo i j:Nat}{ct1 ct2 mz sM:Ct}(G:Gd C g)(ha:d.a=(i:Int))(hb:d.b=(j:Int))(fx:pL ns lo x i ct1 ct2)(fy:pL ns lo y j mz sM)(he:∀k,Wv (e k))(wa:Wv a)(wb:Wv b)(hx:∀n (hm:n<8),x=.name n->e ⟨n,hm⟩=a)(hy:∀n (hm:n<8),y=.name n->e ⟨n,hm⟩=b)(r:Nat)(hr:r<6)(hR:bx C F w)(hL:dq C.pb g cap ns w)(nO:Bk w ge (gF e) 191) :
  Calls prog 147 #[.pointer (some ⟨C.b,0,none⟩),.agg #[.bool false,.slice (some ⟨ge,0,none⟩) 8 8],.agg (pz d),.agg #[.int .i64 (pA a),.int .i64 (pB a)],.agg #[.int .i64 (pA b),.int .i64 (pB b)],.string ⟨(aQ r).toArray⟩] w fun q w'=>∃v,q=.returned v/\dL w' v (AH π r x y a b e)/\Below w.heap.size w w':=by
 have HW:=Mu (.bool false) (.slice (some ⟨ge,0,none⟩) 8 8) d a b hR hL;obtain⟨W,hW⟩:∃W,bW w (.bool false) (.slice (some ⟨ge,0,none⟩) 8 8) d a b=W:=⟨_,rfl⟩;rw[hW]at HW;unfold bW at hW;have Of:Hid (W.heap[ge]?=some (.cells (gF e) 191)):=(HW.b.block _ (ah nO)).trans nO;have H:=hid HW;have XC:Hid (∀w:Wd,Calls prog 188 #[.agg #[.int .i64 (pA a),.int .i64 (pB a)],.string ⟨(aQ r).toArray⟩,.agg #[.int .i64 (pA b),.int .i64 (pB b)]] w fun e w'=>e=.returned (.bool (!cT r a b))/\Below w.heap.size w w'):=fun w=>KO r hr a.a a.b b.a b.b w wa.2.1 wb.2.1
 have X7:Hid (∀(W:Wd),bx C F W->dq C.pb g cap ns W->W.heap[ge]?=some (.cells (gF e) 191)->Calls _ _ _ _ _):=fun W h1 h2 h3=>qT π fx wa wb r hr (s:=some e) (sv:=.agg #[.bool false,.slice (some ⟨ge,0,none⟩) 8 8]) h1 h2 ⟨ge,rfl,h3⟩ (fun e' q k=>by cases q;exact he k) (fun n hm e' h q=>by cases q;exact .inl (hx n hm h))
 have Rm:Hid (cT r a b=true->∀(W:Wd) (sv:Value),bx C F W->dq C.pb g cap ns W->dL W sv (tg π x r b (some e))->Calls _ _ _ _ _):=fun Ga W sv h1 h2 h3=>qT π fy wb wa (dT r) (GR hr).1 h1 h2 h3 (Rs π wb (fun e' q k=>by cases q;exact he k)) (fun n hm e' h q=>Lz π hr hx hy Ga n hm e' h q)
 have Z2:Hid (∀w:Wd,Calls _ _ _ _ _):=fun w=>zC r hr w
 have HAB:Hid (d.a=(i:Int)/\d.b=(j:Int)):=⟨ha,hb⟩;have HG:=hid G;have Xr:pz d=#[.int .i64 d.kind,.int .i64 d.a,.int .i64 d.b,.int .i64 d.c,.int .i64 d.n,.int .i64 d.next,.string ⟨d.sign.toArray⟩,.int .i64 d.site,.int .i64 d.aA,.bool d.els]:=rfl;rw[Xr];clear hR hL nO HW ha hb hx hy he wa wb fx fy G Xr hr;obtain⟨sg,P9⟩:∃sg,sg=aQ r:=⟨_,rfl⟩;obtain⟨sb,hsb⟩:∃sb,sb=aQ (dT r):=⟨_,rfl⟩;rw[<-P9];rw[<-P9]at XC X7;rw[<-hsb]at Rm;rw[<-P9,<-hsb]at Z2;obtain⟨may,Ga⟩:∃m,cT r a b=m:=⟨_,rfl⟩;rw[Ga]at XC Rm;have HM:=hid Ga;clear P9 hsb Ga;go_enter func147,ntmps147;go_upto_region 1 with fail;try rw[hW]
 obtain⟨k7,e7⟩:∃k,k=w.heap.size:=⟨_,rfl⟩;obtain⟨k8,e8⟩:∃k,k=w.heap.size+1:=⟨_,rfl⟩;obtain⟨k9,e9⟩:∃k,k=w.heap.size+1+1:=⟨_,rfl⟩;obtain⟨Ki,e10⟩:∃k,k=w.heap.size+1+1+1:=⟨_,rfl⟩;obtain⟨lE,e12⟩:∃k,k=w.heap.size+1+1+1+1:=⟨_,rfl⟩;rw[<-e12,<-e10,<-e9,<-e8,<-e7];rw[<-e12,<-e10,<-e9,<-e8,<-e7]at H;clear hW e7 e8 e9 e10 e12;have m1:=H.ra.cells.1;have x0:=cell_of H.x 0 (v:=.int .i64 (pA a)) rfl;have x1:=cell_of H.x 1 (v:=.int .i64 (pB a)) rfl;have y0:=cell_of H.y 0 (v:=.int .i64 (pA b)) rfl;have y1:=cell_of H.y 1 (v:=.int .i64 (pB b)) rfl;go_wp2_with fail;refine(XC.out _).mono ?_;rintro q w2⟨rfl,b2⟩;have h2:=H.call b2;have TG:Hid (w2.heap[ge]?=_):=(b2.block _ (ah Of.out)).trans Of.out;clear H m1 x0 x1 y0 y1 b2 Of;cases may with
 | false =>have EB:Hid (AH π r x y a b e=none):=SW π HM.out;have H2:Hid (Fh _ _ _ _ _ _ _ _ _ _ _ _ _ _ _ _ w2):=h2;clear h2 X7 Rm Z2 XC HM TG;go_wp2_with fail;refine(fl _).mono ?_;rintro q wf⟨rfl,bv⟩;have hY:=H2.call bv;obtain⟨z0,z1,DT,DY,mq⟩:=aH hY.r;have MQ:=hid (mq (.bool true) (.slice none 0 0));have HT:Hid (Below w.heap.size w _):=(hY.b.setCell (p:=⟨lE,0,none⟩) hY.l12 (.bool true)).setCell (p:=⟨lE,1,none⟩) hY.l12 (.slice none 0 0);clear mq hY bv H2;go_wp2_with fail;exact bodyPost_ret (v:=.agg #[.bool true,.slice none 0 0]) (by simp[results,results147,go_sem,MQ.1,MQ.2]) rfl ⟨_,rfl,by rw[EB.out];rfl,HT.out⟩
 | true =>
  have EB:Hid (AH π r x y a b e=tg π y (dT r) a (tg π x r b (some e))):=PT π HM.out;have s0:=cell_of h2.s 0 (v:=.bool false) rfl;have s1:=cell_of h2.s 1 (v:=.slice (some ⟨ge,0,none⟩) 8 8) rfl;have x0:=cell_of h2.x 0 (v:=.int .i64 (pA a)) rfl;have x1:=cell_of h2.x 1 (v:=.int .i64 (pB a)) rfl;have y0:=cell_of h2.y 0 (v:=.int .i64 (pA b)) rfl;have y1:=cell_of h2.y 1 (v:=.int .i64 (pB b)) rfl;have n1:=cell_of h2.nd 1 (v:=.int .i64 (i:Int)) (by rw[<-HAB.1];rfl);have H2:Hid (Fh _ _ _ _ _ _ _ _ _ _ _ _ _ _ _ _ w2):=h2;clear h2 XC HM;go_wp2_with fail;refine(X7.out w2 H2.ra H2.look TG.out).mono ?_;rintro q w4⟨v4,rfl,XZ,b4⟩;obtain⟨a',n',c',rfl⟩:=XZ.form;have h4:=H2.call b4;have h5:=h4.put HG.out (.bool (tg π x r b (some e)).isNone) (.slice a' n' c');have Qo:=XZ.put h4.s (.bool (tg π x r b (some e)).isNone) (.slice a' n' c');obtain⟨q0,q1,mv,mu,_⟩:=aH h4.s;have H5:=hid (And.intro h5 Qo);clear s0 s1 x0 x1 y0 y1 n1 H2 XZ h4 b4 h5 Qo X7 TG;generalize (tg π x r b (some e)).isNone=nn at *;go_upto_region 12 with fail;generalize (w4.setCell ⟨k7,0,none⟩ (.bool nn)).setCell ⟨k7,1,none⟩ (.slice a' n' c')=W5 at *
  clear q0 q1 mv mu;go_wp2_with fail;refine(Z2.out _).mono ?_;rintro q w6⟨rfl,rfl⟩;have h5:=H5.1;have s0:=cell_of h5.s 0 (v:=.bool nn) rfl;have s1:=cell_of h5.s 1 (v:=.slice a' n' c') rfl;have x0:=cell_of h5.x 0 (v:=.int .i64 (pA a)) rfl;have x1:=cell_of h5.x 1 (v:=.int .i64 (pB a)) rfl;have y0:=cell_of h5.y 0 (v:=.int .i64 (pA b)) rfl;have y1:=cell_of h5.y 1 (v:=.int .i64 (pB b)) rfl;have n2:=cell_of h5.nd 2 (v:=.int .i64 (j:Int)) (by rw[<-HAB.2];rfl);clear h5;go_wp2_with fail;refine(Rm.out trivial _ _ H5.1.ra H5.1.look H5.2).mono ?_;rintro q w7⟨v7,rfl,Xb,b7⟩;obtain⟨a7,n7,c7,rfl⟩:=Xb.form;have hY:=H5.1.call b7;obtain⟨z0,z1,DT,DY,mq⟩:=aH hY.r;have MQ:=hid (mq (.bool (tg π y (dT r) a (tg π x r b (some e))).isNone) (.slice a7 n7 c7));have HT:=hid (And.intro (Xb.put hY.r (.bool (tg π y (dT r) a (tg π x r b (some e))).isNone) (.slice a7 n7 c7)) ((hY.b.setCell (p:=⟨lE,0,none⟩) hY.l12 (.bool (tg π y (dT r) a (tg π x r b (some e))).isNone)).setCell (p:=⟨lE,1,none⟩) hY.l12 (.slice a7 n7 c7)));clear mq hY Xb b7 H5 Rm s0 s1 x0 x1 y0 y1 n2;rw[<-EB.out]at MQ HT ⊢;generalize (AH π r x y a b e).isNone=nb at *;go_wp2_with fail;exact bodyPost_ret (v:=.agg #[.bool nb,.slice a7 n7 c7]) (by simp[results,results147,go_sem,MQ.1,MQ.2]) rfl ⟨_,rfl,HT.1,HT.2⟩
end
end RI
end
end Go.Proofs.YtiopfihjmkfdmaaGreatDoor
