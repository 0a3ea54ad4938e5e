import Derived.Test.YtiopfihjmkfdmaaGreatDoorR18
import Derived.Test.YtiopfihjmkfdmaaGreatDoorR19
import Derived.Laws.Alloc2
import Derived.Laws.IdiomCopy
import Derived.Laws.MakeOwn
namespace Go.Proofs.YtiopfihjmkfdmaaGreatDoor
open Option renaming some→Y,none→M
open Go.Value renaming int→I,agg→J,bool→U,tuple→φ,string→χ,slice→Z,pointer→ρ
open Go.IntKind renaming i64→O
open Go.Ending renaming returned→υ
open Go.Obj renaming cells→L
open Go.Proofs.Tryz Sp
set_option maxRecDepth 100000
set_option maxHeartbeats 16000000
section
namespace RG
open Go.RowKit W
variable {δ : Bool}
def dn(δ:Bool):Int:=bif δ then 0 else 1
theorem Hj(δ:Bool):(δ=true/\dn δ=0/\∀a b:Nat,(bif δ then a else b)=a)∨(δ=false/\dn δ=1/\∀a b:Nat,(bif δ then a else b)=b):=by
 cases δ
 ·exact .inr ⟨rfl,rfl,fun _ _=>rfl⟩
 ·exact .inl ⟨rfl,rfl,fun _ _=>rfl⟩
abbrev T:=Sp.Iv
def pA(x:T):Int:=x.a
def pB(x:T):Int:=x.b
theorem U6{x y:T}(h:pA x=pA y)(k:pB x=pB y):x=y:=qI h k
def PA(δ:Bool)(a b:Int)(ok:Bool):Option T->Prop
 | some x=>a=pA x/\b=pB x/\ok=true/\Wv δ x
 | none=>ok=false
def Zm(δ:Bool)(r:Nat)(x y:T):T:=bif δ then CR r x y else y
def j0(δ:Bool)(x y:T):Option T:=bif δ then ku x y else(bf (lN x) (lN y)).map uw
def QK(δ:Bool)(x y:T):T:=bif δ then⟨max x.a y.a,min x.b y.b⟩ else((bf (lN x) (lN y)).map uw).getD ⟨0,0⟩
theorem Mo{x y:T}(h:(j0 δ x y).isSome=true):j0 δ x y=Y (QK δ x y):=by
 cases δ
 ·unfold j0 QK at *
  simp only[cond_false]at h ⊢;cases q:(bf (lN x) (lN y)).map uw with
  | none=>rw[q]at h;cases h
  | some v=>rfl
 ·unfold j0 QK ku at *
  simp only[cond_true]at h ⊢;split at h
  ·rename_i q;rw[if_pos q]
  ·cases h
structure RD(δ:Bool):Prop where
 only:∀(n:Int) (w:Wd),Calls prog 142 #[I O (dn δ),I O n] w fun e w'=>e=υ (J #[I O (pA (gz δ n)),I O (pB (gz δ n))])/\ω w w'
 whole:∀w:Wd,Calls prog 107 #[I O (dn δ)] w fun e w'=>e=υ (J #[I O (pA (dc δ)),I O (pB (dc δ))])/\ω w w'
 has:∀{x:T} (_:Wv δ x) (w:Wd),Calls prog 144 #[J #[I O (pA x),I O (pB x)],I O (dn δ),I O 0] w fun e w'=>e=υ (U (iX δ x))/\ω w w'
 minus:∀{x:T} (_:Wv δ x) (w:Wd),Calls prog 143 #[I O (dn δ),J #[I O (pA x),I O (pB x)]] w fun e w'=>e=υ (J #[I O (pA (jd δ x)),I O (pB (jd δ x))])/\ω w w'
 join:∀{x y:T} (_:Wv δ x) (_:Wv δ y) (w:Wd),Calls prog 149 #[I O (dn δ),J #[I O (pA x),I O (pB x)],J #[I O (pA y),I O (pB y)]] w fun e w'=>e=υ (J #[I O (pA (da δ x y)),I O (pB (da δ x y))])/\ω w w'
 work:∀(k:Nat) (_:k<5) {x y:T} (_:Wv δ x) (_:Wv δ y) (w:Wd),Calls prog (bif δ then 145 else 146) #[J #[I O (pA x),I O (pB x)],χ ⟨(bo k).toArray⟩,J #[I O (pA y),I O (pB y)]] w fun e w'=>∃a b ok,e=υ (φ #[J #[I O a,I O b],U ok])/\PA δ a b ok (nR δ k x y)/\ω w w'
 bound:δ=true->∀(r:Nat) (_:r<6) {x y:T} (_:Wv δ x) (_:Wv δ y) (w:Wd),Calls prog 215 #[J #[I O (pA x),I O (pB x)],χ ⟨(aL r).toArray⟩,J #[I O (pA y),I O (pB y)]] w fun e w'=>e=υ (J #[I O (pA (CR r x y)),I O (pB (CR r x y))])/\ω w w'
 apart:δ=true->∀(r:Nat) (_:r<6) {x y:T} (_:Wv δ x) (_:Wv δ y) (w:Wd),Calls prog 188 #[J #[I O (pA x),I O (pB x)],χ ⟨(aL r).toArray⟩,J #[I O (pA y),I O (pB y)]] w fun e w'=>e=υ (U (!lZ δ r x y))/\ω w w'
 meet:∀{x y:T} (_:Wv δ x) (_:δ=true∨Wv δ y) (w:Wd),Calls prog 189 #[I O (dn δ),J #[I O (pA x),I O (pB x)],J #[I O (pA y),I O (pB y)]] w fun e w'=>e=υ (φ #[J #[I O (pA (QK δ x y)),I O (pB (QK δ x y))],U (j0 δ x y).isSome])/\ω w w'
end RG
end
section
namespace RG
open Go.RowKit W
variable {δ : Bool}
def IC(e:Fin 8->T):List Value:=(List.ofFn e).flatMap fun x=>[I O (pA x),I O (pB x)]
def ia(e:Fin 8->T):Array Value:=(IC e).toArray
theorem uZ(e:Fin 8->T):(IC e).length=16:=by unfold IC;rw[fw (k:=2) (fun _=>rfl),List.length_ofFn]
theorem pW(e:Fin 8->T)(k:Nat)(hk:k<8):(ia e)[k*2]?=Y (I O (pA (e ⟨k,hk⟩)))/\(ia e)[k*2+1]?=Y (I O (pB (e ⟨k,hk⟩))):=by
 have h:(List.ofFn e)[k]?=Y (e ⟨k,hk⟩):=by rw[List.getElem?_ofFn,dif_pos hk]
 unfold ia IC;rw[List.getElem?_toArray,List.getElem?_toArray];exact⟨by have:=gX (k:=2) (f:=fun x:T=>[Value.int O (pA x),I O (pB x)]) (fun _=>rfl) (List.ofFn e) k _ 0 h (by omega);simpa using this,by have:=gX (k:=2) (f:=fun x:T=>[Value.int O (pA x),I O (pB x)]) (fun _=>rfl) (List.ofFn e) k _ 1 h (by omega);simpa using this⟩
def sf(e:Fin 8->T)(k:Nat)(x:T):Fin 8->T:=fun j=>if j.val=k then x else e j
theorem MS(e:Fin 8->T)(k:Nat)(hk:k<8)(x:T):((ia e).setIfInBounds (k*2) (I O (pA x))).setIfInBounds (k*2+1) (I O (pB x))=ia (sf e k x):=by
 have e1:List.ofFn (sf e k x)=(List.ofFn e).set k x:=by
  refine List.ext_getElem? fun i=>?_
  rw[List.getElem?_set,List.getElem?_ofFn,List.getElem?_ofFn,List.length_ofFn];by_cases hi:i<8
  ·rw[dif_pos hi,dif_pos hi]
   unfold sf;by_cases h:k=i
   ·rw[if_pos h,if_pos hk,if_pos h.symm]
   ·rw[if_neg h,if_neg (fun h'=>h h'.symm)]
  ·rw[dif_neg hi,dif_neg hi]
   rw[if_neg (by omega)]
 refine Array.ext_getElem? fun i=>?_
 have hR:(ia (sf e k x))[i]?=if k*2<=i/\i<k*2+2 then [Value.int O (pA x),I O (pB x)][i - k*2]? else(IC e)[i]?:=by unfold ia IC;rw[List.getElem?_toArray,e1];exact pq (k:=2) (fun _=>rfl) (List.ofFn e) k x i (by rw[List.length_ofFn];exact hk)
 rw[hR,Array.getElem?_setIfInBounds,Array.getElem?_setIfInBounds];unfold ia;have hl:=uZ e;simp only[Array.size_setIfInBounds,List.size_toArray,hl,List.getElem?_toArray];by_cases h1:k*2+1=i
 ·subst h1
  rw[if_pos rfl,if_pos (by omega),if_pos (by omega),show k*2+1 - k*2=1 by omega];rfl
 ·rw[if_neg h1]
  by_cases h2:k*2=i
  ·subst h2
   rw[if_pos rfl,if_pos (by omega),if_pos (by omega),show k*2 - k*2=0 by omega];rfl
  ·rw[if_neg h2,if_neg (by omega)]
theorem Nv:prog.underlying 119=Y (.slice 191):=by kernel_rfl
theorem C0:(prog.info? 191).map (·.size)=Y 2:=by kernel_rfl
def XZ:Array Value:=#[I O 0,I O 0,I O 0,I O 0,I O 0,I O 0,I O 0,I O 0,I O 0,I O 0,I O 0,I O 0,I O 0,I O 0,I O 0,I O 0]
theorem F3(w:Wd):(Instr.makeSlice 119 (I O 8) (I O 8)).run prog w=.ok (Z (Y ⟨w.heap.size,0,M⟩) 8 8) (w.alloc (L XZ 191)):=by kernel_rfl
theorem SF(w:Wd)(S ν:Nat)(e:Fin 8->T)(zz:Array Value)(ty:TypeId)(hz:zz.size=16)(hZ:Bk w ν zz 191)(hS:Bk w S (ia e) 191) :
  (Builtin.copy_ #[119,119] ty #[Z (Y ⟨ν,0,M⟩) 8 8,Z (Y ⟨S,0,M⟩) 8 8]).run prog w=.ok (I O 8) (w.setCells ν 0 (IC e)):=by
 have hl:=run_loadCells_list (P:=prog) w ⟨S,0,M⟩ (IC e) (fun j v hj=>by rw[show(⟨S,0,M⟩:Addr).add j=⟨S,j,M⟩ by unfold Addr.add;simp;intro h;exact h.symm];exact cell_of hS j (by unfold ia;rw[List.getElem?_toArray];exact hj))
 have gI:=run_storeCells_cells (P:=prog) ν 0 (IC e) 0 w (fun j hj=>by
  rw[uZ]at hj;simp only[Nat.zero_add];rw[cell_of hZ j (Array.getElem?_eq_getElem (by omega))];rfl) (fun j hj=>aw hZ _) (fun v hv=>by
  unfold IC at hv;obtain⟨x,_,hx⟩:=List.mem_flatMap.1 hv;simp at hx
  rcases hx with rfl | rfl<;>rfl)
 rw[uZ]at hl;cases hq:prog.info? 191 with
 | none=>have:=C0;simp[hq]at this
 | some i =>
  have hi:i.size=2:=by have:=C0;simpa [hq] using this
  simp[Builtin.copy_,run_underlying Nv,Builtin.lenOf,Builtin.firstCells,sizeOf,typeInfo,hq,hi,hl,gI];rfl
end RG
end
section
namespace RG
open Go.RowKit W
variable {δ : Bool}
def dM(w:Wd)(v:Value):Option (Fin 8->T)->Prop
 | none=>v=J #[U true,Z M 0 0]
 | some e=>∃g,v=J #[U false,Z (Y ⟨g,0,M⟩) 8 8]/\w.heap[g]?=Y (L (ia e) 191)
theorem dM.below{w w':Wd}{v:Value}{s:Option (Fin 8->T)}(h:dM w v s)(b:ω w w'):dM w' v s:=by
 cases s with
 | none=>exact h
 | some e=>obtain⟨g,h1,h2⟩:=h;exact⟨g,h1,(b.block _ (ad h2)).trans h2⟩
theorem Dz(e:Fin 8->T):(ia e).size=16:=by unfold ia;rw[List.size_toArray];exact uZ e
theorem vw(g:Nat)(e:Fin 8->T)(k:Nat)(hk:k<8)(x:T)(w:Wd)(h:Bk w g (ia e) 191) :
  Calls prog 106 #[J #[U false,Z (Y ⟨g,0,M⟩) 8 8],I O (k:Nat),J #[I O (pA x),I O (pB x)]] w fun r w'=>∃v,r=υ v/\dM w' v (Y (sf e k x))/\ω w w':=by
 have YD:((k:Nat):Int)<8:=by omega
 obtain⟨k0,k1,k2,kb⟩:=cH (w:=w) (o1:=L #[U false,Z (Y ⟨g,0,M⟩) 8 8] 121) (o2:=L #[I O (pA x),I O (pB x)] 191) (o3:=L #[U false,Z M 0 0] 121) (Below.refl _ _);have Kt:=F3;obtain⟨zz,Ac⟩:∃zz,zz=XZ:=⟨_,rfl⟩;rw[<-Ac]at Kt;have Xp:zz.size=16:=by rw[Ac];rfl
 clear Ac;generalize nJ:pA x=xa at *;generalize UU:pB x=xb at *;have K0:=hid k0;have K1:=hid k1;have K2:=hid k2;have KB:=hid kb;clear k0 k1 k2 kb;have OB:=hid nJ;have HXB:=hid UU;clear nJ UU;go_enter func106,ntmps106;go_upto_region 1 with fail;generalize ((w.alloc (L #[U false,Z (Y ⟨g,0,M⟩) 8 8] 121)).alloc (L #[I O xa,I O xb] 191)).alloc (L #[U false,Z M 0 0] 121)=W3 at *
 obtain⟨k3,jA⟩:∃k3,k3=w.heap.size:=⟨_,rfl⟩;obtain⟨k5,xU⟩:∃k5,k5=w.heap.size+1:=⟨_,rfl⟩;obtain⟨kr,hkr⟩:∃kr,kr=w.heap.size+1+1:=⟨_,rfl⟩;rw[<-hkr,<-xU,<-jA];rw[<-jA]at K0;rw[<-xU]at K1;rw[<-hkr]at K2;have l3:w.heap.size<=kr:=by omega
 clear jA xU hkr;have Tj:=Kt W3;have hG3:W3.heap[g]?=_:=(KB.block _ (ad h)).trans h;have hZ4:=heap_alloc_new W3 (L zz 191);have hG4:(W3.alloc (L zz 191)).heap[g]?=_:=heap_alloc_old hG3;have hcp:=fun ty=>SF (W3.alloc (L zz 191)) g W3.heap.size e zz ty Xp hZ4 hG4
 have h5:=ao hZ4 (d:=ia e) (by rw[Dz,Xp]);have e5:(ia e).toList=IC e:=by unfold ia;rfl
 rw[e5]at h5;have B5:ω W3 ((W3.alloc (L zz 191)).setCells W3.heap.size 0 (IC e)):=aq (Nat.le_refl _) _ _ _ _ (below_alloc1 _ _);have K0':Hid (_=_):=(B5.block _ (ad K0.out)).trans K0.out;have K1':Hid (_=_):=(B5.block _ (ad K1.out)).trans K1.out;have K2':Hid (_=_):=(B5.block _ (ad K2.out)).trans K2.out;have BM:Hid (ω w _):=KB.trans (B5.mono KB.size);have H5:=hid h5;have s0:=cell_of K0.out 1 (v:=Z (Y ⟨g,0,M⟩) 8 8) rfl;have n3:k3≠W3.heap.size:=by have:=ad K0.out;omega
 have nr:kr≠W3.heap.size:=by have:=ad K2.out;omega
 have hl:w.heap.size<=W3.heap.size:=KB.size;have BZ:(W3.alloc (L zz 191)).cell? ⟨k3,1,M⟩=_:=cell_of (heap_alloc_old K0.out) 1 (v:=Z (Y ⟨g,0,M⟩) 8 8) rfl;clear Kt hZ4 hG4 hG3 h5 e5 B5 K0 K1 K2 KB h;go_upto_region 2 with fail;generalize hW5:(W3.alloc (L zz 191)).setCells W3.heap.size 0 (IC e)=W5 at *
 generalize hW4:W3.alloc (L zz 191)=W4 at *;generalize W3.heap.size=kz at *;clear hW4 hW5 Tj;obtain⟨va,vb⟩:=pW e k hk;have x0:=cell_of K1'.out 0 (v:=I O xa) rfl;have x1:=cell_of K1'.out 1 (v:=I O xb) rfl;have z0:=cell_of H5.out (k*2) va;have z1:=cell_of H5.out (k*2+1) vb;have f0:=aw H5.out (k*2);have f1:=aw H5.out (k*2+1);have hr6:((W5.setCell ⟨kz,k*2,M⟩ (I O xa)).setCell ⟨kz,k*2+1,M⟩ (I O xb)).heap[kr]?=Y (L #[U false,Z M 0 0] 121):=by rw[Below.heap_setCell _ _ _ _ nr,Below.heap_setCell _ _ _ _ nr];exact K2'.out
 obtain⟨m0,m1,nL,nK,mq⟩:=aR hr6;have MQ:=hid (mq (U false) (Z (Y ⟨kz,0,M⟩) 8 8));have Ek:Hid (dM ((((W5.setCell ⟨kz,k*2,M⟩ (I O xa)).setCell ⟨kz,k*2+1,M⟩ (I O xb)).setCell ⟨kr,0,M⟩ (U false)).setCell ⟨kr,1,M⟩ (Z (Y ⟨kz,0,M⟩) 8 8)) (J #[U false,Z (Y ⟨kz,0,M⟩) 8 8]) (Y (sf e k x))):=by refine⟨kz,rfl,?_⟩;rw[Below.heap_setCell _ _ _ _ nr.symm,Below.heap_setCell _ _ _ _ nr.symm,ah (ah H5.out (k*2) (I O xa)) (k*2+1) (I O xb),<-OB.out,<-HXB.out,MS e k hk x]
 have Wo:Hid (ω w ((((W5.setCell ⟨kz,k*2,M⟩ (I O xa)).setCell ⟨kz,k*2+1,M⟩ (I O xb)).setCell ⟨kr,0,M⟩ (U false)).setCell ⟨kr,1,M⟩ (Z (Y ⟨kz,0,M⟩) 8 8))) :=
  (((BM.setCell (p:=⟨kz,k*2,M⟩) hl _).setCell (p:=⟨kz,k*2+1,M⟩) hl _).setCell (p:=⟨kr,0,M⟩) l3 _).setCell (p:=⟨kr,1,M⟩) l3 _
 clear mq hr6;go_wp2_with fail;exact bodyPost_ret (v:=J #[U false,Z (Y ⟨kz,0,M⟩) 8 8]) (by simp[results,results106,go_sem,MQ.1,MQ.2]) rfl ⟨_,rfl,Ek.out,Wo.out⟩
end RG
end
section
namespace RG
open Go.RowKit W
variable {δ : Bool}
section
variable{w W W':Wd}
variable{b k4 k5 kr kz g1 g2:Nat}
theorem jk{p:Addr}{v:Value}(h:w.cell? p=Y v):p.block<w.heap.size:=by
 rcases Nat.lt_or_ge p.block w.heap.size with k | k
 ·exact k
 ·simp[World.cell?,Array.getElem?_eq_none k]at h
def zT:T:=⟨0,0⟩
theorem MT:XZ=ia fun _=>zT:=rfl
def uY(δ:Bool):Option (Fin 8->T)->Option (Fin 8->T)->Option (Fin 8->T)
 | none,t=>t
 | some s,M=>Y s
 | some s,Y t=>Y fun k=>da δ (s k) (t k)
theorem mY(π:ar δ)(s t:Option (Fin 8->T)):uY δ s t=Sp.jn (Dm π) s t:=by cases s<;>cases t<;>rfl
structure sS(δ:Bool)(w:Wd)(b k4 k5 kr kz g1 g2:Nat)(s t f:Fin 8->T)(W:Wd):Prop where
 d:W.cell? ⟨b,1,M⟩=Y (I O (dn δ))
 x:W.heap[k4]?=Y (L #[U false,Z (Y ⟨g1,0,M⟩) 8 8] 121)
 y:W.heap[k5]?=Y (L #[U false,Z (Y ⟨g2,0,M⟩) 8 8] 121)
 r:W.heap[kr]?=Y (L #[U false,Z M 0 0] 121)
 s:W.heap[g1]?=Y (L (ia s) 191)
 t:W.heap[g2]?=Y (L (ia t) 191)
 z:W.heap[kz]?=Y (L (ia f) 191)
 b:ω w W
theorem sS.call{s t f:Fin 8->T}(h:sS δ w b k4 k5 kr kz g1 g2 s t f W)(k:ω W W'):sS δ w b k4 k5 kr kz g1 g2 s t f W' :=
 ⟨by rw[k.cell (p:=⟨b,1,M⟩) (jk h.d)];exact h.d,(k.block _ (ad h.x)).trans h.x,(k.block _ (ad h.y)).trans h.y,(k.block _ (ad h.r)).trans h.r,(k.block _ (ad h.s)).trans h.s,(k.block _ (ad h.t)).trans h.t,(k.block _ (ad h.z)).trans h.z,h.b.trans (k.mono h.b.size)⟩
theorem sS.put{s t f:Fin 8->T}(h:sS δ w b k4 k5 kr kz g1 g2 s t f W)(nb:b≠kz)(n4:k4≠kz)(n5:k5≠kz)(nr:kr≠kz)(n1:g1≠kz)(n2:g2≠kz)(hl:w.heap.size<=kz)(k:Nat)(hk:k<8)(x:T) :
  sS δ w b k4 k5 kr kz g1 g2 s t (sf f k x) ((W.setCell ⟨kz,k*2,M⟩ (I O (pA x))).setCell ⟨kz,k*2+1,M⟩ (I O (pB x))):=by
 have e:∀i,i≠kz->((W.setCell ⟨kz,k*2,M⟩ (I O (pA x))).setCell ⟨kz,k*2+1,M⟩ (I O (pB x))).heap[i]?=W.heap[i]?:=fun i hi=>by rw[Below.heap_setCell _ _ _ _ hi,Below.heap_setCell _ _ _ _ hi]
 refine⟨?_,(e _ n4).trans h.x,(e _ n5).trans h.y,(e _ nr).trans h.r,(e _ n1).trans h.s,(e _ n2).trans h.t,?_,(h.b.setCell (p:=⟨kz,k*2,M⟩) hl _).setCell (p:=⟨kz,k*2+1,M⟩) hl _⟩
 ·have hd:=h.d
  unfold World.cell? at hd ⊢;simp only at hd ⊢;rw[e b nb];exact hd
 ·rw[ah (ah h.z (k*2) (I O (pA x))) (k*2+1) (I O (pB x)),MS f k hk x]
theorem LF(s t f:Fin 8->T)(j:Nat)(hj:j<8)(hf:∀i:Fin 8,f i=if i.val<j then da δ (s i) (t i) else zT):∀i:Fin 8,sf f j (da δ (s ⟨j,hj⟩) (t ⟨j,hj⟩)) i=if i.val<j+1 then da δ (s i) (t i) else zT:=by
 intro i;unfold sf;by_cases h:i.val=j
 ·rw[if_pos h,if_pos (by omega)]
  have:i=⟨j,hj⟩:=Fin.ext h;rw[this]
 ·rw[if_neg h,hf i]
  by_cases h2:i.val<j
  ·rw[if_pos h2,if_pos (by omega)]
  ·rw[if_neg h2,if_neg (by omega)]
theorem join_some(b g1 g2:Nat)(s t:Fin 8->T)(w:Wd)(R:RD δ)(hb:w.cell? ⟨b,1,M⟩=Y (I O (dn δ)))(hs:∀k,Wv δ (s k))(ht:∀k,Wv δ (t k))(h1:Bk w g1 (ia s) 191)(h2:Bk w g2 (ia t) 191) :
  Calls prog 110 #[ρ (Y ⟨b,0,M⟩),J #[U false,Z (Y ⟨g1,0,M⟩) 8 8],J #[U false,Z (Y ⟨g2,0,M⟩) 8 8]] w fun r w'=>∃v,r=υ v/\dM w' v (Y fun k=>da δ (s k) (t k))/\ω w w':=by
 obtain⟨k0,k1,k2,kb⟩:=cH (w:=w) (o1:=L #[U false,Z (Y ⟨g1,0,M⟩) 8 8] 121) (o2:=L #[U false,Z (Y ⟨g2,0,M⟩) 8 8] 121) (o3:=L #[U false,Z M 0 0] 121) (Below.refl _ _);have Kt:=F3;rw[MT]at Kt;obtain⟨z0,KD⟩:∃z0:Fin 8->T,z0=fun _=>zT:=⟨_,rfl⟩
 rw[<-KD]at Kt;have HZ0:Hid (∀i:Fin 8,z0 i=if i.val<0 then da δ (s i) (t i) else zT):=fun i=>by rw[KD,if_neg (by omega)]
 clear KD;have K0:=hid k0;have K1:=hid k1;have K2:=hid k2;have KB:=hid kb;clear k0 k1 k2 kb;go_enter func110,ntmps110;go_upto_region 5 with fail;generalize ((w.alloc (L #[U false,Z (Y ⟨g1,0,M⟩) 8 8] 121)).alloc (L #[U false,Z (Y ⟨g2,0,M⟩) 8 8] 121)).alloc (L #[U false,Z M 0 0] 121)=W3 at *
 obtain⟨k4,Qt⟩:∃k3,k3=w.heap.size:=⟨_,rfl⟩;obtain⟨k5,xU⟩:∃k5,k5=w.heap.size+1:=⟨_,rfl⟩;obtain⟨kr,hkr⟩:∃kr,kr=w.heap.size+1+1:=⟨_,rfl⟩;rw[<-hkr,<-xU,<-Qt];rw[<-Qt]at K0;rw[<-xU]at K1;rw[<-hkr]at K2;have l3:w.heap.size<=kr:=by omega
 clear Qt xU hkr;have Tj:=Kt W3;have kx:=below_alloc1 W3 (L (ia z0) 191);have H4:Hid (sS δ w b k4 k5 kr W3.heap.size g1 g2 s t z0 (W3.alloc (L (ia z0) 191))):=by have B4:=KB.trans (kx.mono KB.size);exact⟨by rw[B4.cell (p:=⟨b,1,M⟩) (jk hb)];exact hb,heap_alloc_old K0.out,heap_alloc_old K1.out,heap_alloc_old K2.out,(B4.block _ (ad h1)).trans h1,(B4.block _ (ad h2)).trans h2,heap_alloc_new _ _,B4⟩
 have nb:b≠W3.heap.size:=by have h9:b<w.heap.size:=jk hb;have:=KB.size;omega
 have n4:k4≠W3.heap.size:=by have:=ad K0.out;omega
 have n5:k5≠W3.heap.size:=by have:=ad K1.out;omega
 have nr:kr≠W3.heap.size:=by have:=ad K2.out;omega
 have n1:g1≠W3.heap.size:=by have:=ad h1;have:=KB.size;omega
 have n2:g2≠W3.heap.size:=by have:=ad h2;have:=KB.size;omega
 have hl:w.heap.size<=W3.heap.size:=KB.size;clear Kt K0 K1 K2 KB kx hb h1 h2;go_upto_region 6 with fail;generalize W3.alloc (L (ia z0) 191)=W4 at *
 generalize W3.heap.size=kz at *;clear Tj;go_wp2_with fail
 go_loopw [8] (fun v8 wr=>∃(j:Nat) (f:Fin 8->T),j<=8/\v8=I O j/\Hid (∀i:Fin 8,f i=if i.val<j then da δ (s i) (t i) else zT)/\Hid (sS δ w b k4 k5 kr kz g1 g2 s t f wr)) (fun v8 _=>8 - (intOf v8).toNat)
 case atStart=>exact⟨0,z0,Nat.zero_le _,rfl,HZ0,H4⟩
 case round =>
  obtain⟨j,f,hj,rfl,hf,hq⟩:=hrel;clear H4 HZ0;by_cases qP:j<8
  ·have yf:((j:Nat):Int)<8:=by omega
   obtain⟨J2,HJ⟩:∃J2,Hid (J2=j*2):=⟨_,rfl⟩;obtain⟨sx,hsx⟩:∃sx,Hid (sx=s ⟨j,qP⟩):=⟨_,rfl⟩;obtain⟨tx,htx⟩:∃tx,Hid (tx=t ⟨j,qP⟩):=⟨_,rfl⟩;have OD:Hid (∀W,(∃f,sS δ w b k4 k5 kr kz g1 g2 s t f W)->W.cell? ⟨g1,J2,M⟩=Y (I O (pA sx))/\W.cell? ⟨g1,J2+1,M⟩=Y (I O (pB sx))/\W.cell? ⟨g2,J2,M⟩=Y (I O (pA tx))/\W.cell? ⟨g2,J2+1,M⟩=Y (I O (pB tx))/\W.cell? ⟨k4,1,M⟩=Y (Z (Y ⟨g1,0,M⟩) 8 8)/\W.cell? ⟨k5,1,M⟩=Y (Z (Y ⟨g2,0,M⟩) 8 8)):=fun W ⟨f',hW⟩=>by obtain⟨a1,a2⟩:=pW s j qP;obtain⟨a3,a4⟩:=pW t j qP;rw[HJ.out,hsx.out,htx.out];exact⟨cell_of hW.s _ a1,cell_of hW.s _ a2,cell_of hW.t _ a3,cell_of hW.t _ a4,cell_of hW.x 1 rfl,cell_of hW.y 1 rfl⟩
   have HCR:Hid (∀W:Wd,Calls prog 149 #[I O (dn δ),J #[I O (pA sx),I O (pB sx)],J #[I O (pA tx),I O (pB tx)]] W fun e w'=>e=υ (J #[I O (pA (da δ sx tx)),I O (pB (da δ sx tx))])/\ω W w'):=fun W=>R.join (by rw[hsx.out];exact hs _) (by rw[htx.out];exact ht _) W
   have HN:Hid (∀i:Fin 8,sf f j (da δ sx tx) i=if i.val<j+1 then da δ (s i) (t i) else zT):=by unfold Hid;rw[hsx.out,htx.out];exact LF s t f j qP hf.out
   have HP:Hid (∀W,sS δ w b k4 k5 kr kz g1 g2 s t f W->sS δ w b k4 k5 kr kz g1 g2 s t (sf f j (da δ sx tx)) ((W.setCell ⟨kz,J2,M⟩ (I O (pA (da δ sx tx)))).setCell ⟨kz,J2+1,M⟩ (I O (pB (da δ sx tx))))/\(W.cell? ⟨kz,J2,M⟩).isSome=true/\(W.cell? ⟨kz,J2+1,M⟩).isSome=true/\W.frozen? ⟨kz,J2,M⟩=false/\W.frozen? ⟨kz,J2+1,M⟩=false):=fun W hW=>by rw[HJ.out];obtain⟨a1,a2⟩:=pW f j qP;exact⟨hW.put nb n4 n5 nr n1 n2 hl j qP (da δ sx tx),by rw[cell_of hW.z _ a1];rfl,by rw[cell_of hW.z _ a2];rfl,aw hW.z _,aw hW.z _⟩
   generalize da δ sx tx=jx at *;clear hsx htx;go_wp2_with fail;refine wp_region_held_drew (S:=fun w':Wd=>∃f,sS δ w b k4 k5 kr kz g1 g2 s t f w') (by kernel_rfl) ⟨f,hq.call (Below.refl _ _).drew⟩ (fun aa=>?_);have hJ:sS δ w b k4 k5 kr kz g1 g2 s t f wr.drew:=hq.call (Below.refl _ _).drew;generalize wr.drew=V at *;refine tq 0 (Z (Y ⟨kz,0,M⟩) 8 8) aa ?_;refine tq 1 (I O (j:Nat)) aa ?_;refine tq 2 (ρ (Y ⟨b,0,M⟩)) aa ?_;refine tq 3 (ρ (Y ⟨b,0,M⟩)) aa ?_;refine tq 4 (ρ (Y ⟨b,1,M⟩)) aa ?_;refine tq 5 (ρ (Y ⟨b,1,M⟩)) aa ?_;refine tk 6 (I O (dn δ)) rfl (fun w' h=>by obtain⟨_,h⟩:=h;have q:=h.d;go_simp) aa ?_;refine tq 7 (ρ (Y ⟨k4,1,M⟩)) aa ?_;refine tk 8 (Z (Y ⟨g1,0,M⟩) 8 8) rfl (fun w' h=>by have q:=(OD.out _ h).2.2.2.2.1;go_simp) aa ?_;refine tq 9 (I O (j:Nat)) aa ?_;refine tk 10 (ρ (Y ⟨g1,J2,M⟩)) rfl (fun w' h=>by rw[HJ.out];go_simp) aa ?_;refine tk 11 (J #[I O (pA sx),I O (pB sx)]) rfl (fun w' h=>by have q:=(OD.out _ h).1;have q2:=(OD.out _ h).2.1;go_simp) aa ?_;refine tq 12 (ρ (Y ⟨k5,1,M⟩)) aa ?_;refine tk 13 (Z (Y ⟨g2,0,M⟩) 8 8) rfl (fun w' h=>by have q:=(OD.out _ h).2.2.2.2.2;go_simp) aa ?_;refine tq 14 (I O (j:Nat)) aa ?_;refine tk 15 (ρ (Y ⟨g2,J2,M⟩)) rfl (fun w' h=>by rw[HJ.out];go_simp) aa ?_;refine tk 16 (J #[I O (pA tx),I O (pB tx)]) rfl (fun w' h=>by have q:=(OD.out _ h).2.2.1;have q2:=(OD.out _ h).2.2.2.1;go_simp) aa ?_;refine bD 17 fun K hK=>?_
   simp only[bp,fB];go_simp;refine(HCR.out _).mono ?_;rintro e w8⟨rfl,b8⟩;replace hJ:=hJ.call b8;go_wp2_with fail;refine hK.out _ _ ⟨f,hJ⟩ (fun _=>?_);clear hK K b8;refine tk 18 (ρ (Y ⟨kz,J2,M⟩)) rfl (fun w' h=>by rw[HJ.out];go_simp) ⟨f,hJ⟩ ?_;obtain⟨p1,p2,p3,p4,p5⟩:=HP.out _ hJ;obtain⟨u1,Ky⟩:=Option.isSome_iff_exists.1 p2;obtain⟨u2,Ov⟩:=Option.isSome_iff_exists.1 p3;have HP1:=hid p1;clear p1 p2 p3;refine bD 19 fun K hK=>?_
   simp only[bp];go_simp;refine hK.out _ _ ⟨_,HP1.out⟩ (fun _=>?_);clear hK K;refine wpAnyH_done (by kernel_rfl) ?_ _;go_wp2_with fail;exact⟨⟨j+1,sf f j jx,by omega,by go_num,HN,HP1⟩,by simp[intOf];omega⟩
  ·obtain rfl:j=8:=by omega
   have h0:=hq.out;obtain⟨m0,m1,nL,nK,mq⟩:=aR h0.r;have MQ:=hid (mq (U false) (Z (Y ⟨kz,0,M⟩) 8 8));have Ek:Hid (dM ((wr.setCell ⟨kr,0,M⟩ (U false)).setCell ⟨kr,1,M⟩ (Z (Y ⟨kz,0,M⟩) 8 8)) (J #[U false,Z (Y ⟨kz,0,M⟩) 8 8]) (Y fun k=>da δ (s k) (t k))):=by
    refine⟨kz,rfl,?_⟩;rw[Below.heap_setCell _ _ _ _ nr.symm,Below.heap_setCell _ _ _ _ nr.symm,h0.z];have:f=fun k=>da δ (s k) (t k):=funext fun i=>by rw[hf.out i,if_pos i.isLt]
    rw[this]
   have Wo:Hid (ω w ((wr.setCell ⟨kr,0,M⟩ (U false)).setCell ⟨kr,1,M⟩ (Z (Y ⟨kz,0,M⟩) 8 8))):=(h0.b.setCell (p:=⟨kr,0,M⟩) l3 _).setCell (p:=⟨kr,1,M⟩) l3 _;clear mq h0 hq;go_wp2_with fail;exact bodyPost_ret (v:=J #[U false,Z (Y ⟨kz,0,M⟩) 8 8]) (by simp[results,results110,go_sem,MQ.1,MQ.2]) rfl ⟨_,rfl,Ek.out,Wo.out⟩
end
end RG
end
section
namespace RG
open Go.RowKit W
variable {δ : Bool}
section
variable{v vs vt:Value}
theorem dM.form{w:Wd}{s:Option (Fin 8->T)}(h:dM w v s):∃a n c,v=J #[U s.isNone,Z a n c]:=by
 cases s with
 | none=>exact⟨_,_,_,h⟩
 | some e=>obtain⟨g,h1,_⟩:=h;exact⟨_,_,_,h1⟩
theorem R9(b:Nat)(va:Option Addr)(vn vc:Nat)(n:Bool)(w:Wd) :
  Calls prog 110 #[ρ (Y ⟨b,0,M⟩),J #[U true,Z M 0 0],J #[U n,Z va vn vc]] w fun r w'=>r=υ (J #[U n,Z va vn vc])/\ω w w':=by
 go_enter func110,ntmps110;go_wp2_with fail;go_returns;exact⟨rfl,by go_grown⟩
theorem R3(b:Nat)(va:Option Addr)(vn vc:Nat)(w:Wd) :
  Calls prog 110 #[ρ (Y ⟨b,0,M⟩),J #[U false,Z va vn vc],J #[U true,Z M 0 0]] w fun r w'=>r=υ (J #[U false,Z va vn vc])/\ω w w':=by
 go_enter func110,ntmps110;go_wp2_with fail;go_returns;exact⟨rfl,by go_grown⟩
def ew(δ:Bool)(s:Option (Fin 8->T)):Prop:=∀e,s=Y e->∀k,Wv δ (e k)
theorem wm(b:Nat){s t:Option (Fin 8->T)}(w:Wd)(R:RD δ)(hb:w.cell? ⟨b,1,M⟩=Y (I O (dn δ)))(hs:dM w vs s)(ht:dM w vt t)(ws:ew δ s)(wt:ew δ t) :
  Calls prog 110 #[ρ (Y ⟨b,0,M⟩),vs,vt] w fun r w'=>∃v,r=υ v/\dM w' v (uY δ s t)/\ω w w':=by
 cases s with
 | none =>have e:vs=J #[U true,Z M 0 0]:=hs;subst e;obtain⟨a,n,c,rfl⟩:=ht.form;exact(R9 b a n c _ w).mono fun r w' ⟨h1,h2⟩=>⟨_,h1,ht.below h2,h2⟩
 | some s =>
  cases t with
  | none =>have e:vt=J #[U true,Z M 0 0]:=ht;subst e;obtain⟨g,rfl,h⟩:=hs;exact(R3 b _ _ _ w).mono fun r w' ⟨h1,h2⟩=>⟨_,h1,dM.below (s:=Y s) ⟨g,rfl,h⟩ h2,h2⟩
  | some t =>obtain⟨g1,rfl,h1⟩:=hs;obtain⟨g2,rfl,h2⟩:=ht;exact join_some b g1 g2 s t w R hb (ws s rfl) (wt t rfl) h1 h2
def Pp(s t:Option (Fin 8->T)):Bool:=match s,t with
 | none,M=>true
 | some s,Y t=>decide (∀k,s k=t k)
 | _,_=>false
theorem eqV(a b c d:Int)(w:Wd):(Op.equalIn 10000 191 (J #[I O a,I O b]) (J #[I O c,I O d])).run prog w=.ok (decide (a=c/\b=d)) w:=by
 by_cases h1:a=c
 ·by_cases h2:b=d
  ·simp[go_sem,h1,h2]
  ·simp[go_sem,h1,h2]
 ·simp[go_sem,h1]
theorem zp(n m:Bool)(va:Option Addr)(vn vc:Nat)(ua:Option Addr)(un uc:Nat)(w:Wd)(h:n=true∨m=true) :
  Calls prog 150 #[J #[U n,Z va vn vc],J #[U m,Z ua un uc]] w fun r w'=>r=υ (U (n == m))/\ω w w':=by
 cases n<;>cases m
 ·simp at h
 all_goals
  go_enter func150,ntmps150;go_wp2_with fail;go_returns;exact⟨rfl,by go_grown⟩
theorem Js(g1 g2:Nat)(s t:Fin 8->T)(w:Wd)(h1:Bk w g1 (ia s) 191)(h2:Bk w g2 (ia t) 191) :
  Calls prog 150 #[J #[U false,Z (Y ⟨g1,0,M⟩) 8 8],J #[U false,Z (Y ⟨g2,0,M⟩) 8 8]] w fun r w'=>r=υ (U (decide (∀k,s k=t k)))/\ω w w':=by
 obtain⟨k0,k1,kb⟩:=fh (w:=w) (o1:=L #[U false,Z (Y ⟨g1,0,M⟩) 8 8] 121) (o2:=L #[U false,Z (Y ⟨g2,0,M⟩) 8 8] 121) (Below.refl _ _);have HS:Hid (_=_):=(kb.block _ (ad h1)).trans h1;have HT:Hid (_=_):=(kb.block _ (ad h2)).trans h2;have s0:=cell_of k0 1 (v:=Z (Y ⟨g1,0,M⟩) 8 8) rfl;have s1:=cell_of k1 1 (v:=Z (Y ⟨g2,0,M⟩) 8 8) rfl;have KB:=hid kb;clear k0 k1 kb h1 h2;go_enter func150,ntmps150;go_upto_region 3 with fail;generalize (w.alloc (L #[U false,Z (Y ⟨g1,0,M⟩) 8 8] 121)).alloc (L #[U false,Z (Y ⟨g2,0,M⟩) 8 8] 121)=W at *
 obtain⟨k4,Qt⟩:∃k3,k3=w.heap.size:=⟨_,rfl⟩;obtain⟨k5,xU⟩:∃k5,k5=w.heap.size+1:=⟨_,rfl⟩;rw[<-xU,<-Qt];rw[<-Qt]at s0;rw[<-xU]at s1;clear Qt xU;go_wp2_with fail
 go_loopw [5] (fun v5 wr=>∃(j m:Nat),j<=8/\v5=I O j/\wr=W.drewN m/\Hid (∀i:Fin 8,i.val<j->s i=t i)) (fun v5 _=>8 - (intOf v5).toNat)
 case atStart=>exact⟨0,0,Nat.zero_le _,rfl,rfl,fun i h=>absurd h (Nat.not_lt_zero _)⟩
 case round =>
  obtain⟨j,m,hj,rfl,rfl,hf⟩:=hrel;by_cases qP:j<8
  ·have yf:((j:Nat):Int)<8:=by omega
   obtain⟨a1,a2⟩:=pW s j qP;obtain⟨a3,a4⟩:=pW t j qP;have c1:=cell_of HS.out _ a1;have c2:=cell_of HS.out _ a2;have c3:=cell_of HT.out _ a3;have c4:=cell_of HT.out _ a4;clear a1 a2 a3 a4;by_cases he:s ⟨j,qP⟩=t ⟨j,qP⟩
   ·have HN:Hid (∀i:Fin 8,i.val<j+1->s i=t i):=fun i hi=>by
     by_cases h:i.val=j
     ·have:i=⟨j,qP⟩:=Fin.ext h
      rw[this];exact he
     ·exact hf.out i (by omega)
    rw[<-he]at c3 c4;generalize pA (s ⟨j,qP⟩)=xa at *;generalize pB (s ⟨j,qP⟩)=xb at *;have eE:∀w,(Op.equalIn 10000 191 (J #[I O xa,I O xb]) (J #[I O xa,I O xb])).run prog w=.ok true w:=fun w=>by rw[eqV,decide_eq_true ⟨rfl,rfl⟩]
    clear he;go_wp2_with fail;go_quiet (fail);go_wp2_with fail;exact⟨⟨j+1,_,by omega,by go_num,rfl,HN⟩,by simp[intOf];omega⟩
   ·have E:Hid (decide (∀k,s k=t k)=false):=decide_eq_false fun h=>he (h _)
    have dF:¬ (pA (s ⟨j,qP⟩)=pA (t ⟨j,qP⟩)/\pB (s ⟨j,qP⟩)=pB (t ⟨j,qP⟩)):=fun h=>he (U6 h.1 h.2)
    generalize pA (s ⟨j,qP⟩)=xa at *;generalize pB (s ⟨j,qP⟩)=xb at *;generalize pA (t ⟨j,qP⟩)=ya at *;generalize pB (t ⟨j,qP⟩)=yb at *;have eE:∀w,(Op.equalIn 10000 191 (J #[I O xa,I O xb]) (J #[I O ya,I O yb])).run prog w=.ok false w:=fun w=>by rw[eqV,decide_eq_false dF]
    clear he dF;go_wp2_with fail;go_quiet (fail);go_wp2_with fail;go_ret;exact⟨by rw[E.out];rfl,⟨KB.os,KB.tape,KB.output,KB.size,KB.block⟩⟩
  ·obtain rfl:j=8:=by omega
   have E:Hid (decide (∀k,s k=t k)=true):=decide_eq_true fun k=>hf.out k k.isLt
   go_wp2_with fail;go_ret;exact⟨by rw[E.out];rfl,⟨KB.os,KB.tape,KB.output,KB.size,KB.block⟩⟩
theorem qA{s t:Option (Fin 8->T)}(w:Wd)(hs:dM w vs s)(ht:dM w vt t) :
  Calls prog 150 #[vs,vt] w fun r w'=>r=υ (U (Pp s t))/\ω w w':=by
 cases s with
 | none =>
  have e:vs=J #[U true,Z M 0 0]:=hs;subst e;obtain⟨a,n,c,rfl⟩:=ht.form;refine(zp true _ _ _ _ a n c w (.inl rfl)).mono fun r w' ⟨h1,h2⟩=>⟨?_,h2⟩
  rw[h1];cases t<;>rfl
 | some s =>
  cases t with
  | none =>have e:vt=J #[U true,Z M 0 0]:=ht;subst e;obtain⟨g,rfl,h⟩:=hs;exact(zp false true _ _ _ _ _ _ w (.inr rfl)).mono fun r w' ⟨h1,h2⟩=>⟨by rw[h1];rfl,h2⟩
  | some t =>obtain⟨g1,rfl,h1⟩:=hs;obtain⟨g2,rfl,h2⟩:=ht;exact Js g1 g2 s t w h1 h2
theorem S5(π:ar δ)(s t:Option (Fin 8->T)):Pp s t=FQ (Dm π) s t:=by
 cases s with
 | none=>cases t<;>rfl
 | some s =>
  cases t with
  | none=>rfl
  | some t =>
   show decide (∀k,s k=t k)=@decide (∀k,s k=t k) _;by_cases h:∀k,s k=t k
   ·rw[decide_eq_true h]
   ·rw[decide_eq_false h]
end
end RG
end
section
namespace RG
open Go.RowKit W
variable {δ : Bool}
section
variable{w1 w2 w3 w w':Wd}
abbrev dS:=Fin 8->T
abbrev dw:=Option dS
abbrev jr:=List dw × List Nat
structure Rc(δ:Bool) where
 base:Nat
 b:Nat
 pb:Nat
 gf:Nat
 gs:Nat
 al:Nat
 narrow:Nat
 ai:Nat
 th:Bool
 sv:Value
def raC(C:Rc δ)(n m:Nat):Array Value:=#[ρ (Y ⟨C.pb,0,M⟩),I O (dn δ),I O (C.al:Nat),I O (C.narrow:Nat),I O (C.ai:Nat),U C.th,C.sv,Z (Y ⟨C.gf,0,M⟩) n n,Z (Y ⟨C.gs,0,M⟩) m m]
structure bK(C:Rc δ)(F:jr)(w:Wd):Prop where
 aT:w.heap[C.b]?=Y (L (raC C F.1.length F.2.length) 186)
 gf:∃c,w.heap[C.gf]?=Y (L c 121)/\c.size=F.1.length*2
 gs:∃c,w.heap[C.gs]?=Y (L c 3)/\c.size=F.2.length
 f:∀p s,F.1[p]?=Y s->∃u v,w.cell? ⟨C.gf,p*2,M⟩=Y u/\w.cell? ⟨C.gf,p*2+1,M⟩=Y v/\dM w (J #[u,v]) s/\ew δ s
 s:∀i k,F.2[i]?=Y k->w.cell? ⟨C.gs,i,M⟩=Y (I O ((k:Nat):Int))/\k<=2
 lb:C.base<=C.b
 lf:C.base<=C.gf
 ls:C.base<=C.gs
 few:F.1.length<=1000/\F.2.length<=1000
 bY:RD δ
structure RK(C:Rc δ)(w w':Wd):Prop where
 below:Below C.base w w'
 others:∀k,k<w.heap.size->k≠C.gf->k≠C.gs->w'.heap[k]?=w.heap[k]?
structure jg(C:Rc δ)(l:List Int)(w:Wd):Prop where
 at':(l=[]/\C.sv=Value.slice M 0 0)∨∃(KF cap:Nat) (c:Array Value),C.sv=Value.slice (Y ⟨KF,0,M⟩) l.length cap/\w.heap[KF]?=Y (L c 3)/\(∀(i:Nat) (n:Int),l[i]?=Y n->c[i]?=Y (I O n))/\KF≠C.gf/\KF≠C.gs/\l.length<=cap/\cap<=maxLen
 few:l.length<=2000
structure RW(C:Rc δ):Prop where
 widened:∀(l:List Int) (F:jr) (g1 g2:Nat) (e f:dS) (w:Wd),bK C F w->jg C l w->w.heap[g1]?=Y (L (ia e) 191)->w.heap[g2]?=Y (L (ia f) 191)->Calls prog 151 #[ρ (Y ⟨C.b,0,M⟩),J #[U false,Z (Y ⟨g1,0,M⟩) 8 8],J #[U false,Z (Y ⟨g2,0,M⟩) 8 8]] w fun r w'=>∃v,r=υ v/\dM w' v (Y fun k=>fT (⟨l⟩:ar δ) (e k) (f k))/\ω w w'
 narrowed:∀(l:List Int) (F:jr) (g1 g2:Nat) (e f:dS) (w:Wd),bK C F w->jg C l w->w.heap[g1]?=Y (L (ia e) 191)->w.heap[g2]?=Y (L (ia f) 191)->Calls prog 152 #[ρ (Y ⟨C.b,0,M⟩),J #[U false,Z (Y ⟨g1,0,M⟩) 8 8],J #[U false,Z (Y ⟨g2,0,M⟩) 8 8]] w fun r w'=>∃v,r=υ v/\dM w' v (Y fun k=>ik δ (e k) (f k))/\ω w w'
theorem RK.refl(C:Rc δ)(w:Wd):RK C w w:=⟨Below.refl _ _,fun _ _ _ _=>rfl⟩
theorem RK.trans{C:Rc δ}(h:RK C w1 w2)(k:RK C w2 w3):RK C w1 w3 :=
 ⟨h.below.trans k.below,fun i hi h1 h2=>by rw[k.others i (Nat.lt_of_lt_of_le hi h.below.size) h1 h2,h.others i hi h1 h2]⟩
theorem RK.aB{C:Rc δ}(h:ω w w')(hB:C.base<=w.heap.size):RK C w w':=⟨h.mono hB,fun k hk _ _=>h.block k hk⟩
theorem bK.le{C:Rc δ}{F:jr}(h:bK C F w):C.base<=w.heap.size:=Nat.le_trans h.lb (Nat.le_of_lt (ad h.aT))
theorem bK.apart{C:Rc δ}{F:jr}(h:bK C F w){g:Nat}{c:Array Value}(hg:Bk w g c 191):g≠C.gf/\g≠C.gs:=by
 obtain⟨c1,h1,_⟩:=h.gf;obtain⟨c2,h2,_⟩:=h.gs;refine⟨fun e=>?_,fun e=>?_⟩
 ·unfold Bk at hg;rw[e,h1]at hg;cases hg
 ·unfold Bk at hg;rw[e,h2]at hg;cases hg
theorem bK.distinct{C:Rc δ}{F:jr}(h:bK C F w):C.b≠C.gf/\C.b≠C.gs/\C.gf≠C.gs:=by
 obtain⟨c1,h1,_⟩:=h.gf;obtain⟨c2,h2,_⟩:=h.gs;have h0:=h.aT;refine⟨fun e=>?_,fun e=>?_,fun e=>?_⟩
 ·rw[e,h1]at h0;cases h0
 ·rw[e,h2]at h0;cases h0
 ·rw[e,h2]at h1;cases h1
theorem dM.bF{C:Rc δ}{F:jr}{v:Value}{s:dw}(h:dM w v s)(ha:bK C F w)(k:RK C w w'):dM w' v s:=by
 cases s with
 | none=>exact h
 | some e =>obtain⟨g,h1,h2⟩:=h;obtain⟨n1,n2⟩:=ha.apart h2;exact⟨g,h1,(k.others g (ad h2) n1 n2).trans h2⟩
theorem bK.call{C:Rc δ}{F:jr}(h:bK C F w)(b:ω w w'):bK C F w':=by
 obtain⟨c1,h1,l1⟩:=h.gf;obtain⟨c2,h2,l2⟩:=h.gs;refine⟨(b.block _ (ad h.aT)).trans h.aT,⟨c1,(b.block _ (ad h1)).trans h1,l1⟩,⟨c2,(b.block _ (ad h2)).trans h2,l2⟩,fun p s hs=>?_,fun i k hk=>?_,h.lb,h.lf,h.ls,h.few,h.bY⟩
 ·obtain⟨u,v,e1,e2,e3,e4⟩:=h.f p s hs
  exact⟨u,v,by rw[b.cell (p:=⟨C.gf,p*2,M⟩) (jk e1)];exact e1,by rw[b.cell (p:=⟨C.gf,p*2+1,M⟩) (jk e2)];exact e2,e3.below b,e4⟩
 ·obtain⟨e1,e2⟩:=h.s i k hk
  exact⟨by rw[b.cell (p:=⟨C.gs,i,M⟩) (jk e1)];exact e1,e2⟩
theorem cC{g i b o:Nat}{u:Value}(h:b≠g∨o≠i):(w.setCell ⟨g,i,M⟩ u).cell? ⟨b,o,M⟩=w.cell? ⟨b,o,M⟩:=by
 by_cases hb:b=g
 ·have ho:o≠i:=by
   rcases h with h | h
   ·exact absurd hb h
   ·exact h
  subst hb;unfold World.cell? World.setCell;simp only[Array.getElem?_modify];cases hw:w.heap[b]? with
  | none=>simp
  | some ob=>cases ob<;>simp[ho.symm]
 ·unfold World.cell?
  simp only;rw[Below.heap_setCell w ⟨g,i,M⟩ u b hb]
theorem bK.site{C:Rc δ}{F:jr}(h:bK C F w){i k k':Nat}(hi:F.2[i]?=Y k)(hk:k'<=2):bK C (F.1,F.2.set i k') (w.setCell ⟨C.gs,i,M⟩ (I O ((k':Nat):Int)))/\RK C w (w.setCell ⟨C.gs,i,M⟩ (I O ((k':Nat):Int))):=by
 obtain⟨c1,h1,l1⟩:=h.gf;obtain⟨c2,h2,l2⟩:=h.gs;obtain⟨n1,n2,n3⟩:=h.distinct;have hl:=(List.getElem?_eq_some_iff.1 hi).1;have nY:∀j,j≠C.gs->(w.setCell ⟨C.gs,i,M⟩ (I O ((k':Nat):Int))).heap[j]?=w.heap[j]?:=fun j hj=>Below.heap_setCell _ _ _ _ hj
 have hK:RK C w (w.setCell ⟨C.gs,i,M⟩ (I O ((k':Nat):Int))):=⟨(Below.refl _ _).setCell (p:=⟨C.gs,i,M⟩) h.ls _,fun j _ _ hj=>nY j hj⟩;refine⟨⟨?_,⟨c1,(nY _ n3).trans h1,l1⟩,⟨_,ah h2 i _,by simp[l2]⟩,fun p s hs=>?_,fun j m hm=>?_,h.lb,h.lf,h.ls,⟨h.few.1,by simpa using h.few.2⟩,h.bY⟩,hK⟩
 ·rw[nY _ n2,List.length_set];exact h.aT
 ·obtain⟨u,v,e1,e2,e3,e4⟩:=h.f p s hs
  exact⟨u,v,by rw[cC (.inl n3)];exact e1,by rw[cC (.inl n3)];exact e2,e3.bF h hK,e4⟩
 ·rw[List.getElem?_set]at hm
  by_cases e:i=j
  ·subst e
   rw[if_pos rfl,if_pos hl]at hm;cases hm
   refine⟨?_,hk⟩;refine cell_of (ah h2 i _) i ?_;rw[Array.getElem?_setIfInBounds_self,if_pos (by rw[l2];exact hl)]
  ·rw[if_neg e]at hm
   obtain⟨e1,e2⟩:=h.s j m hm;exact⟨by rw[cC (.inr (fun h=>e h.symm))];exact e1,e2⟩
end
end RG
end
section
namespace RG
open Go.RowKit W
variable {δ : Bool}
theorem bK.cells{C:Rc δ}{F:jr}{w:Wd}(h:bK C F w):w.cell? ⟨C.b,1,M⟩=Y (I O (dn δ))/\w.cell? ⟨C.b,7,M⟩=Y (Z (Y ⟨C.gf,0,M⟩) F.1.length F.1.length)/\w.cell? ⟨C.b,8,M⟩=Y (Z (Y ⟨C.gs,0,M⟩) F.2.length F.2.length) :=
 ⟨cell_of h.aT 1 rfl,cell_of h.aT 7 rfl,cell_of h.aT 8 rfl⟩
theorem JG(b:Nat)(site:Int)(bad:Bool)(w:Wd) :
  Calls prog 109 #[ρ (Y ⟨b,0,M⟩),I O site,U bad,U false] w fun r w'=>r=υ (φ #[])/\w'=w:=by
 go_enter func109,ntmps109;go_wp2_with fail;try simp only[Exit.inBlock,Exit.then]
 refine bodyPost_ret (results_none rfl _ _ _) rfl ?_;exact⟨rfl,rfl⟩
theorem Jx(b:Nat)(site:Int)(bad:Bool)(w:Wd)(h:site<0) :
  Calls prog 109 #[ρ (Y ⟨b,0,M⟩),I O site,U bad,U true] w fun r w'=>r=υ (φ #[])/\w'=w:=by
 go_enter func109,ntmps109;go_wp2_with fail;try simp only[Exit.inBlock,Exit.then]
 refine bodyPost_ret (results_none rfl _ _ _) rfl ?_;exact⟨rfl,rfl⟩
theorem L8(C:Rc δ)(π:ar δ)(F:jr)(q:Nat)(bad:Bool)(w:Wd)(h:bK C F w)(hq:q<F.2.length) :
  Calls prog 109 #[ρ (Y ⟨C.b,0,M⟩),I O (q:Nat),U bad,U true] w fun r w'=>r=υ (φ #[])/\bK C (cP (Dm π) F (.site (q:Int) bad)) w'/\RK C w w':=by
 obtain⟨k,hk⟩:∃k,F.2[q]?=Y k:=⟨_,List.getElem?_eq_getElem hq⟩;obtain⟨c1,k2⟩:=h.s q k hk;obtain⟨_,_,b8⟩:=h.cells;obtain⟨cs,vo,_⟩:=h.gs;have f1:=aw vo q;have hqi:((q:Nat):Int)<((F.2.length:Nat):Int):=by omega
 have Ow:¬ ((q:Nat):Int)<0:=by omega
 have aaJ:decide (((q:Nat):Int)<0)=false:=decide_eq_false Ow;have aak:((F.2.length:Nat):Int)<=1000:=by have:=h.few.2;omega
 have J7:∀k',k'=max k (if bad then 2 else 1)->cP (Dm π) F (.site (q:Int) bad)=(F.1,F.2.set q k'):=fun k' e=>by
  show(F.1,F.2.modify (q:Int).toNat _)=_;rw[Int.toNat_natCast,e];congr 1;refine List.ext_getElem? fun i=>?_
  rw[List.getElem?_modify,List.getElem?_set];by_cases hi:q=i
  ·subst hi
   rw[if_pos rfl,if_pos hq,hk];simp
  ·rw[if_neg hi]
   simp[hi]
 have HR:=hid h;cases bad with
 | true =>
  have E:=J7 2 (by simp;omega);have HF:Hid (bK C (cP (Dm π) F (.site (q:Int) true)) (w.setCell ⟨C.gs,q,M⟩ (I O 2))/\RK C w (w.setCell ⟨C.gs,q,M⟩ (I O 2))):=by unfold Hid;rw[E];exact h.site (k':=2) hk (by omega)
  clear E J7 h vo hk;generalize C.b=cb at *;generalize C.gs=cg at *;go_enter func109,ntmps109;go_wp2_with fail
  go_end0
  exact⟨rfl,HF.1,HF.2⟩
 | false =>
  by_cases hz:k=0
  ·subst hz
   have E:=J7 1 (by simp);have HF:Hid (bK C (cP (Dm π) F (.site (q:Int) false)) (w.setCell ⟨C.gs,q,M⟩ (I O 1))/\RK C w (w.setCell ⟨C.gs,q,M⟩ (I O 1))):=by unfold Hid;rw[E];exact h.site (k':=1) hk (by omega)
   clear E J7 h vo hk;generalize C.b=cb at *;generalize C.gs=cg at *;go_enter func109,ntmps109;go_wp2_with fail
   go_end0
   exact⟨rfl,HF.1,HF.2⟩
  ·have E:=J7 k (by simp;omega)
   have es:F.2.set q k=F.2:=by
    refine List.ext_getElem? fun i=>?_
    rw[List.getElem?_set];by_cases hi:q=i
    ·subst hi;rw[if_pos rfl,if_pos hq,hk]
    ·rw[if_neg hi]
   rw[es]at E;have HF:Hid (bK C (cP (Dm π) F (.site (q:Int) false)) w):=by unfold Hid;rw[E];exact h
   have zW:¬ ((k:Nat):Int)=0:=by omega
   clear E es J7 h vo hk;generalize C.b=cb at *;generalize C.gs=cg at *;go_enter func109,ntmps109;go_wp2_with fail
   go_end0
   exact⟨rfl,HF.out,RK.refl _ _⟩
end RG
end
section
namespace RG
open Go.RowKit W
variable {δ : Bool}
theorem bK.ay{C:Rc δ}{F:jr}{w:Wd}(h:bK C F w){p:Nat}(hp:p<F.1.length){s:dw}{u v:Value}(hs:dM w (J #[u,v]) s)(hw:ew δ s):bK C (F.1.set p s,F.2) ((w.setCell ⟨C.gf,p*2,M⟩ u).setCell ⟨C.gf,p*2+1,M⟩ v)/\RK C w ((w.setCell ⟨C.gf,p*2,M⟩ u).setCell ⟨C.gf,p*2+1,M⟩ v):=by
 obtain⟨c1,h1,l1⟩:=h.gf;obtain⟨c2,h2,l2⟩:=h.gs;obtain⟨n1,n2,n3⟩:=h.distinct;have nY:∀j,j≠C.gf->((w.setCell ⟨C.gf,p*2,M⟩ u).setCell ⟨C.gf,p*2+1,M⟩ v).heap[j]?=w.heap[j]?:=fun j hj=>by rw[Below.heap_setCell _ _ _ _ hj,Below.heap_setCell _ _ _ _ hj]
 have hK:RK C w ((w.setCell ⟨C.gf,p*2,M⟩ u).setCell ⟨C.gf,p*2+1,M⟩ v):=⟨((Below.refl _ _).setCell (p:=⟨C.gf,p*2,M⟩) h.lf _).setCell (p:=⟨C.gf,p*2+1,M⟩) h.lf _,fun j _ hj _=>nY j hj⟩;have hN:=ah (ah h1 (p*2) u) (p*2+1) v;refine⟨⟨?_,⟨_,hN,by simp[l1]⟩,⟨c2,(nY _ n3.symm).trans h2,l2⟩,fun i s' df=>?_,fun j m hm=>?_,h.lb,h.lf,h.ls,⟨by simpa using h.few.1,h.few.2⟩,h.bY⟩,hK⟩
 ·rw[nY _ n1,List.length_set];exact h.aT
 ·rw[List.getElem?_set]at df
  by_cases e:p=i
  ·subst e
   rw[if_pos rfl,if_pos hp]at df;cases df
   refine⟨u,v,cell_of hN _ ?_,cell_of hN _ ?_,hs.bF h hK,hw⟩
   ·rw[Array.getElem?_setIfInBounds,if_neg (by omega),Array.getElem?_setIfInBounds_self,if_pos (by rw[l1];omega)]
   ·rw[Array.getElem?_setIfInBounds_self,if_pos (by rw[Array.size_setIfInBounds,l1];omega)]
  ·rw[if_neg e]at df
   obtain⟨u',v',e1,e2,e3,e4⟩:=h.f i s' df;exact⟨u',v',by rw[cC (.inr (by omega)),cC (.inr (by omega))];exact e1,by rw[cC (.inr (by omega)),cC (.inr (by omega))];exact e2,e3.bF h hK,e4⟩
 ·obtain⟨e1,e2⟩:=h.s j m hm
  exact⟨by rw[cC (.inl n3.symm),cC (.inl n3.symm)];exact e1,e2⟩
theorem C8(b:Nat)(p:Int)(n:Bool)(va:Option Addr)(vn vc:Nat)(rec:Bool)(w:Wd)(h:rec=false∨n=true) :
  Calls prog 77 #[ρ (Y ⟨b,0,M⟩),I O p,J #[U n,Z va vn vc],U rec] w fun r w'=>r=υ (φ #[])/\ω w w':=by
 cases rec with
 | false =>
  go_enter func77,ntmps77;go_wp2_with fail
  go_end0
  exact⟨rfl,by go_grown⟩
 | true =>
  obtain rfl:n=true:=by simpa using h
  go_enter func77,ntmps77;go_wp2_with fail
  go_end0
  exact⟨rfl,by go_grown⟩
theorem oC{s t:dw}(hs:ew δ s)(ht:ew δ t):ew δ (uY δ s t):=by have:=lA (K:=Kr ⟨[]⟩) (s:=s) (t:=t) hs ht;rw[mY ⟨[]⟩];exact this
theorem qp{α:Type}(l:List α)(p:Nat)(f:α->α)(x:α)(h:l[p]?=Y x):l.modify p f=l.set p (f x):=by
 refine List.ext_getElem? fun i=>?_
 rw[List.getElem?_modify,List.getElem?_set];by_cases hi:p=i
 ·subst hi
  rw[if_pos rfl,if_pos (List.getElem?_eq_some_iff.1 h).1,h];simp
 ·rw[if_neg hi]
  simp[hi]
theorem OR(C:Rc δ)(π:ar δ)(F:jr)(p:Nat)(e:dS)(g:Nat)(w:Wd)(h:bK C F w)(hp:p<F.1.length)(he:∀k,Wv δ (e k))(hg:Bk w g (ia e) 191) :
  Calls prog 77 #[ρ (Y ⟨C.b,0,M⟩),I O (p:Nat),J #[U false,Z (Y ⟨g,0,M⟩) 8 8],U true] w fun r w'=>r=υ (φ #[])/\bK C (cP (Dm π) F (.ay (p:Int) e)) w'/\RK C w w':=by
 obtain⟨s0,QZ⟩:∃s0,F.1[p]?=Y s0:=⟨_,List.getElem?_eq_getElem hp⟩;have E:Hid (cP (Dm π) F (.ay (p:Int) e)=(F.1.set p (uY δ s0 (Y e)),F.2)):=by unfold Hid;show(F.1.modify (p:Int).toNat _,F.2)=_;rw[Int.toNat_natCast];exact Prod.ext ((qp (α:=dw) F.1 p (fun f=>Sp.jn (Dm π) f (Y e)) s0 QZ).trans (congrArg (fun x:dw=>F.1.set p x) (mY π s0 (Y e)).symm)) rfl
 have hpi:((p:Nat):Int)<((F.1.length:Nat):Int):=by omega
 have aak:((F.1.length:Nat):Int)<=1000:=by have:=h.few.1;omega
 have kb:=below_alloc1 w (L #[U false,Z (Y ⟨g,0,M⟩) 8 8] 121);have hA:=h.call kb;have TX:=heap_alloc_new w (L #[U false,Z (Y ⟨g,0,M⟩) 8 8] 121);have NR:=(kb.block _ (ad hg)).trans hg;have mN:Hid (RK C w _):=RK.aB kb h.le;have BK:C.gf<w.heap.size:=by obtain⟨c,hc,_⟩:=h.gf;exact ad hc
 clear h kb hg;rw[E.out];go_enter func77,ntmps77;go_wp2_with fail;generalize w.alloc (L #[U false,Z (Y ⟨g,0,M⟩) 8 8] 121)=W at *;obtain⟨k6,Ib⟩:∃k6,k6=w.heap.size:=⟨_,rfl⟩;rw[<-Ib];rw[<-Ib]at TX;have nk6:k6≠C.gf:=by omega
 clear Ib BK;have hq:bK C F W.drew:=hA.call (Below.refl _ _).drew;have ZK:W.drew.heap[k6]?=Y (L #[U false,Z (Y ⟨g,0,M⟩) 8 8] 121):=TX;have Yj:W.drew.heap[g]?=Y (L (ia e) 191):=NR;have WM:Hid (RK C w W.drew):=mN.trans ⟨(Below.refl _ _).drew,fun _ _ _ _=>rfl⟩;obtain⟨J2,HJ⟩:∃J2,Hid (J2=p*2):=⟨_,rfl⟩;obtain⟨u0,v0,e1,e2,e3,e4⟩:=hq.f p s0 QZ;rw[<-HJ.out]at e1 e2;obtain⟨za,zn,zc,ez⟩:=e3.form;obtain⟨rfl,rfl⟩:u0=U s0.isNone/\v0=Z za zn zc:=by
  injection ez with ez
  have:=congrArg Array.toList ez;simp at this;exact this
 have HJN:Hid (Calls _ _ _ _ _):=wm C.b W.drew hq.bY hq.cells.1 e3 (show dM W.drew (J #[U false,Z (Y ⟨g,0,M⟩) 8 8]) (Y e) from⟨g,rfl,Yj⟩) e4 (fun e' h k=>by cases h;exact he k);have HWJ:Hid (ew δ (uY δ s0 (Y e))):=oC e4 (fun e' h k=>by cases h;exact he k);have HQ:=hid hq;have HC7:=hid hq.cells.2.1;clear e3 e4 ez hq Yj;refine wp_region_held_drew (S:=fun w':Wd=>w'.cell? ⟨C.b,7,M⟩=Y (Z (Y ⟨C.gf,0,M⟩) F.1.length F.1.length)/\w'.heap[k6]?=Y (L #[U false,Z (Y ⟨g,0,M⟩) 8 8] 121)) (by kernel_rfl) ⟨HC7.out,ZK⟩ (fun aa=>?_);generalize W.drew=V at *;clear hA TX NR mN;refine tq 0 (ρ (Y ⟨C.b,0,M⟩)) aa ?_;refine tq 1 (ρ (Y ⟨C.b,0,M⟩)) aa ?_;refine tq 2 (ρ (Y ⟨C.b,7,M⟩)) aa ?_;refine tk 3 (Z (Y ⟨C.gf,0,M⟩) F.1.length F.1.length) rfl (fun w' h=>by have q:=h.1;go_simp) aa ?_;refine tq 4 (I O (p:Nat)) aa ?_;refine tq 5 (ρ (Y ⟨C.b,0,M⟩)) aa ?_;refine tq 6 (ρ (Y ⟨C.b,0,M⟩)) aa ?_;refine tq 7 (ρ (Y ⟨C.b,0,M⟩)) aa ?_;refine tq 8 (ρ (Y ⟨C.b,7,M⟩)) aa ?_;refine tk 9 (Z (Y ⟨C.gf,0,M⟩) F.1.length F.1.length) rfl (fun w' h=>by have q:=h.1;go_simp) aa ?_;refine tq 10 (I O (p:Nat)) aa ?_;refine tk 11 (ρ (Y ⟨C.gf,J2,M⟩)) rfl (fun w' h=>by rw[HJ.out];go_simp) aa ?_;refine tk 13 (J #[U false,Z (Y ⟨g,0,M⟩) 8 8]) rfl (fun w' h=>by have q:=cell_of h.2 0 (v:=U false) rfl;have q2:=cell_of h.2 1 (v:=Z (Y ⟨g,0,M⟩) 8 8) rfl;go_simp) aa ?_;refine bD 12 fun K hK=>?_
 simp only[bp,fB];go_simp;refine hK.out _ _ aa (fun _=>?_);clear hK K;refine bD 14 fun K hK=>?_
 simp only[bp];go_simp;refine HJN.mono ?_;rintro r w8⟨v8,rfl,Gv,b8⟩;obtain⟨ya,yn,yc,rfl⟩:=Gv.form;have UG:bK C F w8:=HQ.call b8;have YI:w8.cell? ⟨C.b,7,M⟩=Y (Z (Y ⟨C.gf,0,M⟩) F.1.length F.1.length)/\w8.heap[k6]?=Y (L #[U false,Z (Y ⟨g,0,M⟩) 8 8] 121):=⟨UG.cells.2.1,(b8.block _ (ad ZK)).trans ZK⟩;have HP:Hid (bK C (F.1.set p (uY δ s0 (Y e)),F.2) _/\RK C w8 _):=UG.ay hp Gv HWJ.out;have HK8:Hid (RK C w w8):=WM.trans (RK.aB b8 HQ.le);obtain⟨y0,y1,y2,y3,_,_⟩:=UG.f p s0 QZ;obtain⟨cg,Uu,_⟩:=UG.gf;have f0:=aw Uu (p*2);have f1:=aw Uu (p*2+1);obtain⟨n1,n2,n3⟩:=UG.distinct;have Zz:∀u v:Value,((w8.setCell ⟨C.gf,p*2,M⟩ u).setCell ⟨C.gf,p*2+1,M⟩ v).cell? ⟨C.b,7,M⟩=Y (Z (Y ⟨C.gf,0,M⟩) F.1.length F.1.length):=fun u v=>by rw[cC (.inl n1),cC (.inl n1)];exact YI.1
 have Tv:∀u v:Value,((w8.setCell ⟨C.gf,p*2,M⟩ u).setCell ⟨C.gf,p*2+1,M⟩ v).heap[k6]?=Y (L #[U false,Z (Y ⟨g,0,M⟩) 8 8] 121):=fun u v=>by rw[Below.heap_setCell _ _ _ _ nk6,Below.heap_setCell _ _ _ _ nk6];exact YI.2
 rw[<-HJ.out]at y2 y3 f0 f1 HP Zz Tv;have HY:=hid (And.intro y2 (And.intro y3 (And.intro f0 f1)));have HS9:=hid Zz;have ZW:=hid Tv;clear y2 y3 f0 f1 Zz Tv Uu UG e1 e2 b8 Gv;go_wp2_with fail;refine hK.out _ _ YI (fun _=>?_);clear hK K;refine tk 15 (ρ (Y ⟨C.gf,J2,M⟩)) rfl (fun w' h=>by rw[HJ.out];go_simp) YI ?_;have y2:=HY.1;have y3:=HY.2.1;have f0:=HY.2.2.1;have f1:=HY.2.2.2;refine bD 16 fun K hK=>?_
 simp only[bp];go_simp;refine hK.out _ _ ⟨HS9.out _ _,ZW.out _ _⟩ (fun _=>?_);clear hK K;refine wpAnyH_done (by kernel_rfl) ?_ _;go_wp2_with fail
 go_end0
 exact⟨rfl,HP.1,HK8.trans HP.2⟩
end RG
end
section
namespace RG
open Go.RowKit W
variable {δ : Bool}
section
variable{g cap ge k6 k8 kn k n:Nat}
variable{ns:List aH}
variable{w w' W W' V:Wd}
variable{e:dS}
variable{d:aH}
variable{F F':jr}
structure Gd(C:Rc δ)(g:Nat):Prop where
 p:C.pb<C.base
 g:g<C.base
 wd:RW C
theorem CQ{C:Rc δ}(G:Gd C g)(h:db C.pb g cap ns w)(k:Below C.base w w'):db C.pb g cap ns w' :=
 ⟨by rw[k.cell (p:=⟨C.pb,0,M⟩) G.p];exact h.slice,fun j d c u h1 h2 h3=>by rw[k.cell (p:=⟨g,j*10+c,M⟩) G.g];exact h.cells j d c u h1 h2 h3,Nat.lt_of_lt_of_le h.ltp k.size,Nat.lt_of_lt_of_le h.ltg k.size,h.ow,h.hmax,h.hn⟩
theorem look{C:Rc δ}(G:Gd C g)(h:db C.pb g cap ns w)(k:RK C w w'):db C.pb g cap ns w':=CQ G h k.below
def dt(π:ar δ)(x:Sm)(ct:Ct)(e:dS):List (eU T) × Option T:=Sp.dt (Dm π) x ct e
def jv(C:Rc δ)(π:ar δ)(g cap:Nat)(ns:List aH)(x:Sm)(k:Nat)(ct:Ct):Prop:=∀(F:jr) (e:dS) (ge:Nat) (rec:Bool) (w:Wd),bK C F w->db C.pb g cap ns w->(∀k,Wv δ (e k))->w.heap[ge]?=Y (L (ia e) 191)->cV rec F (dt π x ct e).1 ->
 Calls prog 105 #[ρ (Y ⟨C.b,0,M⟩),I O (k:Nat),J #[U false,Z (Y ⟨ge,0,M⟩) 8 8],U rec] w fun r w'=>∃a b ok,r=υ (φ #[J #[I O a,I O b],U ok])/\bK C (told π rec F (dt π x ct e).1) w'/\RK C w w'/\PA δ a b ok (dt π x ct e).2
def nX(d:aH):Array Value:=#[I O d.kind,I O d.a,I O d.b,I O d.c,I O d.n,I O d.next,χ ⟨d.sign.toArray⟩,I O d.site,I O d.ay,U d.els]
structure ji(C:Rc δ)(g cap:Nat)(ns:List aH)(e:dS)(ge:Nat)(d:aH)(w:Wd)(k6 k8 kn:Nat)(F:jr)(W:Wd):Prop where
 ra:bK C F W
 look:db C.pb g cap ns W
 env:W.heap[ge]?=Y (L (ia e) 191)
 box:W.heap[k6]?=Y (L #[U false,Z (Y ⟨ge,0,M⟩) 8 8] 121)
 res:W.heap[k8]?=Y (L #[I O 0,I O 0] 191)
 nd:W.heap[kn]?=Y (L (nX d) 176)
 bF:RK C w W
 old:bK C F w∨C.gf<w.heap.size/\C.gs<w.heap.size
 l6:w.heap.size<=k6
 l8:w.heap.size<=k8
 ln:w.heap.size<=kn
theorem ji.step{C:Rc δ}(G:Gd C g)(h:ji C g cap ns e ge d w k6 k8 kn F W)(hR:bK C F' W')(k:RK C W W'):ji C g cap ns e ge d w k6 k8 kn F' W':=by
 have hl:C.gf<w.heap.size/\C.gs<w.heap.size:=by
  rcases h.old with h | h
  ·obtain⟨c1,h1,_⟩:=h.gf
   obtain⟨c2,h2,_⟩:=h.gs;exact⟨ad h1,ad h2⟩
  ·exact h
 have l6:=h.l6;have l8:=h.l8;have ln:=h.ln;obtain⟨n1,n2⟩:=h.ra.apart h.env;exact⟨hR,RG.look G h.look k,(k.others _ (ad h.env) n1 n2).trans h.env,(k.others _ (ad h.box) (by omega) (by omega)).trans h.box,(k.others _ (ad h.res) (by omega) (by omega)).trans h.res,(k.others _ (ad h.nd) (by omega) (by omega)).trans h.nd,h.bF.trans k,.inr hl,l6,l8,ln⟩
theorem ji.call{C:Rc δ}(G:Gd C g)(h:ji C g cap ns e ge d w k6 k8 kn F W)(k:ω W W'):ji C g cap ns e ge d w k6 k8 kn F W':=h.step G (h.ra.call k) (RK.aB k h.ra.le)
def wW(w:Wd)(ge:Nat)(d:aH):Wd:=((w.alloc (L #[U false,Z (Y ⟨ge,0,M⟩) 8 8] 121)).alloc (L #[I O 0,I O 0] 191)).alloc (L #[I O d.kind,I O d.a,I O d.b,I O d.c,I O d.n,I O d.next,χ ⟨d.sign.toArray⟩,I O d.site,I O d.ay,U d.els] 176)
theorem re{C:Rc δ}{w:Wd}(G:Gd C g)(hR:bK C F w)(hL:db C.pb g cap ns w)(mL:Bk w ge (ia e) 191)(d:aH):ji C g cap ns e ge d w w.heap.size (w.heap.size+1) (w.heap.size+1+1) F (wW w ge d):=by obtain⟨h1,h2,h3,kb⟩:=cH (w:=w) (o1:=L #[U false,Z (Y ⟨ge,0,M⟩) 8 8] 121) (o2:=L #[I O 0,I O 0] 191) (o3:=L (nX d) 176) (Below.refl _ _);have hk:=RK.aB kb hR.le;exact⟨hR.call kb,RG.look G hL hk,(kb.block _ (ad mL)).trans mL,h1,h2,h3,hk,.inl hR,Nat.le_refl _,by omega,by omega⟩
theorem Hv{u v:Value}{ty:TypeId}(h:Bk w' k #[u,v] ty)(hb:ω w w')(hk:w.heap.size<=k)(a b:Value):ω w ((w'.setCell ⟨k,0,M⟩ a).setCell ⟨k,1,M⟩ b)/\((w'.setCell ⟨k,0,M⟩ a).setCell ⟨k,1,M⟩ b).heap[k]?=Y (L #[a,b] ty) :=
 ⟨(hb.setCell (p:=⟨k,0,M⟩) hk _).setCell (p:=⟨k,1,M⟩) hk _,by rw[ah (ah h 0 a) 1 b];rfl⟩
theorem bK.own{C:Rc δ}(h:bK C F w)(hb:k≠C.b)(hf:k≠C.gf)(hs:k≠C.gs)(he:∀e,w.heap[k]?≠Y (L (ia e) 191))(nY:∀j,j≠k->w'.heap[j]?=w.heap[j]?):bK C F w':=by
 have oc:∀j o,j≠k->w'.cell? ⟨j,o,M⟩=w.cell? ⟨j,o,M⟩:=fun j o hj=>by unfold World.cell?;simp only;rw[nY j hj]
 refine⟨(nY _ hb.symm).trans h.aT,?_,?_,fun p s hp=>?_,fun i m hm=>?_,h.lb,h.lf,h.ls,h.few,h.bY⟩
 ·rw[nY _ hf.symm];exact h.gf
 ·rw[nY _ hs.symm];exact h.gs
 ·obtain⟨u,v,e1,e2,e3,e4⟩:=h.f p s hp
  refine⟨u,v,(oc _ _ hf.symm).trans e1,(oc _ _ hf.symm).trans e2,?_,e4⟩;cases s with
  | none=>exact e3
  | some e =>obtain⟨g,q1,q2⟩:=e3;exact⟨g,q1,(nY g (fun hg=>he e (by rw[<-hg];exact q2))).trans q2⟩
 ·obtain⟨e1,e2⟩:=h.s i m hm
  exact⟨(oc _ _ hs.symm).trans e1,e2⟩
theorem RK.own{C:Rc δ}(h:RK C w w')(hk:w.heap.size<=k)(hb:C.base<=w.heap.size)(i:Nat)(u:Value):RK C w (w'.setCell ⟨k,i,M⟩ u) :=
 ⟨h.below.setCell (p:=⟨k,i,M⟩) (Nat.le_trans hb hk) _,fun j hj h1 h2=>by rw[Below.heap_setCell _ _ _ _ (by show j≠k;omega)];exact h.others j hj h1 h2⟩
theorem Mc(c:Array Value)(h:c.size=2)(ty:TypeId)(e:dS):Y (Obj.cells c ty)≠Y (L (ia e) 191):=fun q=>by
 injection q with q
 injection q with q1 q2
 rw[q1,Dz]at h;omega
theorem ji.lt{C:Rc δ}(h:ji C g cap ns e ge d w k6 k8 kn F W):C.gf<w.heap.size/\C.gs<w.heap.size:=by
 rcases h.old with h | h
 ·obtain⟨c1,h1,_⟩:=h.gf
  obtain⟨c2,h2,_⟩:=h.gs;exact⟨ad h1,ad h2⟩
 ·exact h
theorem ji.ret{C:Rc δ}(h:ji C g cap ns e ge d w k6 k8 kn F W)(u v:Value):bK C F ((W.setCell ⟨k8,0,M⟩ u).setCell ⟨k8,1,M⟩ v)/\RK C w ((W.setCell ⟨k8,0,M⟩ u).setCell ⟨k8,1,M⟩ v):=by
 obtain⟨l1,l2⟩:=h.lt;have l8:=h.l8;have hb:k8≠C.b:=fun q=>by have:=h.ra.aT;rw[<-q,h.res]at this;cases this
 have hle:C.base<=w.heap.size:=Nat.le_trans h.ra.lf (by omega);exact⟨h.ra.own (k:=k8) hb (by omega) (by omega) (fun e=>by rw[h.res];exact Mc _ rfl _ _) (fun j hj=>by rw[Below.heap_setCell _ _ _ _ hj,Below.heap_setCell _ _ _ _ hj]),(h.bF.own l8 hle _ _).own l8 hle _ _⟩
theorem ji.late{C:Rc δ}(G:Gd C g)(h:ji C g cap ns e ge d w k6 k8 kn F V)(u v:Value)(ty:TypeId) :
  ji C g cap ns e ge d w k6 k8 kn F (V.alloc (L #[u,v] ty))/\∀w8,Below (V.alloc (L #[u,v] ty)).heap.size (V.alloc (L #[u,v] ty)) w8->ji C g cap ns e ge d w k6 k8 kn F w8/\w8.heap[V.heap.size]?=Y (L #[u,v] ty)/\∀a b,ji C g cap ns e ge d w k6 k8 kn F ((w8.setCell ⟨V.heap.size,0,M⟩ a).setCell ⟨V.heap.size,1,M⟩ b)/\((w8.setCell ⟨V.heap.size,0,M⟩ a).setCell ⟨V.heap.size,1,M⟩ b).heap[V.heap.size]?=Y (L #[a,b] ty):=by
 have ba:=below_alloc1 V (L #[u,v] ty);have hn:=heap_alloc_new V (L #[u,v] ty);refine⟨h.call G ba,fun w8 b8=>?_⟩;have yR:=(b8.block _ (ad hn)).trans hn;have bb:=ba.trans (b8.mono ba.size);exact⟨h.call G bb,yR,fun a b=>⟨h.call G (Hv yR bb (Nat.le_refl _) a b).1,(Hv yR bb (Nat.le_refl _) a b).2⟩⟩
theorem JT{C:Rc δ}(π:ar δ){n:Nat}(G:Gd C g)(ct:Ct)(hd:ns[k]?=Y d)(hk:d.kind=1)(hn:d.n=(n:Int))(hm:n<=32767):jv C π g cap ns (.num n) k ct:=by
 intro F e ge rec w hR hL he mL hr;have HW:=re G hR hL mL d;obtain⟨W,hW⟩:∃W,wW w ge d=W:=⟨_,rfl⟩;rw[hW]at HW;unfold wW at hW;rw[hk]at hW;have m0:=cell_of hR.aT 0 (v:=ρ (Y ⟨C.pb,0,M⟩)) rfl;have c0:=hL.slice;obtain⟨cR,r0,r1,r2,r3,r4,r5,r6,r7,r8,r9⟩:=hL.facts hd;have h1:=hL.ow;have h2:=hL.hmax;have h3:=hL.hn;have lp:=hL.ltp;have lg:=hL.ltg;have lb:C.b<w.heap.size:=ad hR.aT;rw[hk]at r0;have H:=hid HW;have HE:Hid (told π rec F (dt π (.num n) ct e).1=F/\PA δ (pA (gz δ (n:Int))) (pB (gz δ (n:Int))) true (dt π (.num n) ct e).2):=⟨dV π rec F,rfl,rfl,rfl,(Kr π).wnum _ ⟨by omega,by omega⟩⟩;have HK:Hid (d.kind=1/\d.n=(n:Int)):=⟨hk,hn⟩;clear hR hL mL he hr hd HW hk hn;go_enter func105,ntmps105;go_upto_region 2 with fail;try rw[hW]
 obtain⟨k6,e6⟩:∃k6,k6=w.heap.size:=⟨_,rfl⟩;obtain⟨k8,e8⟩:∃k8,k8=w.heap.size+1:=⟨_,rfl⟩;obtain⟨kn,en⟩:∃kn,kn=w.heap.size+1+1:=⟨_,rfl⟩;rw[<-en,<-e8,<-e6];rw[<-en,<-e8,<-e6]at H;clear hW m0 c0 r0 r1 r2 r3 r4 r5 r6 r7 r8 r9 h1 h2 h3 lp lg lb cR e6 e8 en;have m1:=H.ra.cells.1;have n0:=cell_of H.nd 0 (v:=I O 1) (by rw[<-HK.1];rfl);have n4:=cell_of H.nd 4 (v:=I O (n:Int)) (by rw[<-HK.2];rfl);go_wp2_with fail;refine wp_region_held_drew (S:=fun w':Wd=>ji C g cap ns e ge d w k6 k8 kn F w') (by kernel_rfl) (H.call G (Below.refl _ _).drew) (fun aa=>?_);have HG:=hid G;clear m1 n0 n4 H G;generalize W.drew=V at *;refine tq 0 (ρ (Y ⟨C.b,0,M⟩)) aa ?_;refine tq 1 (ρ (Y ⟨C.b,0,M⟩)) aa ?_;refine tq 2 (ρ (Y ⟨C.b,1,M⟩)) aa ?_;refine tq 3 (ρ (Y ⟨C.b,1,M⟩)) aa ?_;refine tk 4 (I O (dn δ)) rfl (fun w' h=>by have q:=h.ra.cells.1;go_simp) aa ?_;refine tq 5 (ρ (Y ⟨kn,4,M⟩)) aa ?_;refine tk 6 (I O (n:Int)) rfl (fun w' h=>by have q:=cell_of h.nd 4 (v:=I O (n:Int)) (by rw[<-HK.2];rfl);go_simp) aa ?_;refine xX 7 8 (fun K hK=>?c1) (fun K hK=>?c2)
 case' c1 =>
  simp only[bp,fB];go_simp;refine(aa.ra.bY.only _ _).mono ?_;rintro r w8⟨rfl,b8⟩;generalize pB (gz δ (n:Int))=xb at *;generalize pA (gz δ (n:Int))=xa at *;have h8:=aa.call HG.out b8;have h9:∀o,ji C g cap ns e ge d w k6 k8 kn F (w8.alloc o):=fun o=>aa.call HG.out (b8.alloc b8.size o)
  have hv:=heap_alloc_new w8 (L #[I O xa,I O xb] 191);clear b8;go_wp2_with fail;refine hK.out _ _ h8 (fun _=>?_);clear hK K;refine bD 8 fun K hK=>?_
  simp only[bp];go_simp;refine hK.out _ _ (h9 _) (fun _=>?_);clear hK K;refine bD 9 fun K hK=>?_
  simp only[bp];go_simp;refine hK.out _ _ (h9 _) (fun _=>?_);clear hK K;refine wpAnyH_done (by kernel_rfl) ?_ _;replace h9:=h9 (L #[I O xa,I O xb] 191);generalize w8.alloc (L #[I O xa,I O xb] 191)=X at *;generalize w8.heap.size=kv at *
 case' c2 =>
  simp only[bp,fB];go_simp;obtain⟨h8,hL⟩:=aa.late HG.out (I O 0) (I O 0) 191;have HL:=hid hL;clear hL;generalize V.alloc (L #[I O 0,I O 0] 191)=V1 at *;generalize V.heap.size=kv at *;refine hK.out _ _ h8 (fun _=>?_);clear hK K;refine bD 7 fun K hK=>?_
  simp only[bp];go_simp;refine(aa.ra.bY.only _ _).mono ?_;rintro r w8⟨rfl,b8⟩;generalize pB (gz δ (n:Int))=xb at *;generalize pA (gz δ (n:Int))=xa at *;obtain⟨NP,yR,hf⟩:=HL.out w8 b8;obtain⟨h9,hv⟩:=hf (I O xa) (I O xb);obtain⟨q0,q1,yJ,yH,_⟩:=aR yR;clear b8 hf yR;go_wp2_with fail;refine hK.out _ _ NP (fun _=>?_);clear hK K;refine bD 9 fun K hK=>?_
  simp only[bp];go_simp;refine hK.out _ _ h9 (fun _=>?_);clear hK K;refine wpAnyH_done (by kernel_rfl) ?_ _;generalize (w8.setCell ⟨kv,0,M⟩ (I O xa)).setCell ⟨kv,1,M⟩ (I O xb)=X at *
 all_goals
  have v0:=cell_of hv 0 (v:=I O xa) rfl;have v1:=cell_of hv 1 (v:=I O xb) rfl;obtain⟨m0,m1,nL,nK,mq⟩:=aR h9.res;have MQ:=hid (mq (I O xa) (I O xb));have HT:=hid (h9.ret (I O xa) (I O xb));clear h9 hv mq h8 aa;go_wp2_with fail;exact bodyPost_ret (v:=φ #[J #[I O xa,I O xb],U true]) (by simp[results,results105,go_sem,MQ.1,MQ.2]) rfl ⟨xa,xb,true,rfl,by rw[HE.1];exact HT.1,HT.2,HE.2⟩
end
end RG
end
section
namespace RG
open Go.RowKit W
variable {δ : Bool}
section
variable{F:jr}
variable{g cap vn vc k:Nat}
variable{ns:List aH}
variable{w W W':Wd}
theorem eZ(w:Wd):Calls prog 75 #[] w fun r w'=>r=υ (J #[U true,Z M 0 0])/\ω w w':=by go_enter func75,ntmps75;go_wp2_with fail;go_returns;exact⟨rfl,by go_grown⟩
theorem kC(k:Nat)(hk:k<6)(w:Wd):Calls prog 148 #[χ ⟨(aL k).toArray⟩] w fun r w'=>r=υ (χ ⟨(aL (xE k)).toArray⟩)/\w'=w:=by
 rcases(show k=0∨k=1∨k=2∨k=3∨k=4∨k=5 from by omega) with rfl | rfl | rfl | rfl | rfl | rfl
 all_goals
  simp only[aL,xE];go_enter func148,ntmps148;go_wp2_with fail;go_ret;exact⟨rfl,rfl⟩
theorem AK(k:Nat)(hk:k<6)(w:Wd):Calls prog 191 #[χ ⟨(aL k).toArray⟩] w fun r w'=>r=υ (χ ⟨(aL (dO k)).toArray⟩)/\w'=w:=by
 rcases(show k=0∨k=1∨k=2∨k=3∨k=4∨k=5 from by omega) with rfl | rfl | rfl | rfl | rfl | rfl
 all_goals
  simp only[aL,dO];go_enter func191,ntmps191;go_wp2_with fail;go_ret;exact⟨rfl,rfl⟩
structure Lc(C:Rc δ)(F:jr)(g cap:Nat)(ns:List aH)(w:Wd)(k7 k9 uz jF:Nat)(n:Bool)(va:Option Addr)(vn vc:Nat)(x y:T)(W:Wd):Prop where
 ra:bK C F W
 look:db C.pb g cap ns W
 s:W.heap[k7]?=Y (L #[U n,Z va vn vc] 121)
 x:W.heap[k9]?=Y (L #[I O (pA x),I O (pB x)] 191)
 y:W.heap[uz]?=Y (L #[I O (pA y),I O (pB y)] 191)
 r:W.heap[jF]?=Y (L #[U false,Z M 0 0] 121)
 b:ω w W
 l:w.heap.size<=jF
theorem Lc.call{C:Rc δ}{k7 k9 uz jF:Nat}{n:Bool}{va:Option Addr}{x y:T}(h:Lc C F g cap ns w k7 k9 uz jF n va vn vc x y W)(k:ω W W'):Lc C F g cap ns w k7 k9 uz jF n va vn vc x y W' :=
 ⟨h.ra.call k,h.look.after k,(k.block _ (ad h.s)).trans h.s,(k.block _ (ad h.x)).trans h.x,(k.block _ (ad h.y)).trans h.y,(k.block _ (ad h.r)).trans h.r,h.b.trans (k.mono h.b.size),h.l⟩
def lW(w:Wd)(n:Bool)(va:Option Addr)(vn vc:Nat)(x y:T):Wd:=(((w.alloc (L #[U n,Z va vn vc] 121)).alloc (L #[I O (pA x),I O (pB x)] 191)).alloc (L #[I O (pA y),I O (pB y)] 191)).alloc (L #[U false,Z M 0 0] 121)
theorem CK{C:Rc δ}{w:Wd}(n:Bool)(va:Option Addr)(vn vc:Nat)(x y:T)(hR:bK C F w)(hL:db C.pb g cap ns w):Lc C F g cap ns w w.heap.size (w.heap.size+1) (w.heap.size+1+1) (w.heap.size+1+1+1) n va vn vc x y (lW w n va vn vc x y):=by obtain⟨h1,h2,h3,h4,kb⟩:=bB (w:=w) (o1:=L #[U n,Z va vn vc] 121) (o2:=L #[I O (pA x),I O (pB x)] 191) (o3:=L #[I O (pA y),I O (pB y)] 191) (o4:=L #[U false,Z M 0 0] 121) (Below.refl _ _);exact⟨hR.call kb,hL.after kb,h1,h2,h3,h4,kb,by omega⟩
theorem vY{C:Rc δ}{d:aH}(hd:ns[k]?=Y d)(n:Bool)(va:Option Addr)(vn vc:Nat)(x y:T)(r:Nat)(hR:bK C F w)(hL:db C.pb g cap ns w)(hr:r<6)(h:n=true∨d.kind≠2∨δ=false/\r≠2) :
  Calls prog 190 #[ρ (Y ⟨C.b,0,M⟩),J #[U n,Z va vn vc],I O (k:Nat),J #[I O (pA x),I O (pB x)],χ ⟨(aL r).toArray⟩,J #[I O (pA y),I O (pB y)]] w fun r w'=>r=υ (J #[U n,Z va vn vc])/\ω w w':=by
 have HH:=hid h;clear h;have HW:=CK n va vn vc x y hR hL;obtain⟨W,hW⟩:∃W,lW w n va vn vc x y=W:=⟨_,rfl⟩;rw[hW]at HW;unfold lW at hW;have H:=hid HW;have HD:Hid (ns[k]?=Y d):=hd;obtain⟨sg,oy⟩:∃sg,Hid (sg=aL r):=⟨_,rfl⟩;rw[<-oy.out];have HR:=hid hr;clear hR hL hd HW hr;go_enter func190,ntmps190;go_upto_region 1 with fail;try rw[hW]
 obtain⟨k7,e7⟩:∃k,k=w.heap.size:=⟨_,rfl⟩;obtain⟨k9,e9⟩:∃k,k=w.heap.size+1:=⟨_,rfl⟩;obtain⟨uz,e11⟩:∃k,k=w.heap.size+1+1:=⟨_,rfl⟩;obtain⟨jF,e12⟩:∃k,k=w.heap.size+1+1+1:=⟨_,rfl⟩;rw[<-e12,<-e11,<-e9,<-e7];rw[<-e12,<-e11,<-e9,<-e7]at H;clear hW e7 e9 e11 e12;have m0:=cell_of H.ra.aT 0 (v:=ρ (Y ⟨C.pb,0,M⟩)) rfl;have c0:=H.look.slice;obtain⟨cR,r0,r1,r2,r3,r4,r5,r6,r7,r8,r9⟩:=H.look.facts HD.out;have h1:=H.look.ow;have h2:=H.look.hmax;have h3:=H.look.hn;go_upto_region 2 with fail;have h9:=H.call (below_alloc1 W (L (nX d) 176))
 have hn:=heap_alloc_new W (L (nX d) 176);unfold nX at h9 hn;generalize W.alloc (L #[I O d.kind,I O d.a,I O d.b,I O d.c,I O d.n,I O d.next,χ ⟨d.sign.toArray⟩,I O d.site,I O d.ay,U d.els] 176)=X at *;generalize W.heap.size=kn at *;have n0:=cell_of hn 0 (v:=I O d.kind) rfl;have s0:=cell_of h9.s 0 (v:=U n) rfl;have s1:=cell_of h9.s 1 (v:=Z va vn vc) rfl;have H9:=hid h9;obtain⟨y0,y1,Gu,Gf,mq⟩:=aR h9.r;have MQ:=hid (mq (U n) (Z va vn vc));have HB:Hid (ω w _):=(h9.b.setCell (p:=⟨jF,0,M⟩) h9.l (U n)).setCell (p:=⟨jF,1,M⟩) h9.l (Z va vn vc);clear H m0 c0 r0 r1 r2 r3 r4 r5 r6 r7 r8 r9 h1 h2 h3 cR h9 mq hn HD;cases n with
 | true =>go_wp2_with fail;exact bodyPost_ret (v:=J #[U true,Z va vn vc]) (by simp[results,results190,go_sem,MQ.1,MQ.2]) rfl ⟨rfl,HB.out⟩
 | false =>
  by_cases gD:d.kind=2
  ·obtain⟨hδ,od⟩:δ=false/\r≠2:=by simpa [gD] using HH.out
   rw[gD]at n0;have dF:(sg == [61,61])=false:=by
    rw[oy.out]
    rcases(show r=0∨r=1∨r=3∨r=4∨r=5 from by have:=HR.out;omega) with rfl | rfl | rfl | rfl | rfl<;>rfl
   have u0:=cell_of H9.y 0 (v:=I O (pA y)) rfl;have u1:=cell_of H9.y 1 (v:=I O (pB y)) rfl;have gB:=H9.call (below_alloc1 X (L #[I O (pA y),I O (pB y)] 191));clear HH gD y0 y1 Gu Gf s1 HB MQ;go_upto_region 5 with fail;generalize X.alloc (L #[I O (pA y),I O (pB y)] 191)=κ at *
   have m1:=gB.ra.cells.1;rw[show dn δ=1 by rw[hδ];rfl]at m1;have s0:=cell_of gB.s 0 (v:=U false) rfl;have s1:=cell_of gB.s 1 (v:=Z va vn vc) rfl;obtain⟨y0,y1,Gu,Gf,mq⟩:=aR gB.r;have MQ:=hid (mq (U false) (Z va vn vc));have HB:Hid (ω w _):=(gB.b.setCell (p:=⟨jF,0,M⟩) gB.l (U false)).setCell (p:=⟨jF,1,M⟩) gB.l (Z va vn vc);clear gB hδ od u0 u1 mq n0;generalize X.heap.size=kb at *;go_wp2_with fail;exact bodyPost_ret (v:=J #[U false,Z va vn vc]) (by simp[results,results190,go_sem,MQ.1,MQ.2]) rfl ⟨rfl,HB.out⟩
  ·generalize d.kind=q at *
   clear HH;go_wp2_with fail;exact bodyPost_ret (v:=J #[U false,Z va vn vc]) (by simp[results,results190,go_sem,MQ.1,MQ.2]) rfl ⟨rfl,HB.out⟩
end
end RG
end
end Go.Proofs.YtiopfihjmkfdmaaGreatDoor
