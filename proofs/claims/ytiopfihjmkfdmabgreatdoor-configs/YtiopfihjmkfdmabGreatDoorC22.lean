import Derived.Test.YtiopfihjmkfdmabGreatDoorC19
import Derived.Laws.Alloc2
import Derived.Laws.IdiomCopy
import Derived.Laws.MakeOwn
namespace Go.Proofs.YtiopfihjmkfdmabGreatDoor
open Option renaming some->Y,none->M
open Go.Value renaming int->I,agg->J,bool->U,tuple->φ,string->χ,slice->Z,pointer->ρ
open Go.IntKind renaming i64->O
open Go.Ending renaming returned->υ
open Go.Obj renaming cells->L
open Go.Proofs.Tryz Sp
set_option maxRecDepth 100000
set_option maxHeartbeats 16000000
section
namespace RG
open Go.RowKit W
variable {E: Bool}
def dn(E:Bool):Int:=bif E then 0 else 1
theorem JV(E:Bool):(E=true/\dn E=0/\∀a b:Nat,(bif E then a else b)=a)∨(E=false/\dn E=1/\∀a b:Nat,(bif E then a else b)=b):=by
 cases E
 .exact .inr ⟨rfl,rfl,λ_ _=>rfl⟩
 .exact .inl ⟨rfl,rfl,λ_ _=>rfl⟩
abbrev T:=Sp.Iv
def pA(x:T):Int:=x.a
def pB(x:T):Int:=x.b
theorem Yz{x y:T}(h:pA x=pA y)(k:pB x=pB y):x=y:=si h k
def SS(E:Bool)(a b:Int)(ok:Bool):Option T->Prop
 |some x=>a=pA x/\b=pB x/\ok=true/\Wv E x
 |none=>ok=false
def ÿ(E:Bool)(r:Nat)(x y:T):T:=bif E then kH r x y else y
def ly(E:Bool)(x y:T):Option T:=bif E then dB x y else(bu (mz x) (mz y)).map vR
def TH(E:Bool)(x y:T):T:=bif E then⟨max x.a y.a,min x.b y.b⟩ else((bu (mz x) (mz y)).map vR).getD ⟨0,0⟩
theorem O6{x y:T}(h:(ly E x y).isSome=true):ly E x y=Y (TH E x y):=by
 cases E
 .unfold ly TH at*
  simp only[cond_false]at h⊢;cases q:(bu (mz x) (mz y)).map vR with
  |none=>rw[q]at h;cases h
  |some v=>rfl
 .unfold ly TH dB at*
  simp only[cond_true]at h⊢;split at h
  .rename_i q;rw[Á q]
  .cases h
structure RD(E:Bool):Prop where
 only:∀(n:Int) (w:Wd),Calls prog 92 #[I O (dn E),I O n] w λe w'=>e=υ (J #[I O (pA (iC E n)),I O (pB (iC E n))])/\ω w w'
 whole:∀w:Wd,Calls prog 60 #[I O (dn E)] w λe w'=>e=υ (J #[I O (pA (dV E)),I O (pB (dV E))])/\ω w w'
 has:∀{x:T} (_:Wv E x) (w:Wd),Calls prog 94 #[J #[I O (pA x),I O (pB x)],I O (dn E),I O 0] w λe w'=>e=υ (U (iR E x))/\ω w w'
 minus:∀{x:T} (_:Wv E x) (w:Wd),Calls prog 93 #[I O (dn E),J #[I O (pA x),I O (pB x)]] w λe w'=>e=υ (J #[I O (pA (kD E x)),I O (pB (kD E x))])/\ω w w'
 join:∀{x y:T} (_:Wv E x) (_:Wv E y) (w:Wd),Calls prog 99 #[I O (dn E),J #[I O (pA x),I O (pB x)],J #[I O (pA y),I O (pB y)]] w λe w'=>e=υ (J #[I O (pA (dM E x y)),I O (pB (dM E x y))])/\ω w w'
 work:∀(k:Nat) (_:k<5) {x y:T} (_:Wv E x) (_:Wv E y) (w:Wd),Calls prog (bif E then 95 else 96) #[J #[I O (pA x),I O (pB x)],χ ⟨(bB k).toArray⟩,J #[I O (pA y),I O (pB y)]] w λe w'=>∃a b ok,e=υ (φ #[J #[I O a,I O b],U ok])/\SS E a b ok (qj E k x y)/\ω w w'
 bound:E=true->∀(r:Nat) (_:r<6) {x y:T} (_:Wv E x) (_:Wv E y) (w:Wd),Calls prog 175 #[J #[I O (pA x),I O (pB x)],χ ⟨(aM r).toArray⟩,J #[I O (pA y),I O (pB y)]] w λe w'=>e=υ (J #[I O (pA (kH r x y)),I O (pB (kH r x y))])/\ω w w'
 apart:E=true->∀(r:Nat) (_:r<6) {x y:T} (_:Wv E x) (_:Wv E y) (w:Wd),Calls prog 140 #[J #[I O (pA x),I O (pB x)],χ ⟨(aM r).toArray⟩,J #[I O (pA y),I O (pB y)]] w λe w'=>e=υ (U (!nV E r x y))/\ω w w'
 meet:∀{x y:T} (_:Wv E x) (_:E=true∨Wv E y) (w:Wd),Calls prog 141 #[I O (dn E),J #[I O (pA x),I O (pB x)],J #[I O (pA y),I O (pB y)]] w λe w'=>e=υ (φ #[J #[I O (pA (TH E x y)),I O (pB (TH E x y))],U (ly E x y).isSome])/\ω w w'
end RG
end
section
namespace RG
open Go.RowKit W
variable {E: Bool}
def Lj(e:Fin 8->T):List Value:=(List.ofFn e).flatMap λx=>[I O (pA x),I O (pB x)]
def gi(e:Fin 8->T):Array Value:=(Lj e).toArray
theorem xB(e:Fin 8->T):(Lj e).length=16:=by unfold Lj;rw[ga (k:=2) (λ_=>rfl),List.length_ofFn]
theorem mi(e:Fin 8->T)(k:Nat)(hk:k<8):(gi e)[k*2]?=Y (I O (pA (e ⟨k,hk⟩)))/\(gi e)[k*2+1]?=Y (I O (pB (e ⟨k,hk⟩))):=by
 have h:(List.ofFn e)[k]?=Y (e ⟨k,hk⟩):=by rw[â,dif_pos hk]
 unfold gi Lj;rw[Ø,Ø];exact⟨by have:=iG (k:=2) (f:=λx:T=>[Value.int O (pA x),I O (pB x)]) (λ_=>rfl) (List.ofFn e) k _ 0 h À;simpa using this,by have:=iG (k:=2) (f:=λx:T=>[Value.int O (pA x),I O (pB x)]) (λ_=>rfl) (List.ofFn e) k _ 1 h À;simpa using this⟩
def qM(e:Fin 8->T)(k:Nat)(x:T):Fin 8->T:=λj=>if j.val=k then x else e j
theorem NM(e:Fin 8->T)(k:Nat)(hk:k<8)(x:T):((gi e).setIfInBounds (k*2) (I O (pA x))).setIfInBounds (k*2+1) (I O (pB x))=gi (qM e k x):=by
 have e1:List.ofFn (qM e k x)=(List.ofFn e).set k x:=by
  refine List.ext_getElem? λi=>?_
  rw[List.getElem?_set,â,â,List.length_ofFn];by_cases hi:i<8
  .rw[dif_pos hi,dif_pos hi]
   unfold qM;by_cases h:k=i
   .rw[Á h,Á hk,Á h.symm]
   .rw[Â h,Â (λh'=>h h'.symm)]
  .rw[dif_neg hi,dif_neg hi]
   rw[Â À]
 refine í λi=>?_
 have hR:(gi (qM e k x))[i]?=if k*2<=i/\i<k*2+2 then [Value.int O (pA x),I O (pB x)][i-k*2]? else(Lj e)[i]?:=by unfold gi Lj;rw[Ø,e1];exact qD (k:=2) (λ_=>rfl) (List.ofFn e) k x i (by rw[List.length_ofFn];exact hk)
 rw[hR,Array.getElem?_setIfInBounds,Array.getElem?_setIfInBounds];unfold gi;have hl:=xB e;simp only[Array.size_setIfInBounds,å,hl,Ø];by_cases h1:k*2+1=i
 .subst h1
  rw[Á rfl,Á À,Á À,show k*2+1-k*2=1 by omega];rfl
 .rw[Â h1]
  by_cases h2:k*2=i
  .subst h2
   rw[Á rfl,Á À,Á À,show k*2-k*2=0 by omega];rfl
  .rw[Â h2,Â À]
theorem OL:prog.underlying 54=Y (.slice 117):=Ã
theorem E9:(prog.info? 117).map (·.size)=Y 2:=Ã
def ö:Array Value:=#[I O 0,I O 0,I O 0,I O 0,I O 0,I O 0,I O 0,I O 0,I O 0,I O 0,I O 0,I O 0,I O 0,I O 0,I O 0,I O 0]
theorem Ia(w:Wd):(Instr.makeSlice 54 (I O 8) (I O 8)).run prog w=.ok (Z (Y ⟨w.heap.size,0,M⟩) 8 8) (w.alloc (L ö 117)):=Ã
theorem Vn(w:Wd)(S ν:Nat)(e:Fin 8->T)(zz:Array Value)(ty:TypeId)(hz:zz.size=16)(hZ:Bk w ν zz 117)(hS:Bk w S (gi e) 117) :
  (Builtin.copy_ #[54,54] ty #[Z (Y ⟨ν,0,M⟩) 8 8,Z (Y ⟨S,0,M⟩) 8 8]).run prog w=.ok (I O 8) (w.setCells ν 0 (Lj e)):=by
 have hl:=run_loadCells_list (P:=prog) w ⟨S,0,M⟩ (Lj e) (λj v hj=>by rw[show(⟨S,0,M⟩:Addr).add j=⟨S,j,M⟩ by unfold Addr.add;simp;intro h;exact h.symm];exact cell_of hS j (by unfold gi;rw[Ø];exact hj));have im:=run_storeCells_cells (P:=prog) ν 0 (Lj e) 0 w (λj hj=>by
  rw[xB]at hj;simp only[Nat.zero_add];rw[cell_of hZ j (Ü À)];rfl) (λj hj=>ay hZ _) (λv hv=>by
  unfold Lj at hv;obtain⟨x,_,hx⟩:=List.mem_flatMap.1 hv;simp at hx
  rcases hx with rfl|rfl<;>rfl)
 rw[xB]at hl;cases hq:prog.info? 117 with
 |none=>have:=E9;simp[hq]at this
 |some i=>
  have hi:i.size=2:=by have:=E9;simpa[hq] using this
  simp[Builtin.copy_,run_underlying OL,Builtin.lenOf,Builtin.firstCells,sizeOf,typeInfo,hq,hi,hl,im];rfl
end RG
end
section
namespace RG
open Go.RowKit W
variable {E: Bool}
def dL(w:Wd)(v:Value):Option (Fin 8->T)->Prop
 |none=>v=J #[U true,Z M 0 0]
 |some e=>∃g,v=J #[U false,Z (Y ⟨g,0,M⟩) 8 8]/\w.heap[g]?=Y (L (gi e) 117)
theorem dL.below{w w':Wd}{v:Value}{s:Option (Fin 8->T)}(h:dL w v s)(b:ω w w'):dL w' v s:=by
 cases s with
 |none=>exact h
 |some e=>obtain⟨g,h1,h2⟩:=h;exact⟨g,h1,(b.block _ (ah h2)).trans h2⟩
theorem Fq(e:Fin 8->T):(gi e).size=16:=by unfold gi;rw[å];exact xB e
theorem oJ(g:Nat)(e:Fin 8->T)(k:Nat)(hk:k<8)(x:T)(w:Wd)(h:Bk w g (gi e) 117) :
  Calls prog 59 #[J #[U false,Z (Y ⟨g,0,M⟩) 8 8],I O (k:Nat),J #[I O (pA x),I O (pB x)]] w λr w'=>∃v,r=υ v/\dL w' v (Y (qM e k x))/\ω w w':=by
 have hki:((k:Nat):Int)<8:=À;obtain⟨k0,k1,k2,kb⟩:=bQ (w:=w) (o1:=L #[U false,Z (Y ⟨g,0,M⟩) 8 8] 56) (o2:=L #[I O (pA x),I O (pB x)] 117) (o3:=L #[U false,Z M 0 0] 56) Å;have No:=Ia;obtain⟨zz,xi⟩:∃zz,zz=ö:=⟨_,rfl⟩;rw[<-xi]at No;have TC:zz.size=16:=by rw[xi];rfl
 clear xi;generalize oQ:pA x=xa at*;generalize X5:pB x=xb at*;have K0:=hid k0;have K1:=hid k1;have K2:=hid k2;have KB:=hid kb;clear k0 k1 k2 kb;have Q9:=hid oQ;have HXB:=hid X5;clear oQ X5;go_enter func59,ntmps59;go_upto_region 1 with fail;generalize ((w.alloc (L #[U false,Z (Y ⟨g,0,M⟩) 8 8] 56)).alloc (L #[I O xa,I O xb] 117)).alloc (L #[U false,Z M 0 0] 56)=W3 at*;obtain⟨k3,qZ⟩:∃k3,k3=w.heap.size:=⟨_,rfl⟩;obtain⟨k5,zN⟩:∃k5,k5=w.heap.size+1:=⟨_,rfl⟩;obtain⟨kr,hkr⟩:∃kr,kr=w.heap.size+1+1:=⟨_,rfl⟩;rw[<-hkr,<-zN,<-qZ];rw[<-qZ]at K0;rw[<-zN]at K1;rw[<-hkr]at K2;have l3:w.heap.size<=kr:=À;clear qZ zN hkr;have WA:=No W3;have hG3:W3.heap[g]?=_:=(KB.block _ (ah h)).trans h;have hZ4:=heap_alloc_new W3 (L zz 117);have hG4:(W3.alloc (L zz 117)).heap[g]?=_:=heap_alloc_old hG3;have hcp:=λty=>Vn (W3.alloc (L zz 117)) g W3.heap.size e zz ty TC hZ4 hG4
 have h5:=ar hZ4 (d:=gi e) (by rw[Fq,TC]);have e5:(gi e).toList=Lj e:=by unfold gi;rfl
 rw[e5]at h5;have B5:ω W3 ((W3.alloc (L zz 117)).setCells W3.heap.size 0 (Lj e)):=au È _ _ _ _ (below_alloc1 _ _);have K0':Hid (_=_):=(B5.block _ (ah K0.out)).trans K0.out;have K1':Hid (_=_):=(B5.block _ (ah K1.out)).trans K1.out;have K2':Hid (_=_):=(B5.block _ (ah K2.out)).trans K2.out;have QW:Hid (ω w _):=KB.trans (B5.mono KB.size);have H5:=hid h5;have s0:=cell_of K0.out 1 (v:=Z (Y ⟨g,0,M⟩) 8 8) rfl;have n3:k3≠W3.heap.size:=by have:=ah K0.out;omega
 have nr:kr≠W3.heap.size:=by have:=ah K2.out;omega
 have hl:w.heap.size<=W3.heap.size:=KB.size;have DE:(W3.alloc (L zz 117)).cell? ⟨k3,1,M⟩=_:=cell_of (heap_alloc_old K0.out) 1 (v:=Z (Y ⟨g,0,M⟩) 8 8) rfl;clear No hZ4 hG4 hG3 h5 e5 B5 K0 K1 K2 KB h;go_upto_region 2 with fail;generalize hW5:(W3.alloc (L zz 117)).setCells W3.heap.size 0 (Lj e)=W5 at*;generalize hW4:W3.alloc (L zz 117)=W4 at*;generalize W3.heap.size=kz at*;clear hW4 hW5 WA;obtain⟨va,vb⟩:=mi e k hk;have x0:=cell_of K1'.out 0 (v:=I O xa) rfl;have x1:=cell_of K1'.out 1 (v:=I O xb) rfl;have z0:=cell_of H5.out (k*2) va;have z1:=cell_of H5.out (k*2+1) vb;have f0:=ay H5.out (k*2);have f1:=ay H5.out (k*2+1);have hr6:((W5.setCell ⟨kz,k*2,M⟩ (I O xa)).setCell ⟨kz,k*2+1,M⟩ (I O xb)).heap[kr]?=Y (L #[U false,Z M 0 0] 56):=by rw[Æ _ _ _ _ nr,Æ _ _ _ _ nr];exact K2'.out
 obtain⟨m0,m1,jo,jH,mq⟩:=aI hr6;have MQ:=hid (mq (U false) (Z (Y ⟨kz,0,M⟩) 8 8));have DI:Hid (dL ((((W5.setCell ⟨kz,k*2,M⟩ (I O xa)).setCell ⟨kz,k*2+1,M⟩ (I O xb)).setCell ⟨kr,0,M⟩ (U false)).setCell ⟨kr,1,M⟩ (Z (Y ⟨kz,0,M⟩) 8 8)) (J #[U false,Z (Y ⟨kz,0,M⟩) 8 8]) (Y (qM e k x))):=by refine⟨kz,rfl,?_⟩;rw[Æ _ _ _ _ nr.symm,Æ _ _ _ _ nr.symm,ai (ai H5.out (k*2) (I O xa)) (k*2+1) (I O xb),<-Q9.out,<-HXB.out,NM e k hk x]
 have Xl:Hid (ω w ((((W5.setCell ⟨kz,k*2,M⟩ (I O xa)).setCell ⟨kz,k*2+1,M⟩ (I O xb)).setCell ⟨kr,0,M⟩ (U false)).setCell ⟨kr,1,M⟩ (Z (Y ⟨kz,0,M⟩) 8 8))):=
  (((QW.setCell (p:=⟨kz,k*2,M⟩) hl _).setCell (p:=⟨kz,k*2+1,M⟩) hl _).setCell (p:=⟨kr,0,M⟩) l3 _).setCell (p:=⟨kr,1,M⟩) l3 _
 clear mq hr6;go_wp2_with fail;exact Ç (v:=J #[U false,Z (Y ⟨kz,0,M⟩) 8 8]) (by simp[results,results59,go_sem,MQ.1,MQ.2]) rfl ⟨_,rfl,DI.out,Xl.out⟩
end RG
end
section
namespace RG
open Go.RowKit W
variable {E: Bool}
section
variable{w W W':Wd}
variable{b k4 k5 kr kz g1 g2:Nat}
theorem jO{p:Addr}{v:Value}(h:w.cell? p=Y v):p.block<w.heap.size:=by
 rcases æ p.block w.heap.size with k|k
 .exact k
 .simp[World.cell?,ã k]at h
def zT:T:=⟨0,0⟩
theorem OM:ö=gi λ_=>zT:=rfl
def xC(E:Bool):Option (Fin 8->T)->Option (Fin 8->T)->Option (Fin 8->T)
 |none,t=>t
 |some s,M=>Y s
 |some s,Y t=>Y λk=>dM E (s k) (t k)
theorem oH(G:aw E)(s t:Option (Fin 8->T)):xC E s t=Sp.jn (Dm G) s t:=by cases s<;>cases t<;>rfl
structure uT(E:Bool)(w:Wd)(b k4 k5 kr kz g1 g2:Nat)(s t f:Fin 8->T)(W:Wd):Prop where
 d:W.cell? ⟨b,1,M⟩=Y (I O (dn E))
 x:W.heap[k4]?=Y (L #[U false,Z (Y ⟨g1,0,M⟩) 8 8] 56)
 y:W.heap[k5]?=Y (L #[U false,Z (Y ⟨g2,0,M⟩) 8 8] 56)
 r:W.heap[kr]?=Y (L #[U false,Z M 0 0] 56)
 s:W.heap[g1]?=Y (L (gi s) 117)
 t:W.heap[g2]?=Y (L (gi t) 117)
 z:W.heap[kz]?=Y (L (gi f) 117)
 b:ω w W
theorem uT.call{s t f:Fin 8->T}(h:uT E w b k4 k5 kr kz g1 g2 s t f W)(k:ω W W'):uT E w b k4 k5 kr kz g1 g2 s t f W':=
 ⟨by rw[k.cell (p:=⟨b,1,M⟩) (jO h.d)];exact h.d,(k.block _ (ah h.x)).trans h.x,(k.block _ (ah h.y)).trans h.y,(k.block _ (ah h.r)).trans h.r,(k.block _ (ah h.s)).trans h.s,(k.block _ (ah h.t)).trans h.t,(k.block _ (ah h.z)).trans h.z,h.b.trans (k.mono h.b.size)⟩
theorem uT.put{s t f:Fin 8->T}(h:uT E w b k4 k5 kr kz g1 g2 s t f W)(nb:b≠kz)(n4:k4≠kz)(n5:k5≠kz)(nr:kr≠kz)(n1:g1≠kz)(n2:g2≠kz)(hl:w.heap.size<=kz)(k:Nat)(hk:k<8)(x:T) :
  uT E w b k4 k5 kr kz g1 g2 s t (qM f k x) ((W.setCell ⟨kz,k*2,M⟩ (I O (pA x))).setCell ⟨kz,k*2+1,M⟩ (I O (pB x))):=by
 have e:∀i,i≠kz->((W.setCell ⟨kz,k*2,M⟩ (I O (pA x))).setCell ⟨kz,k*2+1,M⟩ (I O (pB x))).heap[i]?=W.heap[i]?:=λi hi=>by rw[Æ _ _ _ _ hi,Æ _ _ _ _ hi]
 refine⟨?_,(e _ n4).trans h.x,(e _ n5).trans h.y,(e _ nr).trans h.r,(e _ n1).trans h.s,(e _ n2).trans h.t,?_,(h.b.setCell (p:=⟨kz,k*2,M⟩) hl _).setCell (p:=⟨kz,k*2+1,M⟩) hl _⟩
 .have hd:=h.d
  unfold World.cell? at hd⊢;simp only at hd⊢;rw[e b nb];exact hd
 .rw[ai (ai h.z (k*2) (I O (pA x))) (k*2+1) (I O (pB x)),NM f k hk x]
theorem Nx(s t f:Fin 8->T)(j:Nat)(hj:j<8)(hf:∀i:Fin 8,f i=if i.val<j then dM E (s i) (t i) else zT):∀i:Fin 8,qM f j (dM E (s ⟨j,hj⟩) (t ⟨j,hj⟩)) i=if i.val<j+1 then dM E (s i) (t i) else zT:=by
 intro i;unfold qM;by_cases h:i.val=j
 .rw[Á h,Á À]
  have:i=⟨j,hj⟩:=Fin.ext h;rw[this]
 .rw[Â h,hf i]
  by_cases h2:i.val<j
  .rw[Á h2,Á À]
  .rw[Â h2,Â À]
theorem join_some(b g1 g2:Nat)(s t:Fin 8->T)(w:Wd)(R:RD E)(hb:w.cell? ⟨b,1,M⟩=Y (I O (dn E)))(hs:∀k,Wv E (s k))(ht:∀k,Wv E (t k))(h1:Bk w g1 (gi s) 117)(h2:Bk w g2 (gi t) 117) :
  Calls prog 63 #[ρ (Y ⟨b,0,M⟩),J #[U false,Z (Y ⟨g1,0,M⟩) 8 8],J #[U false,Z (Y ⟨g2,0,M⟩) 8 8]] w λr w'=>∃v,r=υ v/\dL w' v (Y λk=>dM E (s k) (t k))/\ω w w':=by
 obtain⟨k0,k1,k2,kb⟩:=bQ (w:=w) (o1:=L #[U false,Z (Y ⟨g1,0,M⟩) 8 8] 56) (o2:=L #[U false,Z (Y ⟨g2,0,M⟩) 8 8] 56) (o3:=L #[U false,Z M 0 0] 56) Å;have No:=Ia;rw[OM]at No;obtain⟨z0,Kv⟩:∃z0:Fin 8->T,z0=λ_=>zT:=⟨_,rfl⟩
 rw[<-Kv]at No;have HZ0:Hid (∀i:Fin 8,z0 i=if i.val<0 then dM E (s i) (t i) else zT):=λi=>by rw[Kv,Â À]
 clear Kv;have K0:=hid k0;have K1:=hid k1;have K2:=hid k2;have KB:=hid kb;clear k0 k1 k2 kb;go_enter func63,ntmps63;go_upto_region 5 with fail;generalize ((w.alloc (L #[U false,Z (Y ⟨g1,0,M⟩) 8 8] 56)).alloc (L #[U false,Z (Y ⟨g2,0,M⟩) 8 8] 56)).alloc (L #[U false,Z M 0 0] 56)=W3 at*;obtain⟨k4,Tw⟩:∃k3,k3=w.heap.size:=⟨_,rfl⟩;obtain⟨k5,zN⟩:∃k5,k5=w.heap.size+1:=⟨_,rfl⟩;obtain⟨kr,hkr⟩:∃kr,kr=w.heap.size+1+1:=⟨_,rfl⟩;rw[<-hkr,<-zN,<-Tw];rw[<-Tw]at K0;rw[<-zN]at K1;rw[<-hkr]at K2;have l3:w.heap.size<=kr:=À;clear Tw zN hkr;have WA:=No W3;have kx:=below_alloc1 W3 (L (gi z0) 117);have H4:Hid (uT E w b k4 k5 kr W3.heap.size g1 g2 s t z0 (W3.alloc (L (gi z0) 117))):=by have B4:=KB.trans (kx.mono KB.size);exact⟨by rw[B4.cell (p:=⟨b,1,M⟩) (jO hb)];exact hb,heap_alloc_old K0.out,heap_alloc_old K1.out,heap_alloc_old K2.out,(B4.block _ (ah h1)).trans h1,(B4.block _ (ah h2)).trans h2,heap_alloc_new _ _,B4⟩
 have nb:b≠W3.heap.size:=by have h9:b<w.heap.size:=jO hb;have:=KB.size;omega
 have n4:k4≠W3.heap.size:=by have:=ah K0.out;omega
 have n5:k5≠W3.heap.size:=by have:=ah K1.out;omega
 have nr:kr≠W3.heap.size:=by have:=ah K2.out;omega
 have n1:g1≠W3.heap.size:=by have:=ah h1;have:=KB.size;omega
 have n2:g2≠W3.heap.size:=by have:=ah h2;have:=KB.size;omega
 have hl:w.heap.size<=W3.heap.size:=KB.size;clear No K0 K1 K2 KB kx hb h1 h2;go_upto_region 6 with fail;generalize W3.alloc (L (gi z0) 117)=W4 at*;generalize W3.heap.size=kz at*;clear WA;go_wp2_with fail
 go_loopw [8] (λv8 wr=>∃(j:Nat) (f:Fin 8->T),j<=8/\v8=I O j/\Hid (∀i:Fin 8,f i=if i.val<j then dM E (s i) (t i) else zT)/\Hid (uT E w b k4 k5 kr kz g1 g2 s t f wr)) (λv8 _=>8-(intOf v8).toNat)
 case atStart=>exact⟨0,z0,Ì,rfl,HZ0,H4⟩
 case round=>
  obtain⟨j,f,hj,rfl,hf,hq⟩:=hrel;clear H4 HZ0;by_cases lV:j<8
  .have wJ:((j:Nat):Int)<8:=À
   obtain⟨J2,HJ⟩:∃J2,Hid (J2=j*2):=⟨_,rfl⟩;obtain⟨sx,hsx⟩:∃sx,Hid (sx=s ⟨j,lV⟩):=⟨_,rfl⟩;obtain⟨tx,htx⟩:∃tx,Hid (tx=t ⟨j,lV⟩):=⟨_,rfl⟩;have xR:Hid (∀W,(∃f,uT E w b k4 k5 kr kz g1 g2 s t f W)->W.cell? ⟨g1,J2,M⟩=Y (I O (pA sx))/\W.cell? ⟨g1,J2+1,M⟩=Y (I O (pB sx))/\W.cell? ⟨g2,J2,M⟩=Y (I O (pA tx))/\W.cell? ⟨g2,J2+1,M⟩=Y (I O (pB tx))/\W.cell? ⟨k4,1,M⟩=Y (Z (Y ⟨g1,0,M⟩) 8 8)/\W.cell? ⟨k5,1,M⟩=Y (Z (Y ⟨g2,0,M⟩) 8 8)):=λW ⟨f',hW⟩=>by obtain⟨a1,a2⟩:=mi s j lV;obtain⟨a3,a4⟩:=mi t j lV;rw[HJ.out,hsx.out,htx.out];exact⟨cell_of hW.s _ a1,cell_of hW.s _ a2,cell_of hW.t _ a3,cell_of hW.t _ a4,cell_of hW.x 1 rfl,cell_of hW.y 1 rfl⟩
   have HCR:Hid (∀W:Wd,Calls prog 99 #[I O (dn E),J #[I O (pA sx),I O (pB sx)],J #[I O (pA tx),I O (pB tx)]] W λe w'=>e=υ (J #[I O (pA (dM E sx tx)),I O (pB (dM E sx tx))])/\ω W w'):=λW=>R.join (by rw[hsx.out];exact hs _) (by rw[htx.out];exact ht _) W
   have HN:Hid (∀i:Fin 8,qM f j (dM E sx tx) i=if i.val<j+1 then dM E (s i) (t i) else zT):=by unfold Hid;rw[hsx.out,htx.out];exact Nx s t f j lV hf.out
   have HP:Hid (∀W,uT E w b k4 k5 kr kz g1 g2 s t f W->uT E w b k4 k5 kr kz g1 g2 s t (qM f j (dM E sx tx)) ((W.setCell ⟨kz,J2,M⟩ (I O (pA (dM E sx tx)))).setCell ⟨kz,J2+1,M⟩ (I O (pB (dM E sx tx))))/\(W.cell? ⟨kz,J2,M⟩).isSome=true/\(W.cell? ⟨kz,J2+1,M⟩).isSome=true/\W.frozen? ⟨kz,J2,M⟩=false/\W.frozen? ⟨kz,J2+1,M⟩=false):=λW hW=>by rw[HJ.out];obtain⟨a1,a2⟩:=mi f j lV;exact⟨hW.put nb n4 n5 nr n1 n2 hl j lV (dM E sx tx),by rw[cell_of hW.z _ a1];rfl,by rw[cell_of hW.z _ a2];rfl,ay hW.z _,ay hW.z _⟩
   generalize dM E sx tx=jx at*;clear hsx htx;go_wp2_with fail;refine wp_region_held_drew (S:=λw':Wd=>∃f,uT E w b k4 k5 kr kz g1 g2 s t f w') Ã ⟨f,hq.call (Å).drew⟩ (λaa=>?_);have hJ:uT E w b k4 k5 kr kz g1 g2 s t f wr.drew:=hq.call (Å).drew;generalize wr.drew=V at*;refine tq 0 (Z (Y ⟨kz,0,M⟩) 8 8) aa ?_;refine tq 1 (I O (j:Nat)) aa ?_;refine tq 2 (ρ (Y ⟨b,0,M⟩)) aa ?_;refine tq 3 (ρ (Y ⟨b,0,M⟩)) aa ?_;refine tq 4 (ρ (Y ⟨b,1,M⟩)) aa ?_;refine tq 5 (ρ (Y ⟨b,1,M⟩)) aa ?_;refine tk 6 (I O (dn E)) rfl (λw' h=>by obtain⟨_,h⟩:=h;have q:=h.d;go_simp) aa ?_;refine tq 7 (ρ (Y ⟨k4,1,M⟩)) aa ?_;refine tk 8 (Z (Y ⟨g1,0,M⟩) 8 8) rfl (λw' h=>by have q:=(xR.out _ h).2.2.2.2.1;go_simp) aa ?_;refine tq 9 (I O (j:Nat)) aa ?_;refine tk 10 (ρ (Y ⟨g1,J2,M⟩)) rfl (λw' h=>by rw[HJ.out];go_simp) aa ?_;refine tk 11 (J #[I O (pA sx),I O (pB sx)]) rfl (λw' h=>by have q:=(xR.out _ h).1;have q2:=(xR.out _ h).2.1;go_simp) aa ?_;refine tq 12 (ρ (Y ⟨k5,1,M⟩)) aa ?_;refine tk 13 (Z (Y ⟨g2,0,M⟩) 8 8) rfl (λw' h=>by have q:=(xR.out _ h).2.2.2.2.2;go_simp) aa ?_;refine tq 14 (I O (j:Nat)) aa ?_;refine tk 15 (ρ (Y ⟨g2,J2,M⟩)) rfl (λw' h=>by rw[HJ.out];go_simp) aa ?_;refine tk 16 (J #[I O (pA tx),I O (pB tx)]) rfl (λw' h=>by have q:=(xR.out _ h).2.2.1;have q2:=(xR.out _ h).2.2.2.1;go_simp) aa ?_;refine bP 17 λK hK=>?_
   simp only[bG,gd];go_simp;refine(HCR.out _).mono ?_;rintro e w8⟨rfl,b8⟩;replace hJ:=hJ.call b8;go_wp2_with fail;refine hK.out _ _ ⟨f,hJ⟩ (λ_=>?_);clear hK K b8;refine tk 18 (ρ (Y ⟨kz,J2,M⟩)) rfl (λw' h=>by rw[HJ.out];go_simp) ⟨f,hJ⟩ ?_;obtain⟨p1,p2,p3,p4,p5⟩:=HP.out _ hJ;obtain⟨u1,Np⟩:=Option.isSome_iff_exists.1 p2;obtain⟨u2,Q6⟩:=Option.isSome_iff_exists.1 p3;have HP1:=hid p1;clear p1 p2 p3;refine bP 19 λK hK=>?_
   simp only[bG];go_simp;refine hK.out _ _ ⟨_,HP1.out⟩ (λ_=>?_);clear hK K;refine wpAnyH_done Ã ?_ _;go_wp2_with fail;exact⟨⟨j+1,qM f j jx,À,by go_num,HN,HP1⟩,by simp[intOf];omega⟩
  .obtain rfl:j=8:=À
   have h0:=hq.out;obtain⟨m0,m1,jo,jH,mq⟩:=aI h0.r;have MQ:=hid (mq (U false) (Z (Y ⟨kz,0,M⟩) 8 8));have DI:Hid (dL ((wr.setCell ⟨kr,0,M⟩ (U false)).setCell ⟨kr,1,M⟩ (Z (Y ⟨kz,0,M⟩) 8 8)) (J #[U false,Z (Y ⟨kz,0,M⟩) 8 8]) (Y λk=>dM E (s k) (t k))):=by
    refine⟨kz,rfl,?_⟩;rw[Æ _ _ _ _ nr.symm,Æ _ _ _ _ nr.symm,h0.z];have:f=λk=>dM E (s k) (t k):=funext λi=>by rw[hf.out i,Á i.isLt]
    rw[this]
   have Xl:Hid (ω w ((wr.setCell ⟨kr,0,M⟩ (U false)).setCell ⟨kr,1,M⟩ (Z (Y ⟨kz,0,M⟩) 8 8))):=(h0.b.setCell (p:=⟨kr,0,M⟩) l3 _).setCell (p:=⟨kr,1,M⟩) l3 _;clear mq h0 hq;go_wp2_with fail;exact Ç (v:=J #[U false,Z (Y ⟨kz,0,M⟩) 8 8]) (by simp[results,results63,go_sem,MQ.1,MQ.2]) rfl ⟨_,rfl,DI.out,Xl.out⟩
end
end RG
end
section
namespace RG
open Go.RowKit W
variable {E: Bool}
section
variable{v vs vt:Value}
theorem dL.form{w:Wd}{s:Option (Fin 8->T)}(h:dL w v s):∃a n c,v=J #[U s.isNone,Z a n c]:=by
 cases s with
 |none=>exact⟨_,_,_,h⟩
 |some e=>obtain⟨g,h1,_⟩:=h;exact⟨_,_,_,h1⟩
theorem Vv(b:Nat)(va:Option Addr)(vn vc:Nat)(n:Bool)(w:Wd) :
  Calls prog 63 #[ρ (Y ⟨b,0,M⟩),J #[U true,Z M 0 0],J #[U n,Z va vn vc]] w λr w'=>r=υ (J #[U n,Z va vn vc])/\ω w w':=by
 go_enter func63,ntmps63;go_wp2_with fail;go_returns;exact⟨rfl,by go_grown⟩
theorem VN(b:Nat)(va:Option Addr)(vn vc:Nat)(w:Wd) :
  Calls prog 63 #[ρ (Y ⟨b,0,M⟩),J #[U false,Z va vn vc],J #[U true,Z M 0 0]] w λr w'=>r=υ (J #[U false,Z va vn vc])/\ω w w':=by
 go_enter func63,ntmps63;go_wp2_with fail;go_returns;exact⟨rfl,by go_grown⟩
def eR(E:Bool)(s:Option (Fin 8->T)):Prop:=∀e,s=Y e->∀k,Wv E (e k)
theorem yG(b:Nat){s t:Option (Fin 8->T)}(w:Wd)(R:RD E)(hb:w.cell? ⟨b,1,M⟩=Y (I O (dn E)))(hs:dL w vs s)(ht:dL w vt t)(ws:eR E s)(wt:eR E t) :
  Calls prog 63 #[ρ (Y ⟨b,0,M⟩),vs,vt] w λr w'=>∃v,r=υ v/\dL w' v (xC E s t)/\ω w w':=by
 cases s with
 |none=>have e:vs=J #[U true,Z M 0 0]:=hs;subst e;obtain⟨a,n,c,rfl⟩:=ht.form;exact(Vv b a n c _ w).mono λr w' ⟨h1,h2⟩=>⟨_,h1,ht.below h2,h2⟩
 |some s=>
  cases t with
  |none=>have e:vt=J #[U true,Z M 0 0]:=ht;subst e;obtain⟨g,rfl,h⟩:=hs;exact(VN b _ _ _ w).mono λr w' ⟨h1,h2⟩=>⟨_,h1,dL.below (s:=Y s) ⟨g,rfl,h⟩ h2,h2⟩
  |some t=>obtain⟨g1,rfl,h1⟩:=hs;obtain⟨g2,rfl,h2⟩:=ht;exact join_some b g1 g2 s t w R hb (ws s rfl) (wt t rfl) h1 h2
def Sq(s t:Option (Fin 8->T)):Bool:=match s,t with
 |none,M=>true
 |some s,Y t=>decide (∀k,s k=t k)
 |_,_=>false
theorem ĕ(a b c d:Int)(w:Wd):(Op.equalIn 10000 117 (J #[I O a,I O b]) (J #[I O c,I O d])).run prog w=.ok (decide (a=c/\b=d)) w:=by
 by_cases h1:a=c
 .by_cases h2:b=d
  .simp[go_sem,h1,h2]
  .simp[go_sem,h1,h2]
 .simp[go_sem,h1]
theorem AQ(n m:Bool)(va:Option Addr)(vn vc:Nat)(ua:Option Addr)(un uc:Nat)(w:Wd)(h:n=true∨m=true) :
  Calls prog 100 #[J #[U n,Z va vn vc],J #[U m,Z ua un uc]] w λr w'=>r=υ (U (n==m))/\ω w w':=by
 cases n<;>cases m
 .simp at h
 all_goals
  go_enter func100,ntmps100;go_wp2_with fail;go_returns;exact⟨rfl,by go_grown⟩
theorem KJ(g1 g2:Nat)(s t:Fin 8->T)(w:Wd)(h1:Bk w g1 (gi s) 117)(h2:Bk w g2 (gi t) 117) :
  Calls prog 100 #[J #[U false,Z (Y ⟨g1,0,M⟩) 8 8],J #[U false,Z (Y ⟨g2,0,M⟩) 8 8]] w λr w'=>r=υ (U (decide (∀k,s k=t k)))/\ω w w':=by
 obtain⟨k0,k1,kb⟩:=ft (w:=w) (o1:=L #[U false,Z (Y ⟨g1,0,M⟩) 8 8] 56) (o2:=L #[U false,Z (Y ⟨g2,0,M⟩) 8 8] 56) Å;have HS:Hid (_=_):=(kb.block _ (ah h1)).trans h1;have HT:Hid (_=_):=(kb.block _ (ah h2)).trans h2;have s0:=cell_of k0 1 (v:=Z (Y ⟨g1,0,M⟩) 8 8) rfl;have s1:=cell_of k1 1 (v:=Z (Y ⟨g2,0,M⟩) 8 8) rfl;have KB:=hid kb;clear k0 k1 kb h1 h2;go_enter func100,ntmps100;go_upto_region 3 with fail;generalize (w.alloc (L #[U false,Z (Y ⟨g1,0,M⟩) 8 8] 56)).alloc (L #[U false,Z (Y ⟨g2,0,M⟩) 8 8] 56)=W at*;obtain⟨k4,Tw⟩:∃k3,k3=w.heap.size:=⟨_,rfl⟩;obtain⟨k5,zN⟩:∃k5,k5=w.heap.size+1:=⟨_,rfl⟩;rw[<-zN,<-Tw];rw[<-Tw]at s0;rw[<-zN]at s1;clear Tw zN;go_wp2_with fail
 go_loopw [5] (λv5 wr=>∃(j m:Nat),j<=8/\v5=I O j/\wr=W.drewN m/\Hid (∀i:Fin 8,i.val<j->s i=t i)) (λv5 _=>8-(intOf v5).toNat)
 case atStart=>exact⟨0,0,Ì,rfl,rfl,λi h=>absurd h (Nat.not_lt_zero _)⟩
 case round=>
  obtain⟨j,m,hj,rfl,rfl,hf⟩:=hrel;by_cases lV:j<8
  .have wJ:((j:Nat):Int)<8:=À
   obtain⟨a1,a2⟩:=mi s j lV;obtain⟨a3,a4⟩:=mi t j lV;have c1:=cell_of HS.out _ a1;have c2:=cell_of HS.out _ a2;have c3:=cell_of HT.out _ a3;have c4:=cell_of HT.out _ a4;clear a1 a2 a3 a4;by_cases he:s ⟨j,lV⟩=t ⟨j,lV⟩
   .have HN:Hid (∀i:Fin 8,i.val<j+1->s i=t i):=λi hi=>by
     by_cases h:i.val=j
     .have:i=⟨j,lV⟩:=Fin.ext h
      rw[this];exact he
     .exact hf.out i À
    rw[<-he]at c3 c4;generalize pA (s ⟨j,lV⟩)=xa at*;generalize pB (s ⟨j,lV⟩)=xb at*;have eE:∀w,(Op.equalIn 10000 117 (J #[I O xa,I O xb]) (J #[I O xa,I O xb])).run prog w=.ok true w:=λw=>by rw[ĕ,decide_eq_true ⟨rfl,rfl⟩]
    clear he;go_wp2_with fail;go_quiet (fail);go_wp2_with fail;exact⟨⟨j+1,_,À,by go_num,rfl,HN⟩,by simp[intOf];omega⟩
   .have δ:Hid (decide (∀k,s k=t k)=false):=decide_eq_false λh=>he (h _)
    have db:¬(pA (s ⟨j,lV⟩)=pA (t ⟨j,lV⟩)/\pB (s ⟨j,lV⟩)=pB (t ⟨j,lV⟩)):=λh=>he (Yz h.1 h.2)
    generalize pA (s ⟨j,lV⟩)=xa at*;generalize pB (s ⟨j,lV⟩)=xb at*;generalize pA (t ⟨j,lV⟩)=ya at*;generalize pB (t ⟨j,lV⟩)=yb at*;have eE:∀w,(Op.equalIn 10000 117 (J #[I O xa,I O xb]) (J #[I O ya,I O yb])).run prog w=.ok false w:=λw=>by rw[ĕ,decide_eq_false db]
    clear he db;go_wp2_with fail;go_quiet (fail);go_wp2_with fail;go_ret;exact⟨by rw[δ.out];rfl,⟨KB.os,KB.tape,KB.output,KB.size,KB.block⟩⟩
  .obtain rfl:j=8:=À
   have δ:Hid (decide (∀k,s k=t k)=true):=decide_eq_true λk=>hf.out k k.isLt
   go_wp2_with fail;go_ret;exact⟨by rw[δ.out];rfl,⟨KB.os,KB.tape,KB.output,KB.size,KB.block⟩⟩
theorem rS{s t:Option (Fin 8->T)}(w:Wd)(hs:dL w vs s)(ht:dL w vt t) :
  Calls prog 100 #[vs,vt] w λr w'=>r=υ (U (Sq s t))/\ω w w':=by
 cases s with
 |none=>
  have e:vs=J #[U true,Z M 0 0]:=hs;subst e;obtain⟨a,n,c,rfl⟩:=ht.form;refine(AQ true _ _ _ _ a n c w (.inl rfl)).mono λr w' ⟨h1,h2⟩=>⟨?_,h2⟩
  rw[h1];cases t<;>rfl
 |some s=>
  cases t with
  |none=>have e:vt=J #[U true,Z M 0 0]:=ht;subst e;obtain⟨g,rfl,h⟩:=hs;exact(AQ false true _ _ _ _ _ _ w (.inr rfl)).mono λr w' ⟨h1,h2⟩=>⟨by rw[h1];rfl,h2⟩
  |some t=>obtain⟨g1,rfl,h1⟩:=hs;obtain⟨g2,rfl,h2⟩:=ht;exact KJ g1 g2 s t w h1 h2
theorem UP(G:aw E)(s t:Option (Fin 8->T)):Sq s t=IG (Dm G) s t:=by
 cases s with
 |none=>cases t<;>rfl
 |some s=>
  cases t with
  |none=>rfl
  |some t=>
   show decide (∀k,s k=t k)=@decide (∀k,s k=t k) _;by_cases h:∀k,s k=t k
   .rw[decide_eq_true h]
   .rw[decide_eq_false h]
end
end RG
end
section
namespace RG
open Go.RowKit W
variable {E: Bool}
section
variable{w1 w2 w3 w w':Wd}
abbrev di:=Fin 8->T
abbrev dT:=Option di
abbrev jg:=List dT×List Nat
structure Rc(E:Bool) where
 base:Nat
 b:Nat
 pb:Nat
 gf:Nat
 gs:Nat
 ao:Nat
 narrow:Nat
 aj:Nat
 th:Bool
 sv:Value
def Ė(C:Rc E)(n m:Nat):Array Value:=#[ρ (Y ⟨C.pb,0,M⟩),I O (dn E),I O (C.ao:Nat),I O (C.narrow:Nat),I O (C.aj:Nat),U C.th,C.sv,Z (Y ⟨C.gf,0,M⟩) n n,Z (Y ⟨C.gs,0,M⟩) m m]
structure bE(C:Rc E)(F:jg)(w:Wd):Prop where
 aV:w.heap[C.b]?=Y (L (Ė C F.1.length F.2.length) 112)
 gf:∃c,w.heap[C.gf]?=Y (L c 56)/\c.size=F.1.length*2
 gs:∃c,w.heap[C.gs]?=Y (L c 3)/\c.size=F.2.length
 f:∀p s,F.1[p]?=Y s->∃u v,w.cell? ⟨C.gf,p*2,M⟩=Y u/\w.cell? ⟨C.gf,p*2+1,M⟩=Y v/\dL w (J #[u,v]) s/\eR E s
 s:∀i k,F.2[i]?=Y k->w.cell? ⟨C.gs,i,M⟩=Y (I O ((k:Nat):Int))/\k<=2
 lb:C.base<=C.b
 lf:C.base<=C.gf
 ls:C.base<=C.gs
 Dw:F.1.length<=1000/\F.2.length<=1000
 ch:RD E
structure RK(C:Rc E)(w w':Wd):Prop where
 below:Below C.base w w'
 others:∀k,k<w.heap.size->k≠C.gf->k≠C.gs->w'.heap[k]?=w.heap[k]?
structure gw(C:Rc E)(l:List Int)(w:Wd):Prop where
 Wr:(l=[]/\C.sv=Value.slice M 0 0)∨∃(Gh cap:Nat) (c:Array Value),C.sv=Value.slice (Y ⟨Gh,0,M⟩) l.length cap/\w.heap[Gh]?=Y (L c 3)/\(∀(i:Nat) (n:Int),l[i]?=Y n->c[i]?=Y (I O n))/\Gh≠C.gf/\Gh≠C.gs/\l.length<=cap/\cap<=maxLen
 Dw:l.length<=2000
structure RW(C:Rc E):Prop where
 widened:∀(l:List Int) (F:jg) (g1 g2:Nat) (e f:di) (w:Wd),bE C F w->gw C l w->w.heap[g1]?=Y (L (gi e) 117)->w.heap[g2]?=Y (L (gi f) 117)->Calls prog 101 #[ρ (Y ⟨C.b,0,M⟩),J #[U false,Z (Y ⟨g1,0,M⟩) 8 8],J #[U false,Z (Y ⟨g2,0,M⟩) 8 8]] w λr w'=>∃v,r=υ v/\dL w' v (Y λk=>iB (⟨l⟩:aw E) (e k) (f k))/\ω w w'
 narrowed:∀(l:List Int) (F:jg) (g1 g2:Nat) (e f:di) (w:Wd),bE C F w->gw C l w->w.heap[g1]?=Y (L (gi e) 117)->w.heap[g2]?=Y (L (gi f) 117)->Calls prog 102 #[ρ (Y ⟨C.b,0,M⟩),J #[U false,Z (Y ⟨g1,0,M⟩) 8 8],J #[U false,Z (Y ⟨g2,0,M⟩) 8 8]] w λr w'=>∃v,r=υ v/\dL w' v (Y λk=>kC E (e k) (f k))/\ω w w'
theorem RK.refl(C:Rc E)(w:Wd):RK C w w:=⟨Å,λ_ _ _ _=>rfl⟩
theorem RK.trans{C:Rc E}(h:RK C w1 w2)(k:RK C w2 w3):RK C w1 w3:=
 ⟨h.below.trans k.below,λi hi h1 h2=>by rw[k.others i (Nat.lt_of_lt_of_le hi h.below.size) h1 h2,h.others i hi h1 h2]⟩
theorem RK.aF{C:Rc E}(h:ω w w')(hB:C.base<=w.heap.size):RK C w w':=⟨h.mono hB,λk hk _ _=>h.block k hk⟩
theorem bE.le{C:Rc E}{F:jg}(h:bE C F w):C.base<=w.heap.size:=Nat.le_trans h.lb (Nat.le_of_lt (ah h.aV))
theorem bE.apart{C:Rc E}{F:jg}(h:bE C F w){g:Nat}{c:Array Value}(hg:Bk w g c 117):g≠C.gf/\g≠C.gs:=by
 obtain⟨c1,h1,_⟩:=h.gf;obtain⟨c2,h2,_⟩:=h.gs;refine⟨λe=>?_,λe=>?_⟩
 .subst e;cases hg.symm.trans h1
 .subst e;cases hg.symm.trans h2
theorem bE.distinct{C:Rc E}{F:jg}(h:bE C F w):C.b≠C.gf/\C.b≠C.gs/\C.gf≠C.gs:=by
 obtain⟨c1,h1,_⟩:=h.gf;obtain⟨c2,h2,_⟩:=h.gs;have h0:=h.aV;refine⟨λe=>?_,λe=>?_,λe=>?_⟩
 .rw[e,h1]at h0;cases h0
 .rw[e,h2]at h0;cases h0
 .rw[e,h2]at h1;cases h1
theorem dL.bH{C:Rc E}{F:jg}{v:Value}{s:dT}(h:dL w v s)(ha:bE C F w)(k:RK C w w'):dL w' v s:=by
 cases s with
 |none=>exact h
 |some e=>obtain⟨g,h1,h2⟩:=h;obtain⟨n1,n2⟩:=ha.apart h2;exact⟨g,h1,(k.others g (ah h2) n1 n2).trans h2⟩
theorem bE.call{C:Rc E}{F:jg}(h:bE C F w)(b:ω w w'):bE C F w':=by
 obtain⟨c1,h1,l1⟩:=h.gf;obtain⟨c2,h2,l2⟩:=h.gs;refine⟨(b.block _ (ah h.aV)).trans h.aV,⟨c1,(b.block _ (ah h1)).trans h1,l1⟩,⟨c2,(b.block _ (ah h2)).trans h2,l2⟩,λp s hs=>?_,λi k hk=>?_,h.lb,h.lf,h.ls,h.Dw,h.ch⟩
 .obtain⟨u,v,e1,e2,e3,e4⟩:=h.f p s hs
  exact⟨u,v,by rw[b.cell (p:=⟨C.gf,p*2,M⟩) (jO e1)];exact e1,by rw[b.cell (p:=⟨C.gf,p*2+1,M⟩) (jO e2)];exact e2,e3.below b,e4⟩
 .obtain⟨e1,e2⟩:=h.s i k hk
  exact⟨by rw[b.cell (p:=⟨C.gs,i,M⟩) (jO e1)];exact e1,e2⟩
theorem cK{g i b o:Nat}{u:Value}(h:b≠g∨o≠i):(w.setCell ⟨g,i,M⟩ u).cell? ⟨b,o,M⟩=w.cell? ⟨b,o,M⟩:=by
 by_cases hb:b=g
 .have ho:o≠i:=by
   rcases h with h|h
   .exact absurd hb h
   .exact h
  subst hb;unfold World.cell? World.setCell;simp only[Array.getElem?_modify];cases hw:w.heap[b]? with
  |none=>simp
  |some ob=>cases ob<;>simp[ho.symm]
 .unfold World.cell?
  simp only;rw[Æ w ⟨g,i,M⟩ u b hb]
theorem bE.site{C:Rc E}{F:jg}(h:bE C F w){i k k':Nat}(hi:F.2[i]?=Y k)(hk:k'<=2):bE C (F.1,F.2.set i k') (w.setCell ⟨C.gs,i,M⟩ (I O ((k':Nat):Int)))/\RK C w (w.setCell ⟨C.gs,i,M⟩ (I O ((k':Nat):Int))):=by
 obtain⟨c1,h1,l1⟩:=h.gf;obtain⟨c2,h2,l2⟩:=h.gs;obtain⟨n1,n2,n3⟩:=h.distinct;have hl:=(Í.1 hi).1;have iO:∀j,j≠C.gs->(w.setCell ⟨C.gs,i,M⟩ (I O ((k':Nat):Int))).heap[j]?=w.heap[j]?:=λj hj=>Æ _ _ _ _ hj
 have hK:RK C w (w.setCell ⟨C.gs,i,M⟩ (I O ((k':Nat):Int))):=⟨(Å).setCell (p:=⟨C.gs,i,M⟩) h.ls _,λj _ _ hj=>iO j hj⟩;refine⟨⟨?_,⟨c1,(iO _ n3).trans h1,l1⟩,⟨_,ai h2 i _,by simp[l2]⟩,λp s hs=>?_,λj m hm=>?_,h.lb,h.lf,h.ls,⟨h.Dw.1,by simpa using h.Dw.2⟩,h.ch⟩,hK⟩
 .rw[iO _ n2,List.length_set];exact h.aV
 .obtain⟨u,v,e1,e2,e3,e4⟩:=h.f p s hs
  exact⟨u,v,by rw[cK (.inl n3)];exact e1,by rw[cK (.inl n3)];exact e2,e3.bH h hK,e4⟩
 .rw[List.getElem?_set]at hm
  by_cases e:i=j
  .subst e
   rw[Á rfl,Á hl]at hm;cases hm
   refine⟨?_,hk⟩;refine cell_of (ai h2 i _) i ?_;rw[Array.getElem?_setIfInBounds_self,Á (by rw[l2];exact hl)]
  .rw[Â e]at hm
   obtain⟨e1,e2⟩:=h.s j m hm;exact⟨by rw[cK (.inr (λh=>e h.symm))];exact e1,e2⟩
end
end RG
end
section
namespace RG
open Go.RowKit W
variable {E: Bool}
theorem bE.cells{C:Rc E}{F:jg}{w:Wd}(h:bE C F w):w.cell? ⟨C.b,1,M⟩=Y (I O (dn E))/\w.cell? ⟨C.b,7,M⟩=Y (Z (Y ⟨C.gf,0,M⟩) F.1.length F.1.length)/\w.cell? ⟨C.b,8,M⟩=Y (Z (Y ⟨C.gs,0,M⟩) F.2.length F.2.length):=
 ⟨cell_of h.aV 1 rfl,cell_of h.aV 7 rfl,cell_of h.aV 8 rfl⟩
theorem Md(b:Nat)(site:Int)(bad:Bool)(w:Wd) :
  Calls prog 62 #[ρ (Y ⟨b,0,M⟩),I O site,U bad,U false] w λr w'=>r=υ (φ #[])/\w'=w:=by
 go_enter func62,ntmps62;go_wp2_with fail;try simp only[Exit.inBlock,Exit.then]
 refine Ç (results_none rfl _ _ _) rfl ?_;exact⟨rfl,rfl⟩
theorem Mt(b:Nat)(site:Int)(bad:Bool)(w:Wd)(h:site<0) :
  Calls prog 62 #[ρ (Y ⟨b,0,M⟩),I O site,U bad,U true] w λr w'=>r=υ (φ #[])/\w'=w:=by
 go_enter func62,ntmps62;go_wp2_with fail;try simp only[Exit.inBlock,Exit.then]
 refine Ç (results_none rfl _ _ _) rfl ?_;exact⟨rfl,rfl⟩
theorem OR(C:Rc E)(G:aw E)(F:jg)(q:Nat)(bad:Bool)(w:Wd)(h:bE C F w)(hq:q<F.2.length) :
  Calls prog 62 #[ρ (Y ⟨C.b,0,M⟩),I O (q:Nat),U bad,U true] w λr w'=>r=υ (φ #[])/\bE C (cY (Dm G) F (.site (q:Int) bad)) w'/\RK C w w':=by
 obtain⟨k,hk⟩:∃k,F.2[q]?=Y k:=⟨_,Î hq⟩;obtain⟨c1,k2⟩:=h.s q k hk;obtain⟨_,_,b8⟩:=h.cells;obtain⟨cs,xW,_⟩:=h.gs;have f1:=ay xW q;have hqi:((q:Nat):Int)<((F.2.length:Nat):Int):=À;have Q4:¬((q:Nat):Int)<0:=À;have abD:decide (((q:Nat):Int)<0)=false:=decide_eq_false Q4;have aa1:((F.2.length:Nat):Int)<=1000:=by have:=h.Dw.2;omega
 have MT:∀k',k'=max k (if bad then 2 else 1)->cY (Dm G) F (.site (q:Int) bad)=(F.1,F.2.set q k'):=λk' e=>by
  show(F.1,F.2.modify (q:Int).toNat _)=_;rw[Int.toNat_natCast,e];congr 1;refine List.ext_getElem? λi=>?_
  rw[List.getElem?_modify,List.getElem?_set];by_cases hi:q=i
  .subst hi
   rw[Á rfl,Á hq,hk];simp
  .rw[Â hi]
   simp[hi]
 have HR:=hid h;cases bad with
 |true=>
  have δ:=MT 2 (by simp;omega);have HF:Hid (bE C (cY (Dm G) F (.site (q:Int) true)) (w.setCell ⟨C.gs,q,M⟩ (I O 2))/\RK C w (w.setCell ⟨C.gs,q,M⟩ (I O 2))):=by unfold Hid;rw[δ];exact h.site (k':=2) hk À
  clear δ MT h xW hk;generalize C.b=cb at*;generalize C.gs=cg at*;go_enter func62,ntmps62;go_wp2_with fail
  go_end0
  exact⟨rfl,HF.1,HF.2⟩
 |false=>
  by_cases hz:k=0
  .subst hz
   have δ:=MT 1 Ä;have HF:Hid (bE C (cY (Dm G) F (.site (q:Int) false)) (w.setCell ⟨C.gs,q,M⟩ (I O 1))/\RK C w (w.setCell ⟨C.gs,q,M⟩ (I O 1))):=by unfold Hid;rw[δ];exact h.site (k':=1) hk À
   clear δ MT h xW hk;generalize C.b=cb at*;generalize C.gs=cg at*;go_enter func62,ntmps62;go_wp2_with fail
   go_end0
   exact⟨rfl,HF.1,HF.2⟩
  .have δ:=MT k (by simp;omega)
   have es:F.2.set q k=F.2:=by
    refine List.ext_getElem? λi=>?_
    rw[List.getElem?_set];by_cases hi:q=i
    .subst hi;rw[Á rfl,Á hq,hk]
    .rw[Â hi]
   rw[es]at δ;have HF:Hid (bE C (cY (Dm G) F (.site (q:Int) false)) w):=by unfold Hid;rw[δ];exact h
   have Uv:¬((k:Nat):Int)=0:=À;clear δ es MT h xW hk;generalize C.b=cb at*;generalize C.gs=cg at*;go_enter func62,ntmps62;go_wp2_with fail
   go_end0
   exact⟨rfl,HF.out,RK.refl _ _⟩
end RG
end
end Go.Proofs.YtiopfihjmkfdmabGreatDoor
