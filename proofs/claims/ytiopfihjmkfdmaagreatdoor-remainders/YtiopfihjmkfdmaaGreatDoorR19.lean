import Derived.Test.YtiopfihjmkfdmaaGreatDoorR17
import Derived.Deep.MidRow
import Derived.Deep.Upon
namespace Go.Proofs.YtiopfihjmkfdmaaGreatDoor
open Go.Value renaming int→I,agg→J,bool→U,tuple→φ,pointer→ρ,iface→σ,slice→Z
open Go.IntKind renaming i64→O,i16→ψ
open Go.Ending renaming returned→υ
open Option renaming some→Y,none→M
open Go.Obj renaming cells→L
open Go.Proofs.Tryz Sp
open Go.RowKit
set_option maxRecDepth 100000
set_option maxHeartbeats 16000000
section
namespace W
variable {δ : Bool}{π : ar δ}
section
variable{B k r:Nat}
variable{dv:Value}
variable{w w':Wd}
variable{x y:Sp.Iv}
@[reducible] def ar.gz (_:ar δ) (n:Int):Sp.Iv:=W.gz δ n
@[reducible] def ar.dc (_:ar δ):Sp.Iv:=W.dc δ
@[reducible] def ar.jd (_:ar δ) (x:Sp.Iv):Sp.Iv:=W.jd δ x
@[reducible] def ar.nR (_:ar δ) (k:Nat) (x y:Sp.Iv):Option Sp.Iv:=W.nR δ k x y
@[reducible] def ar.iX (_:ar δ) (x:Sp.Iv):Bool:=W.iX δ x
@[reducible] def ar.da (_:ar δ) (x y:Sp.Iv):Sp.Iv:=W.da δ x y
@[reducible] def ar.lZ (_:ar δ) (r:Nat) (x y:Sp.Iv):Bool:=W.lZ δ r x y
@[reducible] def ar.gR (_:ar δ) (r:Nat) (x y:Sp.Iv):Option Sp.Iv:=W.gR δ r x y
@[reducible] def ar.fT (π:ar δ) (x y:Sp.Iv):Sp.Iv:=W.fT π x y
@[reducible] def ar.ik (_:ar δ) (x y:Sp.Iv):Sp.Iv:=W.ik δ x y
def lB(x:Sp.Iv):Int × Int:=(x.a,x.b)
def ar.sF(π:ar δ):Option Sp.Iv->Value
 | some x=>φ #[J #[I π.kd x.a,I π.kd x.b],U true]
 | none=>φ #[J #[I π.kd 0,I π.kd 0],U false]
structure MI(π:ar δ)(dv:Value)(w:Wd):Prop where
 number:∀(n:Int) (_:-32768<=n) (_:n<=32767),Calls prog (π.ix 324 301) #[dv,I ψ n] w fun e w'=>e=υ (J #[I π.kd (π.gz n).a,I π.kd (π.gz n).b])/\ω w w'
 whole:Calls prog (π.ix 326 303) #[dv] w fun e w'=>e=υ (J #[I π.kd π.dc.a,I π.kd π.dc.b])/\ω w w'
 negate:∀{x:Sp.Iv} (_:π.Wv x),Calls prog (π.ix 323 300) #[dv,J #[I π.kd x.a,I π.kd x.b]] w fun e w'=>e=υ (J #[I π.kd (π.jd x).a,I π.kd (π.jd x).b])/\ω w w'
 work:∀{k:Nat} (_:k<5) {x y:Sp.Iv} (_:π.Wv x) (_:π.Wv y),Calls prog (π.ix 328 305) #[dv,I O (k:Nat),J #[I π.kd x.a,I π.kd x.b],J #[I π.kd y.a,I π.kd y.b]] w fun e w'=>e=υ (π.sF (π.nR k x y))/\ω w w'
 nought:∀{x:Sp.Iv} (_:π.Wv x),Calls prog (π.ix 319 296) #[dv,J #[I π.kd x.a,I π.kd x.b]] w fun e w'=>e=υ (U (π.iX x))/\ω w w'
 join:∀{x y:Sp.Iv} (_:π.Wv x) (_:π.Wv y),Calls prog (π.ix 320 297) #[dv,J #[I π.kd x.a,I π.kd x.b],J #[I π.kd y.a,I π.kd y.b]] w fun e w'=>e=υ (J #[I π.kd (π.da x y).a,I π.kd (π.da x y).b])/\ω w w'
 may:∀(_:jD w) (_:11<=w.heap.size) {r:Nat} (_:r<6) {x y:Sp.Iv} (_:π.Wv x) (_:π.Wv y),Calls prog (π.ix 321 298) #[dv,I O (r:Nat),J #[I π.kd x.a,I π.kd x.b],J #[I π.kd y.a,I π.kd y.b]] w fun e w'=>e=υ (U (π.lZ r x y))/\ω w w'
 bound:∀{r:Nat} (_:r<6) {x y:Sp.Iv} (_:π.Wv x) (_:π.Wv y),Calls prog (π.ix 318 295) #[dv,I O (r:Nat),J #[I π.kd x.a,I π.kd x.b],J #[I π.kd y.a,I π.kd y.b]] w fun e w'=>e=υ (π.sF (π.gR r x y))/\ω w w'
 widen:∀{x y:Sp.Iv} (_:π.Wv x) (_:π.Wv y),Calls prog (π.ix 327 304) #[dv,J #[I π.kd x.a,I π.kd x.b],J #[I π.kd y.a,I π.kd y.b]] w fun e w'=>e=υ (J #[I π.kd (π.fT x y).a,I π.kd (π.fT x y).b])/\ω w w'
 narrow:∀{x y:Sp.Iv} (_:π.Wv x) (_:π.Wv y),Calls prog (π.ix 322 299) #[dv,J #[I π.kd x.a,I π.kd x.b],J #[I π.kd y.a,I π.kd y.b]] w fun e w'=>e=υ (J #[I π.kd (π.ik x y).a,I π.kd (π.ik x y).b])/\ω w w'
 tell:∀{x:Sp.Iv} (_:π.Wv x),Calls prog (π.ix 325 302) #[dv,J #[I π.kd x.a,I π.kd x.b]] w fun e w'=>e=υ (J #[I O (lB x).1,I O (lB x).2])/\ω w w'
structure fL(B:Nat)(π:ar δ)(dv:Value)(w:Wd):Prop where
 size:B<=w.heap.size
 at':∀w',Below B w w'->MI π dv w'
theorem fL.below(h:fL B π dv w)(hb:Below B w w'):fL B π dv w':=⟨Nat.le_trans h.size hb.size,fun _ k=>h.at' _ (hb.trans k)⟩
theorem fL.dm(h:fL B π dv w):MI π dv w:=h.at' w (Below.refl _ _)
theorem Hx(h:fL B π dv w)(n:Int)(h1:-32768<=n)(h2:n<=32767) :
  Calls prog (π.ix 324 301) #[dv,I ψ n] w fun e w'=>e=υ (J #[I π.kd (π.gz n).a,I π.kd (π.gz n).b])/\ω w w':=h.dm.number n h1 h2
theorem RU(h:fL B π dv w) :
  Calls prog (π.ix 326 303) #[dv] w fun e w'=>e=υ (J #[I π.kd π.dc.a,I π.kd π.dc.b])/\ω w w':=h.dm.whole
theorem OV(h:fL B π dv w)(hx:π.Wv x) :
  Calls prog (π.ix 323 300) #[dv,J #[I π.kd x.a,I π.kd x.b]] w fun e w'=>e=υ (J #[I π.kd (π.jd x).a,I π.kd (π.jd x).b])/\ω w w':=h.dm.negate hx
theorem QE(h:fL B π dv w)(hk:k<5)(hx:π.Wv x)(hy:π.Wv y) :
  Calls prog (π.ix 328 305) #[dv,I O (k:Nat),J #[I π.kd x.a,I π.kd x.b],J #[I π.kd y.a,I π.kd y.b]] w fun e w'=>e=υ (π.sF (π.nR k x y))/\ω w w':=h.dm.work hk hx hy
theorem OI(h:fL B π dv w)(hx:π.Wv x) :
  Calls prog (π.ix 319 296) #[dv,J #[I π.kd x.a,I π.kd x.b]] w fun e w'=>e=υ (U (π.iX x))/\ω w w':=h.dm.nought hx
theorem VF(h:fL B π dv w)(hx:π.Wv x)(hy:π.Wv y) :
  Calls prog (π.ix 320 297) #[dv,J #[I π.kd x.a,I π.kd x.b],J #[I π.kd y.a,I π.kd y.b]] w fun e w'=>e=υ (J #[I π.kd (π.da x y).a,I π.kd (π.da x y).b])/\ω w w':=h.dm.join hx hy
theorem VA(h:fL B π dv w)(hT:jD w)(hs:11<=w.heap.size)(hr:r<6)(hx:π.Wv x)(hy:π.Wv y) :
  Calls prog (π.ix 321 298) #[dv,I O (r:Nat),J #[I π.kd x.a,I π.kd x.b],J #[I π.kd y.a,I π.kd y.b]] w fun e w'=>e=υ (U (π.lZ r x y))/\ω w w':=h.dm.may hT hs hr hx hy
theorem SL(h:fL B π dv w)(hr:r<6)(hx:π.Wv x)(hy:π.Wv y) :
  Calls prog (π.ix 318 295) #[dv,I O (r:Nat),J #[I π.kd x.a,I π.kd x.b],J #[I π.kd y.a,I π.kd y.b]] w fun e w'=>e=υ (π.sF (π.gR r x y))/\ω w w':=h.dm.bound hr hx hy
theorem RY(h:fL B π dv w)(hx:π.Wv x)(hy:π.Wv y) :
  Calls prog (π.ix 327 304) #[dv,J #[I π.kd x.a,I π.kd x.b],J #[I π.kd y.a,I π.kd y.b]] w fun e w'=>e=υ (J #[I π.kd (π.fT x y).a,I π.kd (π.fT x y).b])/\ω w w':=h.dm.widen hx hy
theorem O6(h:fL B π dv w)(hx:π.Wv x)(hy:π.Wv y) :
  Calls prog (π.ix 322 299) #[dv,J #[I π.kd x.a,I π.kd x.b],J #[I π.kd y.a,I π.kd y.b]] w fun e w'=>e=υ (J #[I π.kd (π.ik x y).a,I π.kd (π.ik x y).b])/\ω w w':=h.dm.narrow hx hy
theorem Vz(h:fL B π dv w)(hx:π.Wv x) :
  Calls prog (π.ix 325 302) #[dv,J #[I π.kd x.a,I π.kd x.b]] w fun e w'=>e=υ (J #[I O (lB x).1,I O (lB x).2])/\ω w w':=h.dm.tell hx
end
end W
end
section
section
variable {α β : Type}{f : α->List β}{k : Nat}
theorem fw(hk:∀a,(f a).length=k):∀l:List α,(l.flatMap f).length=l.length*k
 | []=>by simp
 | a :: l=>by rw[List.flatMap_cons,List.length_append,hk,fw hk l,List.length_cons,Nat.add_mul,Nat.one_mul,Nat.add_comm]
theorem gX(hk:∀a,(f a).length=k):∀(l:List α) (p:Nat) (a:α) (j:Nat),l[p]?=Y a->j<k->(l.flatMap f)[p*k+j]?=(f a)[j]?
 | [],_,_,_,h,_=>by simp at h
 | b :: l,0,a,j,h,hj=>by
  have:b=a:=by simpa using h
  subst this;rw[List.flatMap_cons,Nat.zero_mul,Nat.zero_add,List.getElem?_append_left (by rw[hk];exact hj)]
 | b :: l,p+1,a,j,h,hj=>by rw[List.flatMap_cons,List.getElem?_append_right (by rw[hk,Nat.add_mul];omega),hk,show(p+1)*k+j - k=p*k+j by rw[Nat.add_mul];omega];exact gX hk l p a j (by simpa using h) hj
theorem pq(hk:∀a,(f a).length=k):∀(l:List α) (p:Nat) (a:α) (i:Nat),p<l.length->((l.set p a).flatMap f)[i]?=if p*k<=i/\i<p*k+k then(f a)[i - p*k]? else(l.flatMap f)[i]?
 | [],_,_,_,h=>by simp at h
 | b :: l,0,a,i,_=>by
  rw[List.set_cons_zero,List.flatMap_cons,List.flatMap_cons,Nat.zero_mul,Nat.zero_add,Nat.sub_zero];by_cases hi:i<k
  ·rw[if_pos ⟨Nat.zero_le _,hi⟩,List.getElem?_append_left (by rw[hk];exact hi)]
  ·rw[if_neg (by omega),List.getElem?_append_right (by rw[hk];omega),List.getElem?_append_right (by rw[hk];omega),hk,hk]
 | b :: l,p+1,a,i,h=>by
  rw[List.set_cons_succ,List.flatMap_cons,List.flatMap_cons];by_cases hi:i<k
  ·rw[List.getElem?_append_left (by rw[hk];exact hi),List.getElem?_append_left (by rw[hk];exact hi),if_neg (by rw[Nat.add_mul];omega)]
  ·rw[List.getElem?_append_right (by rw[hk];omega),List.getElem?_append_right (by rw[hk];omega),hk,pq hk l p a (i - k) (by simpa using h)]
   by_cases hc:p*k<=i - k/\i - k<p*k+k
   ·rw[if_pos hc,if_pos (by rw[Nat.add_mul];omega),show i - (p+1)*k=i - k - p*k by rw[Nat.add_mul];omega]
   ·rw[if_neg hc,if_neg (by rw[Nat.add_mul];omega)]
end
end
section
section
variable{b B:Nat}
variable{fr:Nat × Nat}
theorem fP{t:TypeId}:∀(vs:List Value) (o:Nat) (w:Wd) (c:Array Value),w.heap[b]?=Y (L c t fr)->o+vs.length<=c.size ->
  ∃c',(w.setCells b o vs).heap[b]?=Y (L c' t fr)/\c'.size=c.size/\(∀j,j<vs.length->c'[o+j]?=vs[j]?)/\∀i,i<o∨o+vs.length<=i->c'[i]?=c[i]?
 | [],o,w,c,h,_=>⟨c,h,rfl,fun j hj=>by simp at hj,fun _ _=>rfl⟩
 | v :: vs,o,w,c,h,hs=>by
  simp only[List.length_cons]at hs;obtain⟨c',h1,h2,h3,h4⟩:=fP vs (o+1) (w.setCell ⟨b,o,M⟩ v) (c.setIfInBounds o v) (ah h o v) (by simp;omega);refine⟨c',h1,by rw[h2];simp,fun j hj=>?_,fun i hi=>?_⟩
  ·cases j with
   | zero =>rw[Nat.add_zero,h4 o (.inl (Nat.lt_succ_self _))];simp[Array.getElem?_setIfInBounds];omega
   | succ j =>have:=h3 j (by simp at hj;omega);rw[show o+(j+1)=o+1+j by omega,this];simp
  ·rw[h4 i (by simp only[List.length_cons]at hi;omega),Array.getElem?_setIfInBounds]
   rw[if_neg (by simp only[List.length_cons]at hi;omega)]
theorem ao{w:Wd}{c d:Array Value}{t:TypeId}(h:w.heap[b]?=Y (L c t fr))(hs:d.size=c.size):(w.setCells b 0 d.toList).heap[b]?=Y (L d t fr):=by
 obtain⟨c',h1,h2,h3,_⟩:=fP d.toList 0 w c h (by simp;omega);rw[h1];congr 2;refine Array.ext_getElem? fun i=>?_
 by_cases hi:i<d.size
 ·have:=h3 i (by simpa using hi)
  rw[Nat.zero_add]at this;rw[this];simp
 ·rw[Array.getElem?_eq_none (by omega),Array.getElem?_eq_none (by omega)]
theorem aq(hb:B<=b):∀(vs:List Value) (o:Nat) (w0 w:Wd),Below B w0 w->Below B w0 (w.setCells b o vs)
 | [],_,_,_,h=>h
 | v :: vs,o,w0,_,h=>aq hb vs (o+1) w0 _ (h.setCell (p:=⟨b,o,M⟩) hb v)
theorem aj:∀(vs:List Value) (o:Nat) (w:Wd) (k:Nat),k≠b->(w.setCells b o vs).heap[k]?=w.heap[k]?
 | [],_,_,_,_=>rfl
 | v :: vs,o,w,k,hk=>by show((w.setCell ⟨b,o,M⟩ v).setCells b (o+1) vs).heap[k]?=_;rw[aj vs (o+1) _ k hk,Below.heap_setCell _ _ _ _ hk]
end
section
variable {V : Type}(c0 c1 : V->Value)
section
variable{r:Bool}
def flat(l:List V):List Value:=l.flatMap fun v=>[c0 v,c1 v]
theorem sN(v:V)(l:List V):flat c0 c1 (v :: l)=c0 v :: c1 v :: flat c0 c1 l:=rfl
theorem Dp(l:List V):(flat c0 c1 l).length=2*l.length:=by
 induction l with
 | nil=>rfl
 | cons v l ih=>rw[sN];simp only[List.length_cons,ih];omega
theorem xA:∀(l:List V) (j:Nat) (v:V),l[j]?=Y v->(flat c0 c1 l)[j*2]?=Y (c0 v)/\(flat c0 c1 l)[j*2+1]?=Y (c1 v)
 | [],_,_,h=>by simp at h
 | u :: l,0,v,h=>by simp at h;subst h;exact⟨rfl,rfl⟩
 | u :: l,j+1,v,h=>by have:=xA l j v (by simpa using h);rw[sN,show(j+1)*2=j*2+2 by omega];exact this
theorem Dy:∀(l:List V) (j:Nat) (v:V),j<l.length->((flat c0 c1 l).set (j*2) (c0 v)).set (j*2+1) (c1 v)=flat c0 c1 (l.set j v)
 | [],_,_,h=>by simp at h
 | u :: l,0,v,_=>rfl
 | u :: l,j+1,v,h=>by have:=Dy l j v (by simpa using h);rw[sN,show(j+1)*2=j*2+2 by omega];simp only[List.set_cons_succ];rw[this];rfl
def Km(r:Bool)(l:List V):Array Value:=(Value.bool r :: flat c0 c1 l).toArray
theorem DQ{l:List V}(h:l.length=8):(Km c0 c1 r l).size=17:=by unfold Km;simp[Dp,h]
theorem AZ{l:List V}{j:Nat}{v:V}(h:l[j]?=Y v):(Km c0 c1 r l)[1+j*2]?=Y (c0 v)/\(Km c0 c1 r l)[1+j*2+1]?=Y (c1 v):=by obtain⟨h1,h2⟩:=xA c0 c1 l j v h;unfold Km;rw[List.getElem?_toArray,List.getElem?_toArray,Nat.add_comm 1,show j*2+1+1=(j*2+1)+1 by omega];exact⟨h1,h2⟩
theorem G1{l:List V}{j:Nat}(v:V)(h:j<l.length):((Km c0 c1 r l).setIfInBounds (1+j*2) (c0 v)).setIfInBounds (1+j*2+1) (c1 v)=Km c0 c1 r (l.set j v):=by unfold Km;rw[List.setIfInBounds_toArray,List.setIfInBounds_toArray,<-Dy c0 c1 l j v h,Nat.add_comm 1];rfl
theorem Hb(h0:∀v,(c0 v).oneCell'=true)(h1:∀v,(c1 v).oneCell'=true)(r:Bool)(l:List V):(Km c0 c1 r l).all (·.oneCell')=true:=by
 refine all_oneCell_toArray ?_;intro v hv
 rcases List.mem_cons.1 hv with rfl | hv
 ·rfl
 ·unfold flat at hv
  obtain⟨u,_,hu⟩:=List.mem_flatMap.1 hv;simp at hu
  rcases hu with rfl | rfl
  ·exact h0 u
  ·exact h1 u
end
end
section
variable{W w w0:Wd}
variable{b k B q n:Nat}
variable{c:Array Value}
variable{t:TypeId}
theorem aP{fr:Nat × Nat}(h:W.heap[b]?=Y (L c t fr)):W.rangeAt b 0 c.toList:=fun j u hu=>by rw[Nat.zero_add];exact cell_of h j (by simpa using hu)
theorem bM(h:Bk W b c t):W.there b 0 c.size:=fun j hj=>by rw[Nat.zero_add];refine⟨?_,aw h j⟩;rw[cell_of h j (Array.getElem?_eq_getElem hj)];rfl
theorem cq{x y:Value}(h:Bk w k #[x,y] t)(u v:Value):((w.setCell ⟨k,0,M⟩ u).setCell ⟨k,1,M⟩ v).heap[k]?=Y (L #[u,v] t):=ah (ah h 0 u) 1 v
theorem Below.two(h:Below B w0 w)(hk:B<=k)(u v:Value):Below B w0 ((w.setCell ⟨k,0,M⟩ u).setCell ⟨k,1,M⟩ v) :=
 (h.setCell (p:=⟨k,0,M⟩) hk u).setCell (p:=⟨k,1,M⟩) hk v
theorem Cl{α:Type}{l:List α}{n:α}(h:l[q]?=Y n){f:α->α}:l.modify q f=l.set q (f n):=by
 refine List.ext_getElem? fun i=>?_
 rw[List.getElem?_modify,List.getElem?_set];by_cases hq:q=i
 ·subst hq
  obtain⟨hl,he⟩:=List.getElem?_eq_some_iff.1 h;simp[hl,he]
 ·simp[hq]
theorem qp{l:List Nat}(h:l[q]?=Y n){f:Nat->Nat}:l.modify q f=l.set q (f n):=by
 refine List.ext_getElem? fun i=>?_
 rw[List.getElem?_modify,List.getElem?_set];by_cases hq:q=i
 ·subst hq
  obtain⟨hl,he⟩:=List.getElem?_eq_some_iff.1 h;simp[hl,he]
 ·simp[hq]
abbrev zS:Array Value:=#[U false,I ψ 0,I ψ 0,I ψ 0,I ψ 0,I ψ 0,I ψ 0,I ψ 0,I ψ 0,I ψ 0,I ψ 0,I ψ 0,I ψ 0,I ψ 0,I ψ 0,I ψ 0,I ψ 0]
abbrev zE:Array Value:=#[I O 0,U false,I ψ 0,I ψ 0,I ψ 0,I ψ 0,I ψ 0,I ψ 0,I ψ 0,I ψ 0,I ψ 0,I ψ 0,I ψ 0,I ψ 0,I ψ 0,I ψ 0,I ψ 0,I ψ 0]
abbrev zP:Array Value:=#[U false,I ψ 0,I ψ 0,I ψ 0,I ψ 0,I ψ 0,I ψ 0,I ψ 0,I ψ 0,I ψ 0,I ψ 0,I ψ 0,I ψ 0,I ψ 0,I ψ 0,I ψ 0,I ψ 0,U false]
end
end
section
theorem bp.{u}:(∀{α:Type u} (xs:List α) (i:Nat) (h:i<xs.toArray.size),xs.toArray[i]=xs[i]'(by simpa using h))/\(∀{α:Type u} (a:α) (l:List α) (i:Nat) (h:i+1<(a :: l).length),(a :: l)[i+1]=l[i]'(Nat.lt_of_succ_lt_succ h))/\(∀{α:Type u} (a:α) (l:List α) (h:0<(a :: l).length),(a :: l)[0]=a) :=
 ⟨fun _ _ _=>List.getElem_toArray _,fun _ _ _ _=>rfl,fun _ _ _=>rfl⟩
theorem fB.{u}:(∀{α:Type u} (l:List α) (i:Nat) (a:α),l.toArray.setIfInBounds i a=(l.set i a).toArray)/\(∀{α:Type u} (x:α) (xs:List α) (n:Nat) (a:α),(x :: xs).set (n+1) a=x :: xs.set n a)/\(∀{α:Type u} (x:α) (xs:List α) (a:α),(x :: xs).set 0 a=a :: xs) :=
 ⟨fun _ _ _=>List.setIfInBounds_toArray _ _ _,fun _ _ _ _=>rfl,fun _ _ _=>rfl⟩
section
variable {P : Program}{ops : Array Oper}{Q : Exit->Act->Wd->Prop}{md : Region.Mode}{S : Wd->Prop}{fuel : Nat}{listed : Array Bool}{a : Act}{w : Wd}
section
variable{o p r oi:Oper}
variable{a':Act}
theorem bD(i:Nat)(h:∀K':Act->Wd->Prop,Shut (∀a w,S w->(S w->wpAnyH P md ops Q S fuel (listed.setIfInBounds i true) a w)->K' a w)->if Region.wanted o (yielded ops a.tmps)=true then Oper.wp P o a w K' Q else K' (a.put o.dst undef) w)
  (hr:Region.ready md ops listed=[i]:=by kernel_rfl) (ho:ops[i]?=Y o:=by rfl):wpAnyH P md ops Q S (fuel+1) listed a w :=
 wpAnyH_ready hr (by simp) (AllReadyH.cons ho h AllReadyH.nil)
theorem xX(i j:Nat)(h:∀K':Act->Wd->Prop,Shut (∀a w,S w->(S w->wpAnyH P md ops Q S fuel (listed.setIfInBounds i true) a w)->K' a w)->if Region.wanted o (yielded ops a.tmps)=true then Oper.wp P o a w K' Q else K' (a.put o.dst undef) w)
  (h':∀K':Act->Wd->Prop,Shut (∀a w,S w->(S w->wpAnyH P md ops Q S fuel (listed.setIfInBounds j true) a w)->K' a w)->if Region.wanted p (yielded ops a.tmps)=true then Oper.wp P p a w K' Q else K' (a.put p.dst undef) w)
  (hr:Region.ready md ops listed=[i,j]:=by kernel_rfl) (ho:ops[i]?=Y o:=by rfl) (hp:ops[j]?=Y p:=by rfl):wpAnyH P md ops Q S (fuel+1) listed a w :=
 wpAnyH_ready hr (by simp) (AllReadyH.cons ho h (AllReadyH.cons hp h' AllReadyH.nil))
theorem Vp(i j k:Nat)(h:∀K':Act->Wd->Prop,Shut (∀a w,S w->(S w->wpAnyH P md ops Q S fuel (listed.setIfInBounds i true) a w)->K' a w)->if Region.wanted o (yielded ops a.tmps)=true then Oper.wp P o a w K' Q else K' (a.put o.dst undef) w)
  (h':∀K':Act->Wd->Prop,Shut (∀a w,S w->(S w->wpAnyH P md ops Q S fuel (listed.setIfInBounds j true) a w)->K' a w)->if Region.wanted p (yielded ops a.tmps)=true then Oper.wp P p a w K' Q else K' (a.put p.dst undef) w)
  (h2:∀K':Act->Wd->Prop,Shut (∀a w,S w->(S w->wpAnyH P md ops Q S fuel (listed.setIfInBounds k true) a w)->K' a w)->if Region.wanted r (yielded ops a.tmps)=true then Oper.wp P r a w K' Q else K' (a.put r.dst undef) w)
  (hr:Region.ready md ops listed=[i,j,k]:=by kernel_rfl) (ho:ops[i]?=Y o:=by rfl) (hp:ops[j]?=Y p:=by rfl) (hq:ops[k]?=Y r:=by rfl):wpAnyH P md ops Q S (fuel+1) listed a w :=
 wpAnyH_ready hr (by simp) (AllReadyH.cons ho h (AllReadyH.cons hp h' (AllReadyH.cons hq h2 AllReadyH.nil)))
theorem rd4(i j k l:Nat){s:Oper}(h:∀K':Act->Wd->Prop,Shut (∀a w,S w->(S w->wpAnyH P md ops Q S fuel (listed.setIfInBounds i true) a w)->K' a w)->if Region.wanted o (yielded ops a.tmps)=true then Oper.wp P o a w K' Q else K' (a.put o.dst undef) w)
  (h':∀K':Act->Wd->Prop,Shut (∀a w,S w->(S w->wpAnyH P md ops Q S fuel (listed.setIfInBounds j true) a w)->K' a w)->if Region.wanted p (yielded ops a.tmps)=true then Oper.wp P p a w K' Q else K' (a.put p.dst undef) w)
  (h2:∀K':Act->Wd->Prop,Shut (∀a w,S w->(S w->wpAnyH P md ops Q S fuel (listed.setIfInBounds k true) a w)->K' a w)->if Region.wanted r (yielded ops a.tmps)=true then Oper.wp P r a w K' Q else K' (a.put r.dst undef) w)
  (h3:∀K':Act->Wd->Prop,Shut (∀a w,S w->(S w->wpAnyH P md ops Q S fuel (listed.setIfInBounds l true) a w)->K' a w)->if Region.wanted s (yielded ops a.tmps)=true then Oper.wp P s a w K' Q else K' (a.put s.dst undef) w)
  (hr:Region.ready md ops listed=[i,j,k,l]:=by kernel_rfl) (ho:ops[i]?=Y o:=by rfl) (hp:ops[j]?=Y p:=by rfl) (hq:ops[k]?=Y r:=by rfl) (hs:ops[l]?=Y s:=by rfl):wpAnyH P md ops Q S (fuel+1) listed a w :=
 wpAnyH_ready hr (by simp) (AllReadyH.cons ho h (AllReadyH.cons hp h' (AllReadyH.cons hq h2 (AllReadyH.cons hs h3 AllReadyH.nil))))
theorem mB(i:Nat){v:Value}(hi:ops[i]?=Y oi)(hy:YieldsIf P ops S oi v a)(hS:S w)(h:wpAnyH P md ops Q S fuel (listed.setIfInBounds i true) a' w)
 (hs:Region.noSelect ops=true:=by kernel_rfl) (hf:Region.free md ops listed i=true:=by kernel_rfl) (hr:(Region.ready md ops listed).contains i=true:=by kernel_rfl) (hQ:∀c a w,Q (.panic c) (a.put oi.dst v) w→Q (.panic c) a w:=by exact fun _ _ _ h=>h) (ha:a.put oi.dst v=a':=by simp only[Act.put];rfl):wpAnyH P md ops Q S (fuel+1) listed a w :=
 wpAnyH_take hi hs hf hr hQ hy hS (ha ▸ h)
theorem tk(i:Nat)(v:Value)(hi:ops[i]?=Y oi)(hy:∀w,S w→(execOp a.eval oi).run P w=.ok (.value v) w)(hS:S w)(h:wpAnyH P md ops Q S fuel (listed.setIfInBounds i true) a' w)
 (hw:Region.wanted oi (yielded ops a.tmps)=true:=by rfl) (hs:Region.noSelect ops=true:=by kernel_rfl) (hf:Region.free md ops listed i=true:=by kernel_rfl) (hr:(Region.ready md ops listed).contains i=true:=by kernel_rfl) (hQ:∀c a w,Q (.panic c) (a.put oi.dst v) w→Q (.panic c) a w:=by exact fun _ _ _ h=>h) (ha:a.put oi.dst v=a':=by simp only[Act.put];rfl):wpAnyH P md ops Q S (fuel+1) listed a w :=
 wpAnyH_take hi hs hf hr hQ (.inl ⟨hw,hy⟩) hS (ha ▸ h)
theorem tq(i:Nat)(v:Value)(hS:S w)(h:wpAnyH P md ops Q S fuel (listed.setIfInBounds i true) a' w)(hi:ops[i]?=Y oi:=by rfl)(hy:∀w,S w→(execOp a.eval oi).run P w=.ok (.value v) w:=by intro _ _;go_simp)
 (hw:Region.wanted oi (yielded ops a.tmps)=true:=by rfl) (hs:Region.noSelect ops=true:=by kernel_rfl) (hf:Region.free md ops listed i=true:=by kernel_rfl) (hr:(Region.ready md ops listed).contains i=true:=by kernel_rfl) (hQ:∀c a w,Q (.panic c) (a.put oi.dst v) w→Q (.panic c) a w:=by exact fun _ _ _ h=>h) (ha:a.put oi.dst v=a':=by simp only[Act.put];rfl):wpAnyH P md ops Q S (fuel+1) listed a w :=
 wpAnyH_take hi hs hf hr hQ (.inl ⟨hw,hy⟩) hS (ha ▸ h)
end
end
end
section
namespace W
variable {δ : Bool}{π : ar δ}
section
variable{ops:Array Oper}
variable{op:Oper}
variable{a:Act}
variable{w:Wd}
variable{b:Nat}
variable{c d:Array Value}
variable{rest:List Oper}
theorem eh:(prog.info? (π.ix 220 203)).map (·.size)=Y 17:=by cases δ<;>kernel_rfl
theorem ar.mv(π:ar δ){S:Wd->Prop}(hw:Region.wanted op (yielded ops a.tmps)=true)(x:Operand)(ho:op.op=.load (π.ix 220 203) x)(b o:Nat)(hx:a.eval x=ρ (Y ⟨b,o,M⟩))(c:Array Value)(hS:∀w,S w->w.rangeAt b o c.toList)(hc:c.size=17):YieldsIf prog ops S op (J c) a:=by
 cases δ
 all_goals
  have:=yieldsIf_load_mid (P:=prog) hw _ x ho b o hx c.toList _ hS (by first | exact underlying220 | exact underlying203) rfl (by rw[eh,Array.length_toList,hc])
  rwa [Array.toArray_toList]at this
theorem AB:(prog.info? (π.ix 217 200)).map (·.size)=Y 8:=by cases δ<;>kernel_rfl
theorem ar.qq(π:ar δ){S:Wd->Prop}(hw:Region.wanted op (yielded ops a.tmps)=true)(x:Operand)(ho:op.op=.load (π.ix 217 200) x)(b o:Nat)(hx:a.eval x=ρ (Y ⟨b,o,M⟩))(c:Array Value)(hS:∀w,S w->w.rangeAt b o c.toList)(hc:c.size=8):YieldsIf prog ops S op (J c) a:=by
 cases δ
 all_goals
  have:=yieldsIf_load_mid (P:=prog) hw _ x ho b o hx c.toList _ hS (by first | exact underlying217 | exact underlying200) rfl (by rw[AB,Array.length_toList,hc])
  rwa [Array.toArray_toList]at this
theorem vD{fr:Nat × Nat}(h:w.heap[b]?=Y (L c (π.ix 220 203) fr))(hc:c.size=17) :
  (loadVar (π.ix 220 203) ⟨b,0,M⟩).run prog w=.ok (J c) w:=by
 cases δ
 all_goals
  dsimp only [ar.ix,ar.kd]at *
  have:=run_loadVar_mid (P:=prog) w b 0 (π.ix 220 203) c.toList _ (fun j v hv=>by rw[Nat.zero_add];exact cell_of h j (by simpa using hv)) (by first | exact underlying220 | exact underlying203) rfl (by rw[eh];simp[hc]);simpa using this
theorem Vu(h:Bk w b c (π.ix 220 203))(hc:c.size=17)(hd:d.size=17)(h1:d.all (·.oneCell')=true) :
  (Instr.storeAt (π.ix 220 203) (ρ (Y ⟨b,0,M⟩)) (J d)).run prog w=.ok () (w.setCells b 0 d.toList) :=
 run_storeAt_mid (P:=prog) w b 0 (π.ix 220 203) d (fun j hj=>by rw[Nat.zero_add];refine⟨?_,aw h j⟩;rw[cell_of h j (Array.getElem?_eq_getElem (by omega))];rfl) (by rw[eh,hd]) h1
theorem bu{Q:Exit->Act->Wd->Prop}(qM:op.guard=M)(x:Operand)(ho:op.op=.load (π.ix 220 203) x)(hx:a.eval x=ρ (Y ⟨b,0,M⟩))(h:Bk w b c (π.ix 220 203))(hc:c.size=17)
  (k:wpList prog ops Q rest (a.put op.dst (J c)) w):wpList prog ops Q (op :: rest) a w:=by
 cases δ
 all_goals
  dsimp only [ar.ix,ar.kd]at *
  refine wpList_load_mid qM (π.ix 220 203) x ho b 0 hx c.toList _ (fun j v hv=>by rw[Nat.zero_add];exact cell_of h j (by simpa using hv)) (by first | exact underlying220 | exact underlying203) rfl (by rw[eh];simp[hc]) ?_;simpa using k
theorem bT{Q:Exit->Act->Wd->Prop}(qM:op.guard=M)(x y:Operand)(ho:op.op=.store (π.ix 220 203) x y)(hx:a.eval x=ρ (Y ⟨b,0,M⟩))(hy:a.eval y=J d)(h:Bk w b c (π.ix 220 203))(hc:c.size=17)(hd:d.size=17)(h1:d.all (·.oneCell')=true)
  (k:wpList prog ops Q rest (a.put op.dst undef) (w.setCells b 0 d.toList)):wpList prog ops Q (op :: rest) a w :=
 wpList_store_mid qM (π.ix 220 203) x y ho b 0 d hx hy (fun j hj=>by rw[Nat.zero_add];refine⟨?_,aw h j⟩;rw[cell_of h j (Array.getElem?_eq_getElem (by omega))];rfl) (by rw[eh,hd]) h1 k
theorem aM{fn:Func}{a:Tmp}(Gj:fn.results=#[.cell a (π.ix 220 203)])(tmps:Array Value)(w:Wd)(ht:tmps.getD a undef=ρ (Y ⟨b,0,M⟩))(h:Bk w b c (π.ix 220 203))(hc:c.size=17) :
  (results fn tmps).run prog w=.ok (J c) w:=by
 have hl:=vD h hc;have Tu:tmps[a]?.getD undef=ρ (Y ⟨b,0,M⟩):=by rw[<-ht];simp
 unfold results;rw[Gj];simp[asAddr,Tu,hl]
theorem join_none(W0 x y:Array Value)(w:Wd)(hx:x.size=17)(hy:y.size=17)(h1:y.all (·.oneCell')=true)(h0:∀h,x[0]'h=U false) :
  Calls prog (π.ix 116 113) #[J W0,J x,J y] w fun e w'=>e=υ (J y)/\ω w w':=by
 cases δ
 all_goals
  dsimp only [ar.ix,ar.kd]at *
  obtain⟨k0,k1,k2,k3,kb⟩:=bB (w:=w) (o1:=L W0 (π.ix 217 200)) (o2:=L x (π.ix 220 203)) (o3:=L y (π.ix 220 203)) (o4:=L π.zS (π.ix 220 203)) (Below.refl _ _);have K2:=hid k2;have K3:=hid k3;have hr:Hid (_=_):=ao k3 (d:=y) (by rw[hy];rfl);have HB:Hid (ω w _):=aq (b:=w.heap.size+1+1+1) (by omega) y.toList 0 w _ kb;clear k0 k1 k2 k3 kb
  first | go_enter func116,ntmps116 | go_enter func113,ntmps113
  go_wp2_with (first
   | (refine bu (π:=π) rfl _ rfl rfl K2.out hy ?_)
   | (refine bT (π:=π) rfl _ _ rfl rfl rfl K3.out rfl hy h1 ?_))
  refine bodyPost_ret (aM rfl _ _ rfl hr.out hy) rfl ⟨rfl,HB.out⟩
end
end W
end
section
namespace W
variable {δ : Bool}{π : ar δ}
section
variable{r:Bool}
variable{l ys xs:List Sp.Iv}
variable{j:Nat}
variable{v x y:Sp.Iv}
variable{w W W':Wd}
def ar.eo(π:ar δ)(r:Bool)(l:List Sp.Iv):Array Value:=Km (fun v:Sp.Iv=>I π.kd v.a) (fun v:Sp.Iv=>I π.kd v.b) r l
theorem ar.iu(π:ar δ)(h:l[j]?=Y v):(π.eo r l)[1+j*2]?=Y (I π.kd v.a)/\(π.eo r l)[1+j*2+1]?=Y (I π.kd v.b):=AZ _ _ h
theorem ar.Ad(π:ar δ)(v:Sp.Iv)(h:j<l.length):((π.eo r l).setIfInBounds (1+j*2) (I π.kd v.a)).setIfInBounds (1+j*2+1) (I π.kd v.b)=π.eo r (l.set j v):=G1 (fun v:Sp.Iv=>I π.kd v.a) (fun v:Sp.Iv=>I π.kd v.b) v h
theorem ar.dK(π:ar δ)(h:l.length=8):(π.eo r l).size=17:=DQ _ _ h
theorem ar.ij(π:ar δ)(r:Bool)(l:List Sp.Iv)(h:0<(π.eo r l).size):(π.eo r l)[0]=U r:=rfl
theorem ar.lh(π:ar δ)(r:Bool)(l:List Sp.Iv):(π.eo r l).all (·.oneCell')=true:=Hb _ _ (fun _=>rfl) (fun _=>rfl) r l
def ar.eS(π:ar δ):Array Value:=π.zS
structure dN(π:ar δ)(w:Wd)(l ys:List Sp.Iv)(W:Wd):Prop where
 x:W.heap[w.heap.size]?=Y (L (π.eo true l) (π.ix 220 203))
 y:W.heap[w.heap.size+1]?=Y (L (π.eo true ys) (π.ix 220 203))
 z:W.heap[w.heap.size+1+1]?=Y (L π.eS (π.ix 220 203))
 b:ω w W
theorem dN.call(h:dN π w l ys W)(k:ω W W'):dN π w l ys W' :=
 ⟨(k.block _ (ad h.x)).trans h.x,(k.block _ (ad h.y)).trans h.y,(k.block _ (ad h.z)).trans h.z,h.b.trans (k.mono h.b.size)⟩
theorem dN.set(h:dN π w l ys W)(hj:j<l.length)(v:Sp.Iv):dN π w (l.set j v) ys ((W.setCell ⟨w.heap.size,1+j*2,M⟩ (I π.kd v.a)).setCell ⟨w.heap.size,1+j*2+1,M⟩ (I π.kd v.b)):=by
 refine⟨?_,?_,?_,(h.b.setCell (p:=⟨w.heap.size,1+j*2,M⟩) (Nat.le_refl _) _).setCell (p:=⟨w.heap.size,1+j*2+1,M⟩) (Nat.le_refl _) _⟩
 ·rw[ah (ah h.x (1+j*2) (I π.kd v.a)) (1+j*2+1) (I π.kd v.b),π.Ad v hj]
 ·rw[Below.heap_setCell _ _ _ _ (by show w.heap.size+1≠w.heap.size;omega),Below.heap_setCell _ _ _ _ (by show w.heap.size+1≠w.heap.size;omega)];exact h.y
 ·rw[Below.heap_setCell _ _ _ _ (by show w.heap.size+1+1≠w.heap.size;omega),Below.heap_setCell _ _ _ _ (by show w.heap.size+1+1≠w.heap.size;omega)];exact h.z
theorem dN.cells(h:dN π w l ys W)(hx:l[j]?=Y x):W.cell? ⟨w.heap.size,1+j*2,M⟩=Y (I π.kd x.a)/\W.cell? ⟨w.heap.size,1+j*2+1,M⟩=Y (I π.kd x.b)/\W.frozen? ⟨w.heap.size,1+j*2,M⟩=false/\W.frozen? ⟨w.heap.size,1+j*2+1,M⟩=false :=
 ⟨cell_of h.x _ (π.iu hx).1,cell_of h.x _ (π.iu hx).2,aw h.x _,aw h.x _⟩
def gP(g:Sp.Iv->Sp.Iv->Sp.Iv)(xs ys:List Sp.Iv)(j:Nat):List Sp.Iv:=(List.zipWith g xs ys).take j ++ xs.drop j
theorem AO{g:Sp.Iv->Sp.Iv->Sp.Iv}(hx:xs.length=8)(hy:ys.length=8)(hj:j<8)(h:xs[j]?=Y x):(gP g xs ys j)[j]?=Y x:=by
 have hl:((List.zipWith g xs ys).take j).length=j:=by simp;omega
 unfold gP;rw[List.getElem?_append_right (by omega),hl,Nat.sub_self,List.getElem?_drop,Nat.add_zero];exact h
theorem xD{g:Sp.Iv->Sp.Iv->Sp.Iv}(hx:xs.length=8)(hy:ys.length=8)(hj:j<8)(h:xs[j]?=Y x)(k:ys[j]?=Y y):(gP g xs ys j).set j (g x y)=gP g xs ys (j+1):=by
 have hl:((List.zipWith g xs ys).take j).length=j:=by simp;omega
 have hz:(List.zipWith g xs ys)[j]?=Y (g x y):=by rw[List.getElem?_zipWith,h,k]
 have hk:=List.getElem?_eq_some_iff.1 hz;have hd:xs.drop j=x :: xs.drop (j+1):=by rw[List.drop_eq_getElem_cons (by omega),(List.getElem?_eq_some_iff.1 h).2]
 unfold gP;rw[List.set_append_right _ _ (by omega),hl,Nat.sub_self,hd,List.set_cons_zero,List.take_succ_eq_append_getElem hk.1,hk.2,List.append_assoc];rfl
theorem xd{g:Sp.Iv->Sp.Iv->Sp.Iv}(hx:xs.length=8)(hy:ys.length=8):gP g xs ys 8=List.zipWith g xs ys:=by unfold gP;rw[List.take_of_length_le (by simp;omega),List.drop_of_length_le (by omega),List.append_nil]
theorem JS(uD:Value)(g:Sp.Iv->Sp.Iv->Sp.Iv)(xs ys:List Sp.Iv)(w:Wd)(hx:xs.length=8)(hy:ys.length=8)(Ud:∀x∈xs,π.Wv x)(TM:∀y∈ys,π.Wv y)
  (xL:∀W x y,ω w W->π.Wv x->π.Wv y->Calls prog (π.ix 320 297) #[uD,J #[I π.kd x.a,I π.kd x.b],J #[I π.kd y.a,I π.kd y.b]] W fun e w'=>e=υ (J #[I π.kd (g x y).a,I π.kd (g x y).b])/\ω W w') :
  Calls prog (π.ix 162 157) #[J (π.eo true xs),J (π.eo true ys),.func (Fn.method "Join") #[σ (π.ix 133 128) uD] #[]] w fun e w'=>e=υ (J (π.eo true (List.zipWith g xs ys)))/\ω w w':=by
 cases δ
 all_goals
  dsimp only [ar.ix,ar.kd]at *
  have HP:=hid xL;have zx:=π.ij true xs;have zy:=π.ij true ys;have H0:Hid (dN π w xs ys (((w.alloc (L (π.eo true xs) (π.ix 220 203))).alloc (L (π.eo true ys) (π.ix 220 203))).alloc (L π.zS (π.ix 220 203)))):=by obtain⟨k0,k1,k2,kb⟩:=cH (w:=w) (o1:=L (π.eo true xs) (π.ix 220 203)) (o2:=L (π.eo true ys) (π.ix 220 203)) (o3:=L π.eS (π.ix 220 203)) (Below.refl _ _);exact⟨k0,k1,k2,kb⟩
  have sx:(π.eo true xs).size=17:=π.dK hx;have sy:(π.eo true ys).size=17:=π.dK hy;clear xL
  first | go_enter func162,ntmps162 | go_enter func157,ntmps157
  go_wp2_with fail
  go_loopw [17] (fun jC wr=>∃j:Nat,j<=8/\jC=I O j/\Hid (dN π w (gP g xs ys j) ys wr)) (fun jC _=>8 - (intOf jC).toNat)
  case atStart=>exact⟨0,Nat.zero_le _,rfl,H0.out⟩
  case round =>
   obtain⟨j,hj,rfl,hq⟩:=hrel;clear H0 zx zy sx sy;by_cases gu:j<8
   ·obtain⟨x,hxj⟩:∃x,xs[j]?=Y x:=⟨_,List.getElem?_eq_getElem (by omega)⟩
    obtain⟨y,hyj⟩:∃y,ys[j]?=Y y:=⟨_,List.getElem?_eq_getElem (by omega)⟩;have WX:Hid (π.Wv x):=Ud x (List.mem_of_getElem? hxj);have WY:Hid (π.Wv y):=TM y (List.mem_of_getElem? hyj);have Qr:(gP g xs ys j)[j]?=Y x:=by exact AO hx hy gu hxj
    have hml:(gP g xs ys j).length=8:=by unfold gP;simp;omega
    have QV:Hid ((gP g xs ys j).set j (g x y)=gP g xs ys (j+1)):=xD hx hy gu hxj hyj;obtain⟨x0,x1⟩:=π.iu (r:=true) Qr;obtain⟨y0,y1⟩:=π.iu (r:=true) hyj;have cx0:=cell_of hq.x _ x0;have cx1:=cell_of hq.x _ x1;have cy0:=cell_of hq.y _ y0;have cy1:=cell_of hq.y _ y1;have yf:(j:Int)<8:=by omega
    clear x0 x1 y0 y1;go_wp2_with fail
    go_region_with ((first | go_at_call 320 | go_at_call 297);go_must (refine(HP.out _ x y hq.b.drew WX.out WY.out).mono ?_);rintro e w1 ⟨rfl,b1⟩;have A1:Hid (dN π w (gP g xs ys j) ys w1):=hq.call (W':=w1) ⟨b1.os,b1.tape,b1.output,b1.size,b1.block⟩;obtain⟨d0,d1,d2,d3⟩:=A1.cells Qr)
    all_goals
     have A2:Hid (dN π w (gP g xs ys (j+1)) ys ((w1.setCell ⟨w.heap.size,1+j*2,M⟩ (I π.kd (g x y).a)).setCell ⟨w.heap.size,1+j*2+1,M⟩ (I π.kd (g x y).b))):=by unfold Hid;rw[<-QV.out];exact A1.set (by omega) (g x y)
     clear b1;go_wp2_with fail;exact⟨⟨j+1,by omega,by go_num,A2⟩,by simp[intOf];omega⟩
   ·obtain rfl:j=8:=by omega
    have A:Hid (dN π w (List.zipWith g xs ys) ys wr):=by unfold Hid;rw[<-xd hx hy];exact hq.out
    have sz:(π.eo true (List.zipWith g xs ys)).size=17:=π.dK (by simp;omega);have hr:Hid (_=_):=ao A.z (d:=π.eo true (List.zipWith g xs ys)) (by rw[sz];rfl);have HB:Hid (ω w _):=aq (b:=w.heap.size+1+1) (by omega) (π.eo true (List.zipWith g xs ys)).toList 0 w _ A.b;clear hq hj gu;go_wp2_with (first
     | (refine bu (π:=π) rfl _ rfl rfl A.x sz ?_)
     | (refine bT (π:=π) rfl _ _ rfl rfl rfl A.z rfl sz (π.lh _ _) ?_))
    refine bodyPost_ret (aM rfl _ _ rfl hr.out sz) rfl ⟨rfl,HB.out⟩
end
end W
end
section
namespace W
variable {δ : Bool}{π : ar δ}
section
variable{w W W':Wd}
variable{wa xa ya d:Array Value}
def ar.yi(π:ar δ)(dv:Value)(bY al narrow ai:Int)(th:Bool)(m:Nat)(f:Option Addr):Array Value :=
 #[σ (π.ix 133 128) dv,I O bY,I O al,I O narrow,I O ai,U th,.map (Y m),ρ f]
structure lM(π:ar δ)(w:Wd)(wa xa ya:Array Value)(W:Wd):Prop where
 o:W.heap[w.heap.size]?=Y (L wa (π.ix 217 200))
 x:W.heap[w.heap.size+1]?=Y (L xa (π.ix 220 203))
 y:W.heap[w.heap.size+1+1]?=Y (L ya (π.ix 220 203))
 z:∃c,c.size=17/\W.heap[w.heap.size+1+1+1]?=Y (L c (π.ix 220 203))
 b:ω w W
theorem lM.call(h:lM π w wa xa ya W)(k:ω W W'):lM π w wa xa ya W' :=
 ⟨(k.block _ (ad h.o)).trans h.o,(k.block _ (ad h.x)).trans h.x,(k.block _ (ad h.y)).trans h.y,h.z.elim (fun c hc=>⟨c,hc.1,(k.block _ (ad hc.2)).trans hc.2⟩),h.b.trans (k.mono h.b.size)⟩
theorem lM.store{d:Array Value}(h:lM π w wa xa ya W)(hd:d.size=17):lM π w wa xa ya (W.setCells (w.heap.size+1+1+1) 0 d.toList)/\(W.setCells (w.heap.size+1+1+1) 0 d.toList).heap[w.heap.size+1+1+1]?=Y (L d (π.ix 220 203)):=by obtain⟨c,hc,hz⟩:=h.z;have h1:=ao hz (d:=d) (by omega);exact⟨⟨(aj _ _ _ _ (by omega)).trans h.o,(aj _ _ _ _ (by omega)).trans h.x,(aj _ _ _ _ (by omega)).trans h.y,⟨d,hd,h1⟩,aq (by omega) _ _ _ _ h.b⟩,h1⟩
theorem Jn{B:Nat}{π:ar δ}(dv:Value)(bY al narrow ai:Int)(th:Bool)(m:Nat)(f:Option Addr)(xs ys:List Sp.Iv)(w:Wd)(hd:fL B π dv w)(hx:xs.length=8)(hy:ys.length=8)(Ud:∀x∈xs,π.Wv x)(TM:∀y∈ys,π.Wv y) :
  Calls prog (π.ix 116 113) #[J (π.yi dv bY al narrow ai th m f),J (π.eo true xs),J (π.eo true ys)] w fun e w'=>e=υ (J (π.eo true (List.zipWith π.da xs ys)))/\ω w w':=by
 cases δ
 all_goals
  dsimp only [ar.ix,ar.kd]at *
  have ZP:=hid hd;have HE:Hid (∀W,ω w W->Calls _ _ _ W _):=fun W b0=>JS dv π.da xs ys W hx hy Ud TM (fun W' x y k wx wy=>VF ((ZP.below (b0.mono ZP.size)).below (k.mono (Nat.le_trans ZP.size b0.size))) wx wy)
  have zx:=π.ij true xs;have zy:=π.ij true ys;have sx:(π.eo true xs).size=17:=π.dK hx;have sy:(π.eo true ys).size=17:=π.dK hy;have H0:Hid (lM π w (π.yi dv bY al narrow ai th m f) (π.eo true xs) (π.eo true ys) ((((w.alloc (L (π.yi dv bY al narrow ai th m f) (π.ix 217 200))).alloc (L (π.eo true xs) (π.ix 220 203))).alloc (L (π.eo true ys) (π.ix 220 203))).alloc (L π.zS (π.ix 220 203)))):=by obtain⟨k0,k1,k2,k3,kb⟩:=bB (w:=w) (o1:=L (π.yi dv bY al narrow ai th m f) (π.ix 217 200)) (o2:=L (π.eo true xs) (π.ix 220 203)) (o3:=L (π.eo true ys) (π.ix 220 203)) (o4:=L π.eS (π.ix 220 203)) (Below.refl _ _);exact⟨k0,k1,k2,⟨_,rfl,k3⟩,kb⟩
  have jR:(π.yi dv bY al narrow ai th m f)[0]?=Y (σ (π.ix 133 128) dv):=rfl;generalize π.yi dv bY al narrow ai th m f=wa at *
  first | go_enter func116,ntmps116 | go_enter func113,ntmps113
  go_wp2_with fail;generalize (((w.alloc (L wa (π.ix 217 200))).alloc (L (π.eo true xs) (π.ix 220 203))).alloc (L (π.eo true ys) (π.ix 220 203))).alloc (L π.zS (π.ix 220 203))=W at *;have HD:Hid (lM π w wa (π.eo true xs) (π.eo true ys) W.drew):=H0.call (Below.refl _ _).drew;have lz:(List.zipWith π.da xs ys).length=8:=by simp;omega
  generalize hzs:List.zipWith π.da xs ys=zs at *;have ZS:=hid hzs;clear hzs;have sz:(π.eo true zs).size=17:=π.dK lz;refine wp_region_held_drew (S:=fun w':Wd=>lM π w wa (π.eo true xs) (π.eo true ys) w') (by kernel_rfl) HD.out (fun aa=>?_);refine mB 0 rfl (π.mv rfl _ rfl _ _ rfl (π.eo true xs) (fun w' h=>aP h.x) sx) aa ?_;refine mB 1 rfl (π.mv rfl _ rfl _ _ rfl (π.eo true ys) (fun w' h=>aP h.y) sy) aa ?_;refine tq 2 (ρ (Y ⟨w.heap.size,0,M⟩)) aa ?_;refine tk 3 (σ (π.ix 133 128) dv) rfl (fun w' h=>by have d0:=cell_of h.o 0 jR;go_simp) aa ?_;refine tq 4 (σ (π.ix 133 128) dv) aa ?_;refine tq 5 (.func (Fn.method "Join") #[σ (π.ix 133 128) dv] #[]) aa ?_;refine bD 6 fun K hK=>?_
  go_simp;refine(HE.out _ HD.b).mono ?_;rintro e w1⟨rfl,b1⟩;go_wp2_with fail;refine hK.out _ _ (HD.call b1) (fun aa=>?_);obtain⟨cz,TT,hz⟩:=aa.z;have gI:=aa.store sz;have HS:=hid gI;have ht:w1.there (w.heap.size+1+1+1) 0 (π.eo true zs).size:=by rw[sz,<-TT];exact bM hz
  have hi3:(prog.info? (π.ix 220 203)).map (·.size)=Y (π.eo true zs).size:=by rw[eh,sz]
  clear hK K gI hz b1;refine bD 7 fun K hK=>?_
  rw[if_pos (by rfl)];refine wp_store_mid _ _ _ rfl _ _ (π.eo true zs) rfl rfl ht hi3 (π.lh true zs) ?_;refine hK.out _ _ HS.1 (fun _=>?_);clear hK K;refine wpAnyH_done (by kernel_rfl) ?_ _;go_wp2_with fail;refine bodyPost_ret (aM rfl _ _ rfl HS.2 sz) rfl ⟨?_,HS.1.b⟩;rw[ZS.out]
theorem Er(wa:Array Value)(xs:List Sp.Iv)(y:Array Value)(w:Wd)(hx:xs.length=8)(hy:y.size=17)(h0:∀h,y[0]'h=U false) :
  Calls prog (π.ix 116 113) #[J wa,J (π.eo true xs),J y] w fun e w'=>e=υ (J (π.eo true xs))/\ω w w':=by
 cases δ
 all_goals
  dsimp only [ar.ix,ar.kd]at *
  have zx:=π.ij true xs;have sx:(π.eo true xs).size=17:=π.dK hx;have H0:Hid (lM π w wa (π.eo true xs) y ((((w.alloc (L wa (π.ix 217 200))).alloc (L (π.eo true xs) (π.ix 220 203))).alloc (L y (π.ix 220 203))).alloc (L π.zS (π.ix 220 203)))):=by obtain⟨k0,k1,k2,k3,kb⟩:=bB (w:=w) (o1:=L wa (π.ix 217 200)) (o2:=L (π.eo true xs) (π.ix 220 203)) (o3:=L y (π.ix 220 203)) (o4:=L π.eS (π.ix 220 203)) (Below.refl _ _);exact⟨k0,k1,k2,⟨_,rfl,k3⟩,kb⟩
  obtain⟨cz,TT,hz⟩:=H0.z;have HZ:=hid hz;have HS:=hid (H0.store sx);clear hz
  first | go_enter func116,ntmps116 | go_enter func113,ntmps113
  go_wp2_with (first
   | (refine bu (π:=π) rfl _ rfl rfl H0.x sx ?_)
   | (refine bT (π:=π) rfl _ _ rfl rfl rfl HZ.out TT sx (π.lh _ _) ?_))
  refine bodyPost_ret (aM rfl _ _ rfl HS.2 sx) rfl ⟨rfl,HS.1.b⟩
def ar.aI(π:ar δ)(s:ST):Array Value:=match s with
 | none=>π.eS
 | some e=>π.eo true (List.ofFn e)
theorem ar.aD(π:ar δ)(s:ST):(π.aI s).size=17:=by
 cases s with
 | none=>rfl
 | some e=>exact π.dK (by simp)
theorem ar.aV(π:ar δ)(s:ST):(π.aI s).all (·.oneCell')=true:=by
 cases s with
 | none=>exact π.lh false (List.replicate 8 ⟨0,0⟩)
 | some e=>exact π.lh _ _
theorem ar.im(π:ar δ)(s:ST)(h:0<(π.aI s).size):(π.aI s)[0]=U s.isSome:=by
 cases s with
 | none=>rfl
 | some e=>rfl
theorem wL(g:Sp.Iv->Sp.Iv->Sp.Iv)(e e':Fin 8->Sp.Iv):List.zipWith g (List.ofFn e) (List.ofFn e')=List.ofFn (fun k=>g (e k) (e' k)):=by
 refine List.ext_getElem? fun i=>?_
 rw[List.getElem?_zipWith,List.getElem?_ofFn,List.getElem?_ofFn,List.getElem?_ofFn];by_cases h:i<8
 ·simp[h]
 ·simp[h]
theorem o0{B:Nat}{π:ar δ}(dv:Value)(bY al narrow ai:Int)(th:Bool)(m:Nat)(f:Option Addr)(s t u:ST)(w:Wd)(hd:fL B π dv w)(hu:Sp.jn (Dm π) s t=u)(hs:Sp.Wf (Kr π) s)(ht:Sp.Wf (Kr π) t) :
  Calls prog (π.ix 116 113) #[J (π.yi dv bY al narrow ai th m f),J (π.aI s),J (π.aI t)] w fun e w'=>e=υ (J (π.aI u))/\ω w w':=by
 subst hu;cases s with
 | none=>exact join_none _ (π.aI M) (π.aI t) w rfl (π.aD t) (π.aV t) (π.im M)
 | some e =>
  cases t with
  | none=>exact Er _ (List.ofFn e) (π.aI M) w (by simp) rfl (π.im M)
  | some e' =>have h:=Jn dv bY al narrow ai th m f (List.ofFn e) (List.ofFn e') w hd (by simp) (by simp) (fun x hx=>by obtain⟨k,rfl⟩:=List.mem_ofFn.1 hx;exact hs _ rfl k) (fun x hx=>by obtain⟨k,rfl⟩:=List.mem_ofFn.1 hx;exact ht _ rfl k);rw[wL]at h;exact h
end
end W
end
section
namespace W
variable {δ : Bool}{π : ar δ}
section
variable{op:Oper}
variable{a:Act}
variable{w w1 w2 w3 w' w0 W:Wd}
variable{b o k q n p:Nat}
variable{c:Array Value}
variable{F F0:Fd}
theorem cj{ops:Array Oper}{rest:List Oper}{Q:Exit->Act->Wd->Prop}(qM:op.guard=M)(x:Operand)(ho:op.op=.load (π.ix 217 200) x)(hx:a.eval x=ρ (Y ⟨b,0,M⟩))(h:Bk w b c (π.ix 217 200))(hc:c.size=8)
  (k:wpList prog ops Q rest (a.put op.dst (J c)) w):wpList prog ops Q (op :: rest) a w:=by
 cases δ
 all_goals
  dsimp only [ar.ix,ar.kd]at *
  refine wpList_load_mid qM (π.ix 217 200) x ho b 0 hx c.toList _ (fun j v hv=>by rw[Nat.zero_add];exact cell_of h j (by simpa using hv)) (by first | exact underlying217 | exact underlying200) rfl (by rw[AB];simp[hc]) ?_;simpa using k
theorem wX{K:Act->Wd->Prop}{Q:Exit->Act->Wd->Prop}(x:Operand)(ho:op.op=.load (π.ix 220 203) x)(hx:a.eval x=ρ (Y ⟨b,o,M⟩))(hr:w.rangeAt b o c.toList)(hc:c.size=17)
  (h:K (a.put op.dst (J c)) w):op.wp prog a w K Q:=by
 cases δ
 all_goals
  dsimp only [ar.ix,ar.kd]at *
  refine wp_load_mid (π.ix 220 203) x ho b o hx c.toList _ hr (by first | exact underlying220 | exact underlying203) rfl (by rw[eh];simp[hc]) ?_;simpa using h
theorem lk{K:Act->Wd->Prop}{Q:Exit->Act->Wd->Prop}(x y:Operand)(ho:op.op=.store (π.ix 220 203) x y)(hx:a.eval x=ρ (Y ⟨b,o,M⟩))(hy:a.eval y=J c)(ht:w.there b o 17)(hc:c.size=17)(h1:c.all (·.oneCell')=true)
  (h:K (a.put op.dst undef) (w.setCells b o c.toList)):op.wp prog a w K Q :=
 wp_store_mid (π.ix 220 203) x y ho b o c hx hy (by rw[hc];exact ht) (by rw[eh,hc]) h1 h
structure Cx where
 base:Nat
 dv:Value
 bY:Int
 al:Nat
 narrow:Nat
 ai:Nat
 th:Bool
 m:Nat
 fb:Nat
 gf:Nat
 gs:Nat
 cf:Nat
 cs:Nat
def Cx.ib(C:Cx):zB:=⟨C.al,C.narrow,C.ai⟩
def ar.wk(π:ar δ)(C:Cx)(b:Bool):Array Value:=π.yi C.dv C.bY C.al C.narrow C.ai C.th C.m (if b then Y ⟨C.fb,0,M⟩ else M)
theorem ar.cy(π:ar δ)(C:Cx)(b:Bool):(π.wk C b).size=8:=rfl
theorem ar.jM(π:ar δ)(C:Cx)(b:Bool):(π.wk C b)[0]?=Y (σ (π.ix 133 128) C.dv):=rfl
theorem ar.Cn(π:ar δ)(C:Cx)(b:Bool):(π.wk C b)[7]?=Y (ρ (if b then Y ⟨C.fb,0,M⟩ else M)):=rfl
theorem ar.Sd(π:ar δ)(C:Cx)(b:Bool):(π.wk C b)[6]?=Y (.map (Y C.m)):=rfl
abbrev eQ:=Int->ST->List bV × ST
def ar.cO(π:ar δ)(fs:List ST):List Value:=fs.flatMap fun s=>(π.aI s).toList
def cF(l:List Nat):List Value:=l.map fun n=>I O ((n:Nat):Int)
def ar.nt(π:ar δ)(p:Int)(s:ST):Array Value:=#[I O p] ++ π.aI s
def ar.kQ(π:ar δ)(t:ST)(told:Bool):Array Value:=(π.aI t).push (U told)
def oT(π:ar δ)(T:eQ)(F:Fd)(x:MapEntry):Prop :=
 ∃p s t told,x.key=.agg (π.nt p s)/\x.val=.agg (π.kQ t told)/\Sp.Wf (Kr π) s/\(0<=p/\p<=1000000)/\(T p s).2=t/\(told=true->iU (Kr π) F (T p s).1)
structure aK(C:Cx)(π:ar δ)(T:eQ)(F:Fd)(w:Wd):Prop where
 BX:w.heap[C.fb]?=Y (L #[Z (Y ⟨C.gf,0,M⟩) F.1.length C.cf,Z (Y ⟨C.gs,0,M⟩) F.2.length C.cs] (π.ix 215 198))
 BK:w.heap[C.gf]?=Y (L (π.cO F.1).toArray (π.ix 220 203))
 vo:w.heap[C.gs]?=Y (L (cF F.2).toArray 3)
 memo:∃es cl,w.heap[C.m]?=Y (.map es cl)/\∀x∈es.toList,oT π T F x
 does:fL C.base π C.dv w
 turns:jD w
 big:11<=C.base
 bfb:C.base<=C.fb
 bgf:C.base<=C.gf
 bgs:C.base<=C.gs
 bm:C.base<=C.m
 wfF:SS (Kr π) F
structure au(C:Cx)(w w':Wd):Prop where
 below:Below C.base w w'
 others:∀k,k<w.heap.size->k≠C.gf->k≠C.gs->k≠C.m->w'.heap[k]?=w.heap[k]?
theorem au.trans{C:Cx}(h:au C w1 w2)(k:au C w2 w3):au C w1 w3 :=
 ⟨h.below.trans k.below,fun i hi h1 h2 h3=>by rw[k.others i (Nat.lt_of_lt_of_le hi h.below.size) h1 h2 h3,h.others i hi h1 h2 h3]⟩
theorem au.aB{C:Cx}(h:ω w w')(hB:C.base<=w.heap.size):au C w w':=⟨h.mono hB,fun k hk _ _ _=>h.block k hk⟩
theorem au.more{C:Cx}(h:au C w w1)(k:ω w1 w2)(hB:C.base<=w.heap.size):au C w w2 :=
 h.trans (au.aB k (Nat.le_trans hB h.below.size))
theorem au.cell{C:Cx}(h:au C w w'){π:ar δ}{T:eQ}(ha:aK C π T F w){e:TypeId}{fz:Nat × Nat}(hk:w.heap[k]?=Y (L c e fz))(h1:k≠C.gf)(h2:k≠C.gs):w'.heap[k]?=Y (L c e fz):=by
 rw[h.others k (ad hk) h1 h2 (fun e'=>?_)]
 ·exact hk
 ·obtain⟨es,cl,hm,_⟩:=ha.memo
  rw[<-e',hk]at hm;cases hm
theorem aK.lt{C:Cx}{π:ar δ}{T:eQ}(h:aK C π T F w):C.fb<w.heap.size/\C.gf<w.heap.size/\C.gs<w.heap.size/\C.m<w.heap.size:=by obtain⟨es,cl,hm,_⟩:=h.memo;exact⟨ad h.BX,ad h.BK,ad h.vo,ad hm⟩
theorem aK.le{C:Cx}{π:ar δ}{T:eQ}(h:aK C π T F w):C.base<=w.heap.size:=by have:=h.lt.1;have:=h.bfb;omega
theorem aK.Hf{C:Cx}{π:ar δ}{T:eQ}(h:aK C π T F w):11<=w.heap.size:=Nat.le_trans h.big h.le
theorem aK.call{C:Cx}{π:ar δ}{T:eQ}(h:aK C π T F w)(k:ω w w'):aK C π T F w':=by have hl:=h.lt;obtain⟨es,cl,hm,hE⟩:=h.memo;exact⟨(k.block _ hl.1).trans h.BX,(k.block _ hl.2.1).trans h.BK,(k.block _ hl.2.2.1).trans h.vo,⟨es,cl,(k.block _ hl.2.2.2).trans hm,hE⟩,h.does.below (k.mono h.le),h.turns.below k h.Hf,h.big,h.bfb,h.bgf,h.bgs,h.bm,h.wfF⟩
def fE(C:Cx)(π:ar δ)(T:eQ)(F:Fd)(b:Bool)(w:Wd)(es:List bV)(u:ST)(e:Ending)(w':Wd):Prop :=
 e=υ (J (π.aI u))/\aK C π T (told π b F es) w'/\au C w w'
theorem xv{π:ar δ}{T:eQ}{x:MapEntry}(h:oT π T F x)(es:List bV):oT π T (Sp.tell (Dm π) F es) x:=by obtain⟨p,s,t,d,h1,h2,h3,h4,h5,h6⟩:=h;exact⟨p,s,t,d,h1,h2,h3,h4,h5,fun hd=>(h6 hd).grow es⟩
theorem aK.ne{C:Cx}{π:ar δ}{T:eQ}(h:aK C π T F w):C.fb≠C.gf/\C.fb≠C.gs/\C.gf≠C.gs/\C.m≠C.gf/\C.m≠C.gs/\C.fb≠C.m:=by
 obtain⟨es,cl,hm,_⟩:=h.memo;have h1:=h.BX;have h2:=h.BK;have h3:=h.vo;refine⟨fun e=>?_,fun e=>?_,fun e=>?_,fun e=>?_,fun e=>?_,fun e=>?_⟩
 ·rw[e,h2]at h1;injection h1 with h1;injection h1 with _ h1 _;exact absurd h1 (by cases δ<;>exact Nat.ne_of_beq_eq_false rfl)
 ·rw[e,h3]at h1;injection h1 with h1;injection h1 with _ h1 _;exact absurd h1 (by cases δ<;>exact Nat.ne_of_beq_eq_false rfl)
 ·rw[e,h3]at h2;injection h2 with h2;injection h2 with _ h2 _;exact absurd h2 (by cases δ<;>exact Nat.ne_of_beq_eq_false rfl)
 ·rw[e,h2]at hm;cases hm
 ·rw[e,h3]at hm;cases hm
 ·rw[e,hm]at h1;cases h1
theorem pY{l:List Nat}{n:Nat}(h:l[q]?=Y n):(cF l).toArray[q]?=Y (I O ((n:Nat):Int)):=by rw[List.getElem?_toArray];unfold cF;rw[List.getElem?_map,h];rfl
theorem aK.site{C:Cx}{π:ar δ}{T:eQ}(h:aK C π T F w)(hq:F.2[q]?=Y n)(bad:Bool) :
  aK C π T (cP (Dm π) F (.site (q:Int) bad)) (w.setCell ⟨C.gs,q,M⟩ (I O ((max n (if bad then 2 else 1):Nat):Int)))/\au C w (w.setCell ⟨C.gs,q,M⟩ (I O ((max n (if bad then 2 else 1):Nat):Int))):=by
 obtain⟨n1,n2,n3,n4,n5,n6⟩:=h.ne;obtain⟨es,cl,hm,hE⟩:=h.memo;have hk:au C w (w.setCell ⟨C.gs,q,M⟩ (I O ((max n (if bad then 2 else 1):Nat):Int))) :=
  ⟨(Below.refl _ _).setCell (p:=⟨C.gs,q,M⟩) h.bgs _,fun k _ _ k2 _=>Below.heap_setCell _ _ _ _ k2⟩
 have ht:cP (Dm π) F (.site (q:Int) bad)=(F.1,F.2.set q (max n (if bad then 2 else 1))):=by show(F.1,F.2.modify (q:Int).toNat _)=_;rw[show((q:Int)).toNat=q by simp,qp hq]
 refine⟨?_,hk⟩;have WU:∀x∈es.toList,oT π T (cP (Dm π) F (.site (q:Int) bad)) x:=fun x hx=>xv (hE x hx) [.site (q:Int) bad]
 have hW:SS (Kr π) (cP (Dm π) F (.site (q:Int) bad)):=zg h.wfF trivial;rw[ht]at WU hW ⊢;refine⟨?_,(Below.heap_setCell _ _ _ _ n3).trans h.BK,?_,⟨es,cl,(Below.heap_setCell _ _ _ _ n5).trans hm,WU⟩,h.does.below hk.below,h.turns.below hk.below h.big,h.big,h.bfb,h.bgf,h.bgs,h.bm,hW⟩
 ·rw[Below.heap_setCell _ _ _ _ n2]
  simp only[List.length_set];exact h.BX
 ·rw[ah h.vo q _]
  congr 2;unfold cF;simp[List.map_set]
theorem ar.dj(π:ar δ)(s:ST):(π.aI s).toList.length=17:=by rw[Array.length_toList];exact π.aD s
theorem aK.ay{C:Cx}{π:ar δ}{T:eQ}(h:aK C π T F w){f u:ST}(hp:F.1[p]?=Y f){e:Fin 8->Sp.Iv}(hu:Sp.jn (Dm π) f (Y e)=u)(he:∀k,(Kr π).wf (e k)) :
  aK C π T (cP (Dm π) F (.ay (p:Int) e)) (w.setCells C.gf (p*17) (π.aI u).toList)/\au C w (w.setCells C.gf (p*17) (π.aI u).toList):=by
 obtain⟨n1,n2,n3,n4,n5,n6⟩:=h.ne;obtain⟨es,cl,hm,hE⟩:=h.memo;have hk:au C w (w.setCells C.gf (p*17) (π.aI u).toList) :=
  ⟨aq h.bgf _ _ _ _ (Below.refl _ _),fun k _ k1 _ _=>aj _ _ _ _ k1⟩
 have J6:p<F.1.length:=(List.getElem?_eq_some_iff.1 hp).1;have ht:cP (Dm π) F (.ay (p:Int) e)=(F.1.set p u,F.2):=by have:=Cl (f:=fun f=>Sp.jn (Dm π) f (Y e)) hp;exact Prod.ext (show F.1.modify ((p:Int)).toNat _=F.1.set p u from by rw[show((p:Int)).toNat=p by simp];exact this.trans (congrArg (F.1.set p) hu)) rfl
 refine⟨?_,hk⟩;have WU:∀x∈es.toList,oT π T (cP (Dm π) F (.ay (p:Int) e)) x:=fun x hx=>xv (hE x hx) [.ay (p:Int) e]
 have hW:SS (Kr π) (cP (Dm π) F (.ay (p:Int) e)):=zg h.wfF he;rw[ht]at WU hW ⊢;refine⟨?_,?_,(aj _ _ _ _ (Ne.symm n3)).trans h.vo,⟨es,cl,(aj _ _ _ _ n4).trans hm,WU⟩,h.does.below hk.below,h.turns.below hk.below h.big,h.big,h.bfb,h.bgf,h.bgs,h.bm,hW⟩
 ·rw[aj _ _ _ _ n1]
  simp only[List.length_set];exact h.BX
 ·obtain⟨c',h1,h2,h3,h4⟩:=fP (π.aI u).toList (p*17) w (π.cO F.1).toArray h.BK (by
   rw[π.dj,List.size_toArray];unfold ar.cO;rw[fw π.dj];have:(p+1)*17<=F.1.length*17:=Nat.mul_le_mul_right _ J6;omega)
  rw[h1];have e:c'=(π.cO (F.1.set p u)).toArray:=by
   refine Array.ext_getElem? fun i=>?_
   have e2:(π.cO (F.1.set p u)).toArray[i]?=((F.1.set p u).flatMap fun s=>(π.aI s).toList)[i]?:=List.getElem?_toArray;rw[e2];rw[pq π.dj F.1 p u i J6];by_cases hi:p*17<=i/\i<p*17+17
   ·rw[if_pos hi]
    have:=h3 (i - p*17) (by rw[π.dj];omega);rw[show p*17+(i - p*17)=i by omega]at this;exact this
   ·rw[if_neg hi,h4 i (by rw[π.dj];omega),List.getElem?_toArray]
    rfl
  rw[e]
theorem aK.fact{C:Cx}{π:ar δ}{T:eQ}(h:aK C π T F w){f:ST}(hp:F.1[p]?=Y f):w.rangeAt C.gf (p*17) (π.aI f).toList:=by
 intro j v hv;have hj:j<17:=by have:=(List.getElem?_eq_some_iff.1 hv).1;rw[π.dj]at this;exact this
 refine cell_of h.BK _ ?_;rw[List.getElem?_toArray];show(F.1.flatMap fun s=>(π.aI s).toList)[p*17+j]?=Y v;rw[gX π.dj F.1 p f j hp hj];exact hv
theorem aK.Ja{C:Cx}{π:ar δ}{T:eQ}(h:aK C π T F w)(hp:p<F.1.length):w.there C.gf (p*17) 17:=by
 intro j hj;refine⟨?_,aw h.BK _⟩;have hl:p*17+j<(π.cO F.1).toArray.size:=by rw[List.size_toArray];unfold ar.cO;rw[fw π.dj];have:(p+1)*17<=F.1.length*17:=Nat.mul_le_mul_right _ hp;omega
 rw[cell_of h.BK _ (Array.getElem?_eq_getElem hl)];rfl
theorem aK.upon{C:Cx}{π:ar δ}{T:eQ}(h0:aK C π T F0 w0)(h:aK C π T F w)(k:Below w0.heap.size w W):aK C π T F W:=by have hl:=h0.lt;obtain⟨es,cl,hm,hE⟩:=h.memo;exact⟨(k.block _ hl.1).trans h.BX,(k.block _ hl.2.1).trans h.BK,(k.block _ hl.2.2.1).trans h.vo,⟨es,cl,(k.block _ hl.2.2.2).trans hm,hE⟩,h.does.below (k.mono h0.le),h.turns.below k h0.Hf,h.big,h.bfb,h.bgf,h.bgs,h.bm,h.wfF⟩
theorem au.upon{C:Cx}{π:ar δ}{T:eQ}(h0:aK C π T F0 w0)(h:au C w0 w)(k:Below w0.heap.size w W):au C w0 W :=
 ⟨h.below.trans (k.mono h0.le),fun i hi h1 h2 h3=>(k.block i hi).trans (h.others i hi h1 h2 h3)⟩
theorem au.aU{C:Cx}{π:ar δ}{T:eQ}(h0:aK C π T F0 w0)(h:au C w W)(hk:w0.heap.size<=k){o:Obj}(ho:w.heap[k]?=Y o):W.heap[k]?=Y o:=by
 have hl:=h0.lt;have cR:k<w.heap.size:=by
  rcases Nat.lt_or_ge k w.heap.size with h | h
  ·exact h
  ·rw[Array.getElem?_eq_none h]at ho;cases ho
 rw[h.others k cR (by omega) (by omega) (by omega)];exact ho
end
end W
end
section
namespace W
variable {δ : Bool}{π : ar δ}
theorem bL{w:Wd}{k j:Nat}{o:Obj}(dF:j≠k)(h:w.heap[j]?=Y o)(u v:Value):((w.setCell ⟨k,0,M⟩ u).setCell ⟨k,1,M⟩ v).heap[j]?=Y o:=by rw[Below.heap_setCell _ _ _ _ (show j≠(⟨k,1,M⟩:Addr).block from dF),Below.heap_setCell _ _ _ _ (show j≠(⟨k,0,M⟩:Addr).block from dF)];exact h
def gJ(C:Cx)(π:ar δ)(T:eQ)(F:Fd)(b:Bool)(w:Wd)(es:List bV)(o:Option Sp.Iv)(r:Ending)(w':Wd):Prop :=
 r=υ (π.sF o)/\aK C π T (told π b F es) w'/\au C w w'
def nQ(_:ar δ)(v:Value)(x:Sp.Sm)(ct:Sp.Ct):Prop :=
 ∀(C:Cx) (π:ar δ) (T:eQ) (F:Fd) (b:Bool) (w:Wd) (e:Fin 8->Sp.Iv),aK C π T F w->(∀k,π.Wv (e k))->cV b F (Sp.dt (Dm π) x ct e).1 ->
  Calls prog (π.ix 197 193) #[J (π.wk C b),v,J (π.aI (Y e))] w (gJ C π T F b w (Sp.dt (Dm π) x ct e).1 (Sp.dt (Dm π) x ct e).2)
theorem SY(n:Nat)(ct:Sp.Ct)(hn:n<=32767):nQ π (σ 226 (I ψ n)) (.num n) ct:=by
 cases δ
 all_goals
  try dsimp only [ar.ix,ar.kd]at *
  intro C π T F b w e h he hr;have h1:=FW (I ψ n);show Calls _ _ _ w (gJ C π T F b w [] (Y (π.gz n)));have jR:=π.jM C b;generalize π.wk C b=wa at *;generalize π.aI (Y e)=xa at *;obtain⟨k0,k1,k2,kb⟩:=cH (w:=w) (o1:=L wa (π.ix 217 200)) (o2:=L xa (π.ix 220 203)) (o3:=L #[I π.kd 0,I π.kd 0] (π.ix 131 126)) (Below.refl _ _);have d0:=cell_of k0 0 jR;have HN:=Hx ((h.does.below (kb.mono h.le))) (n:Int) (by omega) (by omega);have HB:=hid kb;have HZ:=hid k2;have HA:=hid h;clear h k0 k1 k2 kb hr;try dsimp only [ar.ix,ar.kd]
  first | go_enter func197,ntmps197 | go_enter func193,ntmps193
  go_wp2_with fail;refine HN.mono ?_;rintro r w1⟨rfl,b1⟩;have jm:=(b1.block _ (ad HZ.out)).trans HZ.out;obtain⟨m0,m1,nL,nK,mq⟩:=aR jm;have MQ:=hid (mq (I π.kd (π.gz (n:Int)).a) (I π.kd (π.gz (n:Int)).b));have B1:Hid (ω w w1):=HB.trans (b1.mono HB.size);clear mq b1 jm;go_wp2_with fail;refine bodyPost_ret (v:=φ #[J #[I π.kd (π.gz (n:Int)).a,I π.kd (π.gz (n:Int)).b],U true]) (by simp[results,results197,results193,go_sem,MQ.1,MQ.2]) rfl ?_;have B2:=(B1.setCell (p:=⟨w.heap.size+1+1,0,M⟩) (by show w.heap.size<=w.heap.size+1+1;omega) (I π.kd (π.gz (n:Int)).a)).setCell (p:=⟨w.heap.size+1+1,1,M⟩) (by show w.heap.size<=w.heap.size+1+1;omega) (I π.kd (π.gz (n:Int)).b);exact⟨rfl,by rw[dV];exact HA.call B2,au.aB B2 HA.le⟩
theorem ar.u9(π:ar δ)(e:Fin 8->Sp.Iv)(k:Fin 8):(π.aI (Y e))[1+k.val*2]?=Y (I π.kd (e k).a)/\(π.aI (Y e))[1+k.val*2+1]?=Y (I π.kd (e k).b) :=
 π.iu (r:=true) (l:=List.ofFn e) (j:=k.val) (v:=e k) (by rw[List.getElem?_ofFn];simp)
theorem O0(k:Nat)(hk:k<8)(ct:Sp.Ct):nQ π (σ 275 (I O k)) (.name k) ct:=by
 cases δ
 all_goals
  try dsimp only [ar.ix,ar.kd]at *
  intro C π T F b w e h he hr;have h1:=CY (I O k);have h2:=nk (I O k);have hg:oE (Dm π) e k=e ⟨k,hk⟩:=dif_pos hk;show Calls _ _ _ w (gJ C π T F b w [] (Y (oE (Dm π) e k)));rw[hg];have uG:(k:Int)<8:=by omega
  obtain⟨x0,x1⟩:=π.u9 e ⟨k,hk⟩;generalize e ⟨k,hk⟩=v at *;generalize π.wk C b=wa at *;generalize π.aI (Y e)=xa at *;obtain⟨k0,k1,k2,kb⟩:=cH (w:=w) (o1:=L wa (π.ix 217 200)) (o2:=L xa (π.ix 220 203)) (o3:=L #[I π.kd 0,I π.kd 0] (π.ix 131 126)) (Below.refl _ _);have d0:=cell_of k1 _ x0;have d1:=cell_of k1 _ x1;obtain⟨_,_,_,Kx⟩:=cH (w:=w) (o1:=L wa (π.ix 217 200)) (o2:=L xa (π.ix 220 203)) (o3:=L #[I π.kd v.a,I π.kd v.b] (π.ix 131 126)) (Below.refl _ _);have HB:=hid Kx;have HA:=hid h;clear h k0 k1 k2 kb Kx hr hg he x0 x1;simp only at d0 d1;try dsimp only [ar.ix,ar.kd]
  first | go_enter func197,ntmps197 | go_enter func193,ntmps193
  go_wp2_with fail;refine bodyPost_ret (v:=φ #[J #[I π.kd v.a,I π.kd v.b],U true]) (by simp[results,results197,results193,go_sem]) rfl ?_;exact⟨rfl,by rw[dV];exact HA.call HB.out,au.aB HB.out HA.le⟩
end W
end
end Go.Proofs.YtiopfihjmkfdmaaGreatDoor
