import Derived.Test.YtiopfihjmkfdmaaGreatDoorB12
import Derived.Deep.MidRow
import Derived.Deep.Upon
namespace Go.Proofs.YtiopfihjmkfdmaaGreatDoor
open Go.Proofs.Tryz Sp
open Go.RowKit
set_option maxRecDepth 100000
set_option maxHeartbeats 16000000
section
section
variable {α β : Type}{f : α->List β}{k : Nat}
theorem fw(hk:∀a,(f a).length=k):∀l:List α,(l.flatMap f).length=l.length*k
 | []=>by simp
 | a :: l=>by rw[List.flatMap_cons,List.length_append,hk,fw hk l,List.length_cons,Nat.add_mul,Nat.one_mul,Nat.add_comm]
theorem gX(hk:∀a,(f a).length=k):∀(l:List α) (p:Nat) (a:α) (j:Nat),l[p]?=some a->j<k->(l.flatMap f)[p*k+j]?=(f a)[j]?
 | [],_,_,_,h,_=>by simp at h
 | b :: l,0,a,j,h,hj=>by
  have:b=a:=by simpa using h
  subst this;rw[List.flatMap_cons,Nat.zero_mul,Nat.zero_add,List.getElem?_append_left (by rw[hk];exact hj)]
 | b :: l,p+1,a,j,h,hj=>by rw[List.flatMap_cons,List.getElem?_append_right (by rw[hk,Nat.add_mul];omega),hk,show(p+1)*k+j - k=p*k+j by rw[Nat.add_mul];omega];exact gX hk l p a j (by simpa using h) hj
theorem pq(hk:∀a,(f a).length=k):∀(l:List α) (p:Nat) (a:α) (i:Nat),p<l.length->((l.set p a).flatMap f)[i]?=if p*k<=i/\i<p*k+k then(f a)[i - p*k]? else(l.flatMap f)[i]?
 | [],_,_,_,h=>by simp at h
 | b :: l,0,a,i,_=>by
  rw[List.set_cons_zero,List.flatMap_cons,List.flatMap_cons,Nat.zero_mul,Nat.zero_add,Nat.sub_zero];by_cases hi:i<k
  ·rw[if_pos ⟨Nat.zero_le _,hi⟩,List.getElem?_append_left (by rw[hk];exact hi)]
  ·rw[if_neg (by omega),List.getElem?_append_right (by rw[hk];omega),List.getElem?_append_right (by rw[hk];omega),hk,hk]
 | b :: l,p+1,a,i,h=>by
  rw[List.set_cons_succ,List.flatMap_cons,List.flatMap_cons];by_cases hi:i<k
  ·rw[List.getElem?_append_left (by rw[hk];exact hi),List.getElem?_append_left (by rw[hk];exact hi),if_neg (by rw[Nat.add_mul];omega)]
  ·rw[List.getElem?_append_right (by rw[hk];omega),List.getElem?_append_right (by rw[hk];omega),hk,pq hk l p a (i - k) (by simpa using h)]
   by_cases hc:p*k<=i - k/\i - k<p*k+k
   ·rw[if_pos hc,if_pos (by rw[Nat.add_mul];omega),show i - (p+1)*k=i - k - p*k by rw[Nat.add_mul];omega]
   ·rw[if_neg hc,if_neg (by rw[Nat.add_mul];omega)]
end
end
section
theorem bT.{u}:(∀{α:Type u} (xs:List α) (i:Nat) (h:i<xs.toArray.size),xs.toArray[i]=xs[i]'(by simpa using h))/\(∀{α:Type u} (a:α) (l:List α) (i:Nat) (h:i+1<(a :: l).length),(a :: l)[i+1]=l[i]'(Nat.lt_of_succ_lt_succ h))/\(∀{α:Type u} (a:α) (l:List α) (h:0<(a :: l).length),(a :: l)[0]=a) :=
 ⟨fun _ _ _=>List.getElem_toArray _,fun _ _ _ _=>rfl,fun _ _ _=>rfl⟩
theorem gN.{u}:(∀{α:Type u} (l:List α) (i:Nat) (a:α),l.toArray.setIfInBounds i a=(l.set i a).toArray)/\(∀{α:Type u} (x:α) (xs:List α) (n:Nat) (a:α),(x :: xs).set (n+1) a=x :: xs.set n a)/\(∀{α:Type u} (x:α) (xs:List α) (a:α),(x :: xs).set 0 a=a :: xs) :=
 ⟨fun _ _ _=>List.setIfInBounds_toArray _ _ _,fun _ _ _ _=>rfl,fun _ _ _=>rfl⟩
section
variable {P : Program}{ops : Array Oper}{Q : Exit->Act->Wd->Prop}{md : Region.Mode}{S : Wd->Prop}{fuel : Nat}{listed : Array Bool}{a : Act}{w : Wd}
section
variable{o p r oi:Oper}
variable{a':Act}
theorem cH(i:Nat)(h:∀K':Act->Wd->Prop,Shut (∀a w,S w->(S w->wpAnyH P md ops Q S fuel (listed.setIfInBounds i true) a w)->K' a w)->if Region.wanted o (yielded ops a.tmps)=true then Oper.wp P o a w K' Q else K' (a.put o.dst undef) w)
  (hr:Region.ready md ops listed=[i]:=by kernel_rfl) (ho:ops[i]?=some o:=by rfl):wpAnyH P md ops Q S (fuel+1) listed a w :=
 wpAnyH_ready hr (by simp) (AllReadyH.cons ho h AllReadyH.nil)
theorem Kn(i j:Nat)(h:∀K':Act->Wd->Prop,Shut (∀a w,S w->(S w->wpAnyH P md ops Q S fuel (listed.setIfInBounds i true) a w)->K' a w)->if Region.wanted o (yielded ops a.tmps)=true then Oper.wp P o a w K' Q else K' (a.put o.dst undef) w)
  (h':∀K':Act->Wd->Prop,Shut (∀a w,S w->(S w->wpAnyH P md ops Q S fuel (listed.setIfInBounds j true) a w)->K' a w)->if Region.wanted p (yielded ops a.tmps)=true then Oper.wp P p a w K' Q else K' (a.put p.dst undef) w)
  (hr:Region.ready md ops listed=[i,j]:=by kernel_rfl) (ho:ops[i]?=some o:=by rfl) (hp:ops[j]?=some p:=by rfl):wpAnyH P md ops Q S (fuel+1) listed a w :=
 wpAnyH_ready hr (by simp) (AllReadyH.cons ho h (AllReadyH.cons hp h' AllReadyH.nil))
theorem UN(i j k:Nat)(h:∀K':Act->Wd->Prop,Shut (∀a w,S w->(S w->wpAnyH P md ops Q S fuel (listed.setIfInBounds i true) a w)->K' a w)->if Region.wanted o (yielded ops a.tmps)=true then Oper.wp P o a w K' Q else K' (a.put o.dst undef) w)
  (h':∀K':Act->Wd->Prop,Shut (∀a w,S w->(S w->wpAnyH P md ops Q S fuel (listed.setIfInBounds j true) a w)->K' a w)->if Region.wanted p (yielded ops a.tmps)=true then Oper.wp P p a w K' Q else K' (a.put p.dst undef) w)
  (h2:∀K':Act->Wd->Prop,Shut (∀a w,S w->(S w->wpAnyH P md ops Q S fuel (listed.setIfInBounds k true) a w)->K' a w)->if Region.wanted r (yielded ops a.tmps)=true then Oper.wp P r a w K' Q else K' (a.put r.dst undef) w)
  (hr:Region.ready md ops listed=[i,j,k]:=by kernel_rfl) (ho:ops[i]?=some o:=by rfl) (hp:ops[j]?=some p:=by rfl) (hq:ops[k]?=some r:=by rfl):wpAnyH P md ops Q S (fuel+1) listed a w :=
 wpAnyH_ready hr (by simp) (AllReadyH.cons ho h (AllReadyH.cons hp h' (AllReadyH.cons hq h2 AllReadyH.nil)))
theorem rd4(i j k l:Nat){s:Oper}(h:∀K':Act->Wd->Prop,Shut (∀a w,S w->(S w->wpAnyH P md ops Q S fuel (listed.setIfInBounds i true) a w)->K' a w)->if Region.wanted o (yielded ops a.tmps)=true then Oper.wp P o a w K' Q else K' (a.put o.dst undef) w)
  (h':∀K':Act->Wd->Prop,Shut (∀a w,S w->(S w->wpAnyH P md ops Q S fuel (listed.setIfInBounds j true) a w)->K' a w)->if Region.wanted p (yielded ops a.tmps)=true then Oper.wp P p a w K' Q else K' (a.put p.dst undef) w)
  (h2:∀K':Act->Wd->Prop,Shut (∀a w,S w->(S w->wpAnyH P md ops Q S fuel (listed.setIfInBounds k true) a w)->K' a w)->if Region.wanted r (yielded ops a.tmps)=true then Oper.wp P r a w K' Q else K' (a.put r.dst undef) w)
  (h3:∀K':Act->Wd->Prop,Shut (∀a w,S w->(S w->wpAnyH P md ops Q S fuel (listed.setIfInBounds l true) a w)->K' a w)->if Region.wanted s (yielded ops a.tmps)=true then Oper.wp P s a w K' Q else K' (a.put s.dst undef) w)
  (hr:Region.ready md ops listed=[i,j,k,l]:=by kernel_rfl) (ho:ops[i]?=some o:=by rfl) (hp:ops[j]?=some p:=by rfl) (hq:ops[k]?=some r:=by rfl) (hs:ops[l]?=some s:=by rfl):wpAnyH P md ops Q S (fuel+1) listed a w :=
 wpAnyH_ready hr (by simp) (AllReadyH.cons ho h (AllReadyH.cons hp h' (AllReadyH.cons hq h2 (AllReadyH.cons hs h3 AllReadyH.nil))))
theorem mj(i:Nat){v:Value}(hi:ops[i]?=some oi)(hy:YieldsIf P ops S oi v a)(hS:S w)(h:wpAnyH P md ops Q S fuel (listed.setIfInBounds i true) a' w)
 (hs:Region.noSelect ops=true:=by kernel_rfl) (hf:Region.free md ops listed i=true:=by kernel_rfl) (hr:(Region.ready md ops listed).contains i=true:=by kernel_rfl) (hQ:∀c a w,Q (.panic c) (a.put oi.dst v) w→Q (.panic c) a w:=by exact fun _ _ _ h=>h) (ha:a.put oi.dst v=a':=by simp only[Act.put];rfl):wpAnyH P md ops Q S (fuel+1) listed a w :=
 wpAnyH_take hi hs hf hr hQ hy hS (ha ▸ h)
theorem tk(i:Nat)(v:Value)(hi:ops[i]?=some oi)(hy:∀w,S w→(execOp a.eval oi).run P w=.ok (.value v) w)(hS:S w)(h:wpAnyH P md ops Q S fuel (listed.setIfInBounds i true) a' w)
 (hw:Region.wanted oi (yielded ops a.tmps)=true:=by rfl) (hs:Region.noSelect ops=true:=by kernel_rfl) (hf:Region.free md ops listed i=true:=by kernel_rfl) (hr:(Region.ready md ops listed).contains i=true:=by kernel_rfl) (hQ:∀c a w,Q (.panic c) (a.put oi.dst v) w→Q (.panic c) a w:=by exact fun _ _ _ h=>h) (ha:a.put oi.dst v=a':=by simp only[Act.put];rfl):wpAnyH P md ops Q S (fuel+1) listed a w :=
 wpAnyH_take hi hs hf hr hQ (.inl ⟨hw,hy⟩) hS (ha ▸ h)
theorem tq(i:Nat)(v:Value)(hS:S w)(h:wpAnyH P md ops Q S fuel (listed.setIfInBounds i true) a' w)(hi:ops[i]?=some oi:=by rfl)(hy:∀w,S w→(execOp a.eval oi).run P w=.ok (.value v) w:=by intro _ _;go_simp)
 (hw:Region.wanted oi (yielded ops a.tmps)=true:=by rfl) (hs:Region.noSelect ops=true:=by kernel_rfl) (hf:Region.free md ops listed i=true:=by kernel_rfl) (hr:(Region.ready md ops listed).contains i=true:=by kernel_rfl) (hQ:∀c a w,Q (.panic c) (a.put oi.dst v) w→Q (.panic c) a w:=by exact fun _ _ _ h=>h) (ha:a.put oi.dst v=a':=by simp only[Act.put];rfl):wpAnyH P md ops Q S (fuel+1) listed a w :=
 wpAnyH_take hi hs hf hr hQ (.inl ⟨hw,hy⟩) hS (ha ▸ h)
end
end
end
namespace WI
section
variable{B k r:Nat}
variable{dv:Value}
variable{w w':Wd}
variable{x y:Sp.Iv}
abbrev bO:=List Int
abbrev ST:=Option (Fin 8->Sp.Iv)
abbrev Dm(π:bO):pO:=oN π
abbrev Kr(π:bO):Sp.Rk (Dm π):=SR π
theorem abs(π:bO):Sp.Ab (Kr π):=YV π
abbrev Wv(x:Sp.Iv):Prop:=jO x
def mU(n:Int):Sp.Iv:=⟨n,n⟩
def oy:Sp.Iv:=eF
def qi(x:Sp.Iv):Sp.Iv:=cJ (-x.b) (-x.a)
def BH:Nat->Sp.Iv->Sp.Iv->Option Sp.Iv:=cp
def uK(x:Sp.Iv):Bool:=decide (x.a<=0) && decide (0<=x.b)
def dF(x y:Sp.Iv):Sp.Iv:=⟨min x.a y.a,max x.b y.b⟩
def Oy:Nat->Sp.Iv->Sp.Iv->Bool:=cT
def sD:Nat->Sp.Iv->Sp.Iv->Option Sp.Iv:=dy
def EU(π:bO):Sp.Iv->Sp.Iv->Sp.Iv:=bK π
def zU:Sp.Iv->Sp.Iv->Sp.Iv:=dG
def nL(x:Sp.Iv):Int × Int:=(x.a,x.b)
def ub:Option Sp.Iv->Value
 | some x=>.tuple #[.agg #[.int .i16 x.a,.int .i16 x.b],.bool true]
 | none=>.tuple #[.agg #[.int .i16 0,.int .i16 0],.bool false]
theorem L3(o:Option Sp.Iv):dN o=ub o:=by cases o<;>rfl
def fG(B:Nat)(π:bO)(dv:Value)(w:Wd):Prop :=
 B<=w.heap.size/\∃g off cap,dv=.agg #[.slice (some ⟨g,off,none⟩) π.length cap]/\g<B/\(π.length:Int)<=1000000/\∀i x,π[i]?=some x->w.cell? ⟨g,off+i,none⟩=some (.int .i16 x)
theorem fG.below{π:bO}(h:fG B π dv w)(hb:Below B w w'):fG B π dv w':=by obtain⟨h0,g,off,cap,rfl,hg,hl,hc⟩:=h;exact⟨Nat.le_trans h0 hb.size,g,off,cap,rfl,hg,hl,fun i x hx=>by rw[hb.cell (p:=⟨g,off+i,none⟩) hg];exact hc i x hx⟩
theorem fG.at{π:bO}(h:fG B π dv w):∃u,dv=.agg #[u]/\o0 w u π:=by obtain⟨h0,g,off,cap,rfl,hg,hl,hc⟩:=h;exact⟨_,rfl,g,off,cap,rfl,Nat.lt_of_lt_of_le hg h0,hl,hc⟩
theorem fG.size{π:bO}(h:fG B π dv w):B<=w.heap.size:=h.1
theorem Gq{π:bO}(h:fG B π dv w)(n:Int) :
  Calls prog 324 #[dv,.int .i16 n] w fun e w'=>e=.returned (.agg #[.int .i16 (mU n).a,.int .i16 (mU n).b])/\Below w.heap.size w w':=by
 obtain⟨u,rfl,_⟩:=h.at;exact Iq u n w
theorem RU{π:bO}(h:fG B π dv w) :
  Calls prog 326 #[dv] w fun e w'=>e=.returned (.agg #[.int .i16 oy.a,.int .i16 oy.b])/\Below w.heap.size w w':=by
 obtain⟨u,rfl,_⟩:=h.at;exact Mp u w
theorem PV{π:bO}(h:fG B π dv w)(hx:Wv x) :
  Calls prog 323 #[dv,.agg #[.int .i16 x.a,.int .i16 x.b]] w fun e w'=>e=.returned (.agg #[.int .i16 (qi x).a,.int .i16 (qi x).b])/\Below w.heap.size w w':=by
 obtain⟨u,rfl,_⟩:=h.at;exact IC u x.a x.b w hx.1 hx.2.1 hx.2.2
theorem Qy{π:bO}(h:fG B π dv w)(hk:k<5)(hx:Wv x)(hy:Wv y) :
  Calls prog 328 #[dv,.int .i64 (k:Nat),.agg #[.int .i16 x.a,.int .i16 x.b],.agg #[.int .i16 y.a,.int .i16 y.b]] w fun e w'=>e=.returned (ub (BH k x y))/\Below w.heap.size w w':=by
 obtain⟨u,rfl,_⟩:=h.at;have:=OB u k hk x.a x.b y.a y.b w hx.1 hx.2.1 hx.2.2 hy.1 hy.2.1 hy.2.2;rw[L3]at this;exact this
theorem Ot{π:bO}(h:fG B π dv w)(x:Sp.Iv) :
  Calls prog 319 #[dv,.agg #[.int .i16 x.a,.int .i16 x.b]] w fun e w'=>e=.returned (.bool (uK x))/\Below w.heap.size w w':=by
 obtain⟨u,rfl,_⟩:=h.at;exact Ix u x.a x.b w
theorem U4{π:bO}(h:fG B π dv w)(_:Wv x)(_:Wv y) :
  Calls prog 320 #[dv,.agg #[.int .i16 x.a,.int .i16 x.b],.agg #[.int .i16 y.a,.int .i16 y.b]] w fun e w'=>e=.returned (.agg #[.int .i16 (dF x y).a,.int .i16 (dF x y).b])/\Below w.heap.size w w':=by
 obtain⟨u,rfl,_⟩:=h.at;exact PX u x.a x.b y.a y.b w
theorem U8{π:bO}(h:fG B π dv w)(hT:gw w)(hs:11<=w.heap.size)(hr:r<6)(_:Wv x)(_:Wv y) :
  Calls prog 321 #[dv,.int .i64 (r:Nat),.agg #[.int .i16 x.a,.int .i16 x.b],.agg #[.int .i16 y.a,.int .i16 y.b]] w fun e w'=>e=.returned (.bool (Oy r x y))/\Below w.heap.size w w':=by
 obtain⟨u,rfl,_⟩:=h.at;exact Ru u r hr x.a x.b y.a y.b w hT hs
theorem Sg{π:bO}(h:fG B π dv w)(hr:r<6)(_:Wv x)(hy:Wv y) :
  Calls prog 318 #[dv,.int .i64 (r:Nat),.agg #[.int .i16 x.a,.int .i16 x.b],.agg #[.int .i16 y.a,.int .i16 y.b]] w fun e w'=>e=.returned (ub (sD r x y))/\Below w.heap.size w w':=by
 obtain⟨u,rfl,_⟩:=h.at;have:=L5 u r hr x.a x.b y.a y.b w hy.1 (Int.le_trans hy.2.1 hy.2.2) (Int.le_trans hy.1 hy.2.1) hy.2.2;rw[L3]at this;exact this
theorem Su{π:bO}(h:fG B π dv w)(_:Wv x)(_:Wv y) :
  Calls prog 327 #[dv,.agg #[.int .i16 x.a,.int .i16 x.b],.agg #[.int .i16 y.a,.int .i16 y.b]] w fun e w'=>e=.returned (.agg #[.int .i16 (EU π x y).a,.int .i16 (EU π x y).b])/\Below w.heap.size w w':=by
 obtain⟨u,rfl,hs⟩:=h.at;exact MS u π x.a x.b y.a y.b w hs
theorem Om{π:bO}(h:fG B π dv w)(_:Wv x)(_:Wv y) :
  Calls prog 322 #[dv,.agg #[.int .i16 x.a,.int .i16 x.b],.agg #[.int .i16 y.a,.int .i16 y.b]] w fun e w'=>e=.returned (.agg #[.int .i16 (zU x y).a,.int .i16 (zU x y).b])/\Below w.heap.size w w':=by
 obtain⟨u,rfl,_⟩:=h.at;exact Ib u x.a x.b y.a y.b w
theorem Vk{π:bO}(h:fG B π dv w)(hx:Wv x) :
  Calls prog 325 #[dv,.agg #[.int .i16 x.a,.int .i16 x.b]] w fun e w'=>e=.returned (.agg #[.int .i64 (nL x).1,.int .i64 (nL x).2])/\Below w.heap.size w w':=by
 obtain⟨u,rfl,_⟩:=h.at;exact Pb u x.a x.b w hx.1 (Int.le_trans hx.2.1 hx.2.2) (Int.le_trans hx.1 hx.2.1) hx.2.2
end
end WI
section
section
variable{b B:Nat}
variable{fr:Nat × Nat}
theorem ga{t:TypeId}:∀(vs:List Value) (o:Nat) (w:Wd) (c:Array Value),w.heap[b]?=some (.cells c t fr)->o+vs.length<=c.size ->
  ∃c',(w.setCells b o vs).heap[b]?=some (.cells c' t fr)/\c'.size=c.size/\(∀j,j<vs.length->c'[o+j]?=vs[j]?)/\∀i,i<o∨o+vs.length<=i->c'[i]?=c[i]?
 | [],o,w,c,h,_=>⟨c,h,rfl,fun j hj=>by simp at hj,fun _ _=>rfl⟩
 | v :: vs,o,w,c,h,hs=>by
  simp only[List.length_cons]at hs;obtain⟨c',h1,h2,h3,h4⟩:=ga vs (o+1) (w.setCell ⟨b,o,none⟩ v) (c.setIfInBounds o v) (ai h o v) (by simp;omega);refine⟨c',h1,by rw[h2];simp,fun j hj=>?_,fun i hi=>?_⟩
  ·cases j with
   | zero =>rw[Nat.add_zero,h4 o (.inl (Nat.lt_succ_self _))];simp[Array.getElem?_setIfInBounds];omega
   | succ j =>have:=h3 j (by simp at hj;omega);rw[show o+(j+1)=o+1+j by omega,this];simp
  ·rw[h4 i (by simp only[List.length_cons]at hi;omega),Array.getElem?_setIfInBounds]
   rw[if_neg (by simp only[List.length_cons]at hi;omega)]
theorem ar{w:Wd}{c d:Array Value}{t:TypeId}(h:w.heap[b]?=some (.cells c t fr))(hs:d.size=c.size):(w.setCells b 0 d.toList).heap[b]?=some (.cells d t fr):=by
 obtain⟨c',h1,h2,h3,_⟩:=ga d.toList 0 w c h (by simp;omega);rw[h1];congr 2;refine Array.ext_getElem? fun i=>?_
 by_cases hi:i<d.size
 ·have:=h3 i (by simpa using hi)
  rw[Nat.zero_add]at this;rw[this];simp
 ·rw[Array.getElem?_eq_none (by omega),Array.getElem?_eq_none (by omega)]
theorem au(hb:B<=b):∀(vs:List Value) (o:Nat) (w0 w:Wd),Below B w0 w->Below B w0 (w.setCells b o vs)
 | [],_,_,_,h=>h
 | v :: vs,o,w0,_,h=>au hb vs (o+1) w0 _ (h.setCell (p:=⟨b,o,none⟩) hb v)
theorem al:∀(vs:List Value) (o:Nat) (w:Wd) (k:Nat),k≠b->(w.setCells b o vs).heap[k]?=w.heap[k]?
 | [],_,_,_,_=>rfl
 | v :: vs,o,w,k,hk=>by show((w.setCell ⟨b,o,none⟩ v).setCells b (o+1) vs).heap[k]?=_;rw[al vs (o+1) _ k hk,Below.heap_setCell _ _ _ _ hk]
end
section
variable {V : Type}(c0 c1 : V->Value)
section
variable{r:Bool}
def flat(l:List V):List Value:=l.flatMap fun v=>[c0 v,c1 v]
theorem sr(v:V)(l:List V):flat c0 c1 (v :: l)=c0 v :: c1 v :: flat c0 c1 l:=rfl
theorem BN(l:List V):(flat c0 c1 l).length=2*l.length:=by
 induction l with
 | nil=>rfl
 | cons v l ih=>rw[sr];simp only[List.length_cons,ih];omega
theorem vR:∀(l:List V) (j:Nat) (v:V),l[j]?=some v->(flat c0 c1 l)[j*2]?=some (c0 v)/\(flat c0 c1 l)[j*2+1]?=some (c1 v)
 | [],_,_,h=>by simp at h
 | u :: l,0,v,h=>by simp at h;subst h;exact⟨rfl,rfl⟩
 | u :: l,j+1,v,h=>by have:=vR l j v (by simpa using h);rw[sr,show(j+1)*2=j*2+2 by omega];exact this
theorem Cz:∀(l:List V) (j:Nat) (v:V),j<l.length->((flat c0 c1 l).set (j*2) (c0 v)).set (j*2+1) (c1 v)=flat c0 c1 (l.set j v)
 | [],_,_,h=>by simp at h
 | u :: l,0,v,_=>rfl
 | u :: l,j+1,v,h=>by have:=Cz l j v (by simpa using h);rw[sr,show(j+1)*2=j*2+2 by omega];simp only[List.set_cons_succ];rw[this];rfl
def Km(r:Bool)(l:List V):Array Value:=(Value.bool r :: flat c0 c1 l).toArray
theorem Cc{l:List V}(h:l.length=8):(Km c0 c1 r l).size=17:=by unfold Km;simp[BN,h]
theorem zv{l:List V}{j:Nat}{v:V}(h:l[j]?=some v):(Km c0 c1 r l)[1+j*2]?=some (c0 v)/\(Km c0 c1 r l)[1+j*2+1]?=some (c1 v):=by obtain⟨h1,h2⟩:=vR c0 c1 l j v h;unfold Km;rw[List.getElem?_toArray,List.getElem?_toArray,Nat.add_comm 1,show j*2+1+1=(j*2+1)+1 by omega];exact⟨h1,h2⟩
theorem GP{l:List V}{j:Nat}(v:V)(h:j<l.length):((Km c0 c1 r l).setIfInBounds (1+j*2) (c0 v)).setIfInBounds (1+j*2+1) (c1 v)=Km c0 c1 r (l.set j v):=by unfold Km;rw[List.setIfInBounds_toArray,List.setIfInBounds_toArray,<-Cz c0 c1 l j v h,Nat.add_comm 1];rfl
theorem GK(h0:∀v,(c0 v).oneCell'=true)(h1:∀v,(c1 v).oneCell'=true)(r:Bool)(l:List V):(Km c0 c1 r l).all (·.oneCell')=true:=by
 refine all_oneCell_toArray ?_;intro v hv
 rcases List.mem_cons.1 hv with rfl | hv
 ·rfl
 ·unfold flat at hv
  obtain⟨u,_,hu⟩:=List.mem_flatMap.1 hv;simp at hu
  rcases hu with rfl | rfl
  ·exact h0 u
  ·exact h1 u
end
end
section
variable{W w w0:Wd}
variable{b k B q n:Nat}
variable{c:Array Value}
variable{t:TypeId}
theorem aT{fr:Nat × Nat}(h:W.heap[b]?=some (.cells c t fr)):W.rangeAt b 0 c.toList:=fun j u hu=>by rw[Nat.zero_add];exact cell_of h j (by simpa using hu)
theorem bI(h:Bk W b c t):W.there b 0 c.size:=fun j hj=>by rw[Nat.zero_add];refine⟨?_,aw h j⟩;rw[cell_of h j (Array.getElem?_eq_getElem hj)];rfl
theorem cA{x y:Value}(h:Bk w k #[x,y] t)(u v:Value):((w.setCell ⟨k,0,none⟩ u).setCell ⟨k,1,none⟩ v).heap[k]?=some (.cells #[u,v] t):=ai (ai h 0 u) 1 v
theorem Below.two(h:Below B w0 w)(hk:B<=k)(u v:Value):Below B w0 ((w.setCell ⟨k,0,none⟩ u).setCell ⟨k,1,none⟩ v) :=
 (h.setCell (p:=⟨k,0,none⟩) hk u).setCell (p:=⟨k,1,none⟩) hk v
theorem BK{α:Type}{l:List α}{n:α}(h:l[q]?=some n){f:α->α}:l.modify q f=l.set q (f n):=by
 refine List.ext_getElem? fun i=>?_
 rw[List.getElem?_modify,List.getElem?_set];by_cases hq:q=i
 ·subst hq
  obtain⟨hl,he⟩:=List.getElem?_eq_some_iff.1 h;simp[hl,he]
 ·simp[hq]
theorem qu{l:List Nat}(h:l[q]?=some n){f:Nat->Nat}:l.modify q f=l.set q (f n):=by
 refine List.ext_getElem? fun i=>?_
 rw[List.getElem?_modify,List.getElem?_set];by_cases hq:q=i
 ·subst hq
  obtain⟨hl,he⟩:=List.getElem?_eq_some_iff.1 h;simp[hl,he]
 ·simp[hq]
abbrev zS:Array Value:=#[.bool false,.int .i16 0,.int .i16 0,.int .i16 0,.int .i16 0,.int .i16 0,.int .i16 0,.int .i16 0,.int .i16 0,.int .i16 0,.int .i16 0,.int .i16 0,.int .i16 0,.int .i16 0,.int .i16 0,.int .i16 0,.int .i16 0]
abbrev zE:Array Value:=#[.int .i64 0,.bool false,.int .i16 0,.int .i16 0,.int .i16 0,.int .i16 0,.int .i16 0,.int .i16 0,.int .i16 0,.int .i16 0,.int .i16 0,.int .i16 0,.int .i16 0,.int .i16 0,.int .i16 0,.int .i16 0,.int .i16 0,.int .i16 0]
abbrev zP:Array Value:=#[.bool false,.int .i16 0,.int .i16 0,.int .i16 0,.int .i16 0,.int .i16 0,.int .i16 0,.int .i16 0,.int .i16 0,.int .i16 0,.int .i16 0,.int .i16 0,.int .i16 0,.int .i16 0,.int .i16 0,.int .i16 0,.int .i16 0,.bool false]
end
end
namespace WI
section
variable{w W W' w1 w2 w3 w' w0:Wd}
variable{b j B k q n p:Nat}
variable{c d wa xa ya na:Array Value}
variable{ops:Array Oper}
variable{rest:List Oper}
variable{op:Oper}
variable{a:Act}
variable{r:Bool}
variable{l ys xs:List Sp.Iv}
variable{v x y:Sp.Iv}
variable{π:bO}
theorem bP:(prog.info? 220).map (·.size)=some 17:=by kernel_rfl
theorem wK{fr:Nat × Nat}(h:w.heap[b]?=some (.cells c 220 fr))(hc:c.size=17) :
  (loadVar 220 ⟨b,0,none⟩).run prog w=.ok (.agg c) w:=by
 have:=run_loadVar_mid (P:=prog) w b 0 220 c.toList _ (fun j v hv=>by rw[Nat.zero_add];exact cell_of h j (by simpa using hv)) underlying220 rfl (by rw[bP];simp[hc]);simpa using this
theorem UX(h:Bk w b c 220)(hc:c.size=17)(hd:d.size=17)(h1:d.all (·.oneCell')=true) :
  (Instr.storeAt 220 (.pointer (some ⟨b,0,none⟩)) (.agg d)).run prog w=.ok () (w.setCells b 0 d.toList) :=
 run_storeAt_mid (P:=prog) w b 0 220 d (fun j hj=>by rw[Nat.zero_add];refine⟨?_,aw h j⟩;rw[cell_of h j (Array.getElem?_eq_getElem (by omega))];rfl) (by rw[bP,hd]) h1
theorem bt{Q:Exit->Act->Wd->Prop}(qI:op.guard=none)(x:Operand)(ho:op.op=.load 220 x)(hx:a.eval x=.pointer (some ⟨b,0,none⟩))(h:Bk w b c 220)(hc:c.size=17)
  (k:wpList prog ops Q rest (a.put op.dst (.agg c)) w):wpList prog ops Q (op :: rest) a w:=by
 refine wpList_load_mid qI 220 x ho b 0 hx c.toList _ (fun j v hv=>by rw[Nat.zero_add];exact cell_of h j (by simpa using hv)) underlying220 rfl (by rw[bP];simp[hc]) ?_;simpa using k
theorem bV{Q:Exit->Act->Wd->Prop}(qI:op.guard=none)(x y:Operand)(ho:op.op=.store 220 x y)(hx:a.eval x=.pointer (some ⟨b,0,none⟩))(hy:a.eval y=.agg d)(h:Bk w b c 220)(hc:c.size=17)(hd:d.size=17)(h1:d.all (·.oneCell')=true)
  (k:wpList prog ops Q rest (a.put op.dst undef) (w.setCells b 0 d.toList)):wpList prog ops Q (op :: rest) a w :=
 wpList_store_mid qI 220 x y ho b 0 d hx hy (fun j hj=>by rw[Nat.zero_add];refine⟨?_,aw h j⟩;rw[cell_of h j (Array.getElem?_eq_getElem (by omega))];rfl) (by rw[bP,hd]) h1 k
theorem aN{fn:Func}{a:Tmp}(F1:fn.results=#[.cell a 220])(tmps:Array Value)(w:Wd)(ht:tmps.getD a undef=.pointer (some ⟨b,0,none⟩))(h:Bk w b c 220)(hc:c.size=17) :
  (results fn tmps).run prog w=.ok (.agg c) w:=by
 have hl:=wK h hc;have Qp:tmps[a]?.getD undef=.pointer (some ⟨b,0,none⟩):=by rw[<-ht];simp
 unfold results;rw[F1];simp[asAddr,Qp,hl]
theorem join_none(W0 x y:Array Value)(w:Wd)(hx:x.size=17)(hy:y.size=17)(h1:y.all (·.oneCell')=true)(h0:∀h,x[0]'h=.bool false) :
  Calls prog 116 #[.agg W0,.agg x,.agg y] w fun e w'=>e=.returned (.agg y)/\Below w.heap.size w w':=by
 obtain⟨k0,k1,k2,k3,kb⟩:=bM (w:=w) (o1:=.cells W0 217) (o2:=.cells x 220) (o3:=.cells y 220) (o4:=.cells zS 220) (Below.refl _ _);have K2:=hid k2;have K3:=hid k3;have hr:Hid (_=_):=ar k3 (d:=y) (by rw[hy];rfl);have HB:Hid (Below w.heap.size w _):=au (b:=w.heap.size+1+1+1) (by omega) y.toList 0 w _ kb;clear k0 k1 k2 k3 kb;go_enter func116,ntmps116;go_wp2_with (first
  | (refine bt rfl _ rfl rfl K2.out hy ?_)
  | (refine bV rfl _ _ rfl rfl rfl K3.out rfl hy h1 ?_))
 refine bodyPost_ret (aN results116 _ _ rfl hr.out hy) rfl ⟨rfl,HB.out⟩
def ew(r:Bool)(l:List Sp.Iv):Array Value:=Km (fun v:Sp.Iv=>.int .i16 v.a) (fun v:Sp.Iv=>.int .i16 v.b) r l
theorem iq(h:l[j]?=some v):(ew r l)[1+j*2]?=some (.int .i16 v.a)/\(ew r l)[1+j*2+1]?=some (.int .i16 v.b):=zv _ _ h
theorem AR(v:Sp.Iv)(h:j<l.length):((ew r l).setIfInBounds (1+j*2) (.int .i16 v.a)).setIfInBounds (1+j*2+1) (.int .i16 v.b)=ew r (l.set j v):=GP (fun v:Sp.Iv=>.int .i16 v.a) (fun v:Sp.Iv=>.int .i16 v.b) v h
theorem dU(h:l.length=8):(ew r l).size=17:=Cc _ _ h
theorem ib(r:Bool)(l:List Sp.Iv)(h:0<(ew r l).size):(ew r l)[0]=.bool r:=rfl
theorem kL(r:Bool)(l:List Sp.Iv):(ew r l).all (·.oneCell')=true:=GK _ _ (fun _=>rfl) (fun _=>rfl) r l
def eX:Array Value:=zS
structure dV(w:Wd)(l ys:List Sp.Iv)(W:Wd):Prop where
 x:W.heap[w.heap.size]?=some (.cells (ew true l) 220)
 y:W.heap[w.heap.size+1]?=some (.cells (ew true ys) 220)
 z:W.heap[w.heap.size+1+1]?=some (.cells eX 220)
 b:Below w.heap.size w W
theorem dV.call(h:dV w l ys W)(k:Below W.heap.size W W'):dV w l ys W' :=
 ⟨(k.block _ (ah h.x)).trans h.x,(k.block _ (ah h.y)).trans h.y,(k.block _ (ah h.z)).trans h.z,h.b.trans (k.mono h.b.size)⟩
theorem dV.set(h:dV w l ys W)(hj:j<l.length)(v:Sp.Iv):dV w (l.set j v) ys ((W.setCell ⟨w.heap.size,1+j*2,none⟩ (.int .i16 v.a)).setCell ⟨w.heap.size,1+j*2+1,none⟩ (.int .i16 v.b)):=by
 refine⟨?_,?_,?_,(h.b.setCell (p:=⟨w.heap.size,1+j*2,none⟩) (Nat.le_refl _) _).setCell (p:=⟨w.heap.size,1+j*2+1,none⟩) (Nat.le_refl _) _⟩
 ·rw[ai (ai h.x (1+j*2) (.int .i16 v.a)) (1+j*2+1) (.int .i16 v.b),AR v hj]
 ·rw[Below.heap_setCell _ _ _ _ (by show w.heap.size+1≠w.heap.size;omega),Below.heap_setCell _ _ _ _ (by show w.heap.size+1≠w.heap.size;omega)];exact h.y
 ·rw[Below.heap_setCell _ _ _ _ (by show w.heap.size+1+1≠w.heap.size;omega),Below.heap_setCell _ _ _ _ (by show w.heap.size+1+1≠w.heap.size;omega)];exact h.z
theorem dV.cells(h:dV w l ys W)(hx:l[j]?=some x):W.cell? ⟨w.heap.size,1+j*2,none⟩=some (.int .i16 x.a)/\W.cell? ⟨w.heap.size,1+j*2+1,none⟩=some (.int .i16 x.b)/\W.frozen? ⟨w.heap.size,1+j*2,none⟩=false/\W.frozen? ⟨w.heap.size,1+j*2+1,none⟩=false :=
 ⟨cell_of h.x _ (iq hx).1,cell_of h.x _ (iq hx).2,aw h.x _,aw h.x _⟩
def gS(g:Sp.Iv->Sp.Iv->Sp.Iv)(xs ys:List Sp.Iv)(j:Nat):List Sp.Iv:=(List.zipWith g xs ys).take j ++ xs.drop j
theorem AP{g:Sp.Iv->Sp.Iv->Sp.Iv}(hx:xs.length=8)(hy:ys.length=8)(hj:j<8)(h:xs[j]?=some x):(gS g xs ys j)[j]?=some x:=by
 have hl:((List.zipWith g xs ys).take j).length=j:=by simp;omega
 unfold gS;rw[List.getElem?_append_right (by omega),hl,Nat.sub_self,List.getElem?_drop,Nat.add_zero];exact h
theorem vZ{g:Sp.Iv->Sp.Iv->Sp.Iv}(hx:xs.length=8)(hy:ys.length=8)(hj:j<8)(h:xs[j]?=some x)(k:ys[j]?=some y):(gS g xs ys j).set j (g x y)=gS g xs ys (j+1):=by
 have hl:((List.zipWith g xs ys).take j).length=j:=by simp;omega
 have hz:(List.zipWith g xs ys)[j]?=some (g x y):=by rw[List.getElem?_zipWith,h,k]
 have hk:=List.getElem?_eq_some_iff.1 hz;have hd:xs.drop j=x :: xs.drop (j+1):=by rw[List.drop_eq_getElem_cons (by omega),(List.getElem?_eq_some_iff.1 h).2]
 unfold gS;rw[List.set_append_right _ _ (by omega),hl,Nat.sub_self,hd,List.set_cons_zero,List.take_succ_eq_append_getElem hk.1,hk.2,List.append_assoc];rfl
theorem vu{g:Sp.Iv->Sp.Iv->Sp.Iv}(hx:xs.length=8)(hy:ys.length=8):gS g xs ys 8=List.zipWith g xs ys:=by unfold gS;rw[List.take_of_length_le (by simp;omega),List.drop_of_length_le (by omega),List.append_nil]
theorem IT(uD:Value)(g:Sp.Iv->Sp.Iv->Sp.Iv)(xs ys:List Sp.Iv)(w:Wd)(hx:xs.length=8)(hy:ys.length=8)(T7:∀x∈xs,Wv x)(TN:∀y∈ys,Wv y)
  (xi:∀W x y,Below w.heap.size w W->Wv x->Wv y->Calls prog 320 #[uD,.agg #[.int .i16 x.a,.int .i16 x.b],.agg #[.int .i16 y.a,.int .i16 y.b]] W fun e w'=>e=.returned (.agg #[.int .i16 (g x y).a,.int .i16 (g x y).b])/\Below W.heap.size W w') :
  Calls prog 162 #[.agg (ew true xs),.agg (ew true ys),.func (Fn.method "Join") #[.iface 133 uD] #[]] w fun e w'=>e=.returned (.agg (ew true (List.zipWith g xs ys)))/\Below w.heap.size w w':=by
 have HP:=hid xi;have zx:=ib true xs;have zy:=ib true ys;have H0:Hid (dV w xs ys (((w.alloc (.cells (ew true xs) 220)).alloc (.cells (ew true ys) 220)).alloc (.cells zS 220))):=by obtain⟨k0,k1,k2,kb⟩:=bY (w:=w) (o1:=.cells (ew true xs) 220) (o2:=.cells (ew true ys) 220) (o3:=.cells eX 220) (Below.refl _ _);exact⟨k0,k1,k2,kb⟩
 have sx:(ew true xs).size=17:=dU hx;have sy:(ew true ys).size=17:=dU hy;clear xi;go_enter func162,ntmps162;go_wp2_with fail
 go_loopw [17] (fun nY wr=>∃j:Nat,j<=8/\nY=.int .i64 j/\Hid (dV w (gS g xs ys j) ys wr)) (fun nY _=>8 - (intOf nY).toNat)
 case atStart=>exact⟨0,Nat.zero_le _,rfl,H0.out⟩
 case round =>
  obtain⟨j,hj,rfl,hq⟩:=hrel;clear H0 zx zy sx sy;by_cases dW:j<8
  ·obtain⟨x,hxj⟩:∃x,xs[j]?=some x:=⟨_,List.getElem?_eq_getElem (by omega)⟩
   obtain⟨y,hyj⟩:∃y,ys[j]?=some y:=⟨_,List.getElem?_eq_getElem (by omega)⟩;have WX:Hid (Wv x):=T7 x (List.mem_of_getElem? hxj);have WY:Hid (Wv y):=TN y (List.mem_of_getElem? hyj);have Qa:(gS g xs ys j)[j]?=some x:=by exact AP hx hy dW hxj
   have hml:(gS g xs ys j).length=8:=by unfold gS;simp;omega
   have Q8:Hid ((gS g xs ys j).set j (g x y)=gS g xs ys (j+1)):=vZ hx hy dW hxj hyj;obtain⟨x0,x1⟩:=iq (r:=true) Qa;obtain⟨y0,y1⟩:=iq (r:=true) hyj;have cx0:=cell_of hq.x _ x0;have cx1:=cell_of hq.x _ x1;have cy0:=cell_of hq.y _ y0;have cy1:=cell_of hq.y _ y1;have uq:(j:Int)<8:=by omega
   clear x0 x1 y0 y1;go_wp2_with fail
   go_region_with (go_at_call 320;go_must (refine(HP.out _ x y hq.b.drew WX.out WY.out).mono ?_);rintro e w1 ⟨rfl,b1⟩;have A1:Hid (dV w (gS g xs ys j) ys w1):=hq.call (W':=w1) ⟨b1.os,b1.tape,b1.output,b1.size,b1.block⟩;obtain⟨d0,d1,d2,d3⟩:=A1.cells Qa)
   all_goals
    have A2:Hid (dV w (gS g xs ys (j+1)) ys ((w1.setCell ⟨w.heap.size,1+j*2,none⟩ (.int .i16 (g x y).a)).setCell ⟨w.heap.size,1+j*2+1,none⟩ (.int .i16 (g x y).b))):=by unfold Hid;rw[<-Q8.out];exact A1.set (by omega) (g x y)
    clear b1;go_wp2_with fail;exact⟨⟨j+1,by omega,by go_num,A2⟩,by simp[intOf];omega⟩
  ·obtain rfl:j=8:=by omega
   have A:Hid (dV w (List.zipWith g xs ys) ys wr):=by unfold Hid;rw[<-vu hx hy];exact hq.out
   have sz:(ew true (List.zipWith g xs ys)).size=17:=dU (by simp;omega);have hr:Hid (_=_):=ar A.z (d:=ew true (List.zipWith g xs ys)) (by rw[sz];rfl);have HB:Hid (Below w.heap.size w _):=au (b:=w.heap.size+1+1) (by omega) (ew true (List.zipWith g xs ys)).toList 0 w _ A.b;clear hq hj dW;go_wp2_with (first
    | (refine bt rfl _ rfl rfl A.x sz ?_)
    | (refine bV rfl _ _ rfl rfl rfl A.z rfl sz (kL _ _) ?_))
   refine bodyPost_ret (aN results162 _ _ rfl hr.out sz) rfl ⟨rfl,HB.out⟩
def xY(dv:Value)(cU ao narrow aj:Int)(th:Bool)(m:Nat)(f:Option Addr):Array Value :=
 #[.iface 133 dv,.int .i64 cU,.int .i64 ao,.int .i64 narrow,.int .i64 aj,.bool th,.map (some m),.pointer f]
structure lC(w:Wd)(wa xa ya:Array Value)(W:Wd):Prop where
 o:W.heap[w.heap.size]?=some (.cells wa 217)
 x:W.heap[w.heap.size+1]?=some (.cells xa 220)
 y:W.heap[w.heap.size+1+1]?=some (.cells ya 220)
 z:∃c,c.size=17/\W.heap[w.heap.size+1+1+1]?=some (.cells c 220)
 b:Below w.heap.size w W
theorem lC.call(h:lC w wa xa ya W)(k:Below W.heap.size W W'):lC w wa xa ya W' :=
 ⟨(k.block _ (ah h.o)).trans h.o,(k.block _ (ah h.x)).trans h.x,(k.block _ (ah h.y)).trans h.y,h.z.elim (fun c hc=>⟨c,hc.1,(k.block _ (ah hc.2)).trans hc.2⟩),h.b.trans (k.mono h.b.size)⟩
theorem lC.store{d:Array Value}(h:lC w wa xa ya W)(hd:d.size=17):lC w wa xa ya (W.setCells (w.heap.size+1+1+1) 0 d.toList)/\(W.setCells (w.heap.size+1+1+1) 0 d.toList).heap[w.heap.size+1+1+1]?=some (.cells d 220):=by obtain⟨c,hc,hz⟩:=h.z;have h1:=ar hz (d:=d) (by omega);exact⟨⟨(al _ _ _ _ (by omega)).trans h.o,(al _ _ _ _ (by omega)).trans h.x,(al _ _ _ _ (by omega)).trans h.y,⟨d,hd,h1⟩,au (by omega) _ _ _ _ h.b⟩,h1⟩
theorem IF(dv:Value)(cU ao narrow aj:Int)(th:Bool)(m:Nat)(f:Option Addr)(xs ys:List Sp.Iv)(w:Wd)(hd:fG B π dv w)(hx:xs.length=8)(hy:ys.length=8)(T7:∀x∈xs,Wv x)(TN:∀y∈ys,Wv y) :
  Calls prog 116 #[.agg (xY dv cU ao narrow aj th m f),.agg (ew true xs),.agg (ew true ys)] w fun e w'=>e=.returned (.agg (ew true (List.zipWith dF xs ys)))/\Below w.heap.size w w':=by
 have HDo:=hid hd;have HE:Hid (∀W,Below w.heap.size w W->Calls _ _ _ W _):=fun W b0=>IT dv dF xs ys W hx hy T7 TN (fun W' x y k wx wy=>U4 ((HDo.below (b0.mono HDo.size)).below (k.mono (Nat.le_trans HDo.size b0.size))) wx wy)
 have zx:=ib true xs;have zy:=ib true ys;have sx:(ew true xs).size=17:=dU hx;have sy:(ew true ys).size=17:=dU hy;have H0:Hid (lC w (xY dv cU ao narrow aj th m f) (ew true xs) (ew true ys) ((((w.alloc (.cells (xY dv cU ao narrow aj th m f) 217)).alloc (.cells (ew true xs) 220)).alloc (.cells (ew true ys) 220)).alloc (.cells zS 220))):=by obtain⟨k0,k1,k2,k3,kb⟩:=bM (w:=w) (o1:=.cells (xY dv cU ao narrow aj th m f) 217) (o2:=.cells (ew true xs) 220) (o3:=.cells (ew true ys) 220) (o4:=.cells eX 220) (Below.refl _ _);exact⟨k0,k1,k2,⟨_,rfl,k3⟩,kb⟩
 have jo:(xY dv cU ao narrow aj th m f)[0]?=some (.iface 133 dv):=rfl;generalize xY dv cU ao narrow aj th m f=wa at *;go_enter func116,ntmps116;go_wp2_with fail;generalize (((w.alloc (.cells wa 217)).alloc (.cells (ew true xs) 220)).alloc (.cells (ew true ys) 220)).alloc (.cells zS 220)=W at *;have HD:Hid (lC w wa (ew true xs) (ew true ys) W.drew):=H0.call (Below.refl _ _).drew;have lz:(List.zipWith dF xs ys).length=8:=by simp;omega
 generalize Ra:List.zipWith dF xs ys=zs at *;have ZS:=hid Ra;clear Ra;have sz:(ew true zs).size=17:=dU lz;have hu:=underlying220;have hi1:(prog.info? 220).map (·.size)=some (ew true xs).toList.length:=by rw[bP];simp[sx]
 have hi2:(prog.info? 220).map (·.size)=some (ew true ys).toList.length:=by rw[bP];simp[sy]
 refine wp_region_held_drew (S:=fun w':Wd=>lC w wa (ew true xs) (ew true ys) w') (by kernel_rfl) HD.out (fun aa=>?_);refine mj 0 rfl (yieldsIf_load_mid (by rfl) _ _ rfl _ _ rfl (ew true xs).toList _ (fun w' h=>aT h.x) hu rfl hi1) aa ?_;refine mj 1 rfl (yieldsIf_load_mid (by rfl) _ _ rfl _ _ rfl (ew true ys).toList _ (fun w' h=>aT h.y) hu rfl hi2) aa ?_;refine tq 2 (.pointer (some ⟨w.heap.size,0,none⟩)) aa ?_;refine tk 3 (.iface 133 dv) rfl (fun w' h=>by have d0:=cell_of h.o 0 jo;go_simp) aa ?_;refine tq 4 (.iface 133 dv) aa ?_;refine tq 5 (.func (Fn.method "Join") #[.iface 133 dv] #[]) aa ?_;refine cH 6 fun K hK=>?_
 go_simp;refine(HE.out _ HD.b).mono ?_;rintro e w1⟨rfl,b1⟩;go_wp2_with fail;refine hK.out _ _ (HD.call b1) (fun aa=>?_);obtain⟨cz,NA,hz⟩:=aa.z;have gI:=aa.store sz;have HS:=hid gI;have ht:w1.there (w.heap.size+1+1+1) 0 (ew true zs).size:=by rw[sz,<-NA];exact bI hz
 have hi3:(prog.info? 220).map (·.size)=some (ew true zs).size:=by rw[bP,sz]
 clear hK K gI hz b1;refine cH 7 fun K hK=>?_
 rw[if_pos (by rfl)];refine wp_store_mid _ _ _ rfl _ _ (ew true zs) rfl rfl ht hi3 (kL true zs) ?_;refine hK.out _ _ HS.1 (fun _=>?_);clear hK K;refine wpAnyH_done (by kernel_rfl) ?_ _;go_wp2_with fail;refine bodyPost_ret (aN results116 _ _ rfl HS.2 sz) rfl ⟨?_,HS.1.b⟩;rw[ZS.out]
theorem FA(wa:Array Value)(xs:List Sp.Iv)(y:Array Value)(w:Wd)(hx:xs.length=8)(hy:y.size=17)(h0:∀h,y[0]'h=.bool false) :
  Calls prog 116 #[.agg wa,.agg (ew true xs),.agg y] w fun e w'=>e=.returned (.agg (ew true xs))/\Below w.heap.size w w':=by
 have zx:=ib true xs;have sx:(ew true xs).size=17:=dU hx;have H0:Hid (lC w wa (ew true xs) y ((((w.alloc (.cells wa 217)).alloc (.cells (ew true xs) 220)).alloc (.cells y 220)).alloc (.cells zS 220))):=by obtain⟨k0,k1,k2,k3,kb⟩:=bM (w:=w) (o1:=.cells wa 217) (o2:=.cells (ew true xs) 220) (o3:=.cells y 220) (o4:=.cells eX 220) (Below.refl _ _);exact⟨k0,k1,k2,⟨_,rfl,k3⟩,kb⟩
 obtain⟨cz,NA,hz⟩:=H0.z;have HZ:=hid hz;have HS:=hid (H0.store sx);clear hz;go_enter func116,ntmps116;go_wp2_with (first
  | (refine bt rfl _ rfl rfl H0.x sx ?_)
  | (refine bV rfl _ _ rfl rfl rfl HZ.out NA sx (kL _ _) ?_))
 refine bodyPost_ret (aN results116 _ _ rfl HS.2 sx) rfl ⟨rfl,HS.1.b⟩
def aK(s:ST):Array Value:=match s with
 | none=>eX
 | some e=>ew true (List.ofFn e)
theorem aF(s:ST):(aK s).size=17:=by
 cases s with
 | none=>rfl
 | some e=>exact dU (by simp)
theorem aX(s:ST):(aK s).all (·.oneCell')=true:=by
 cases s with
 | none=>exact kL false (List.replicate 8 ⟨0,0⟩)
 | some e=>exact kL _ _
theorem ij(s:ST)(h:0<(aK s).size):(aK s)[0]=.bool s.isSome:=by
 cases s with
 | none=>rfl
 | some e=>rfl
theorem wu(g:Sp.Iv->Sp.Iv->Sp.Iv)(e e':Fin 8->Sp.Iv):List.zipWith g (List.ofFn e) (List.ofFn e')=List.ofFn (fun k=>g (e k) (e' k)):=by
 refine List.ext_getElem? fun i=>?_
 rw[List.getElem?_zipWith,List.getElem?_ofFn,List.getElem?_ofFn,List.getElem?_ofFn];by_cases h:i<8
 ·simp[h]
 ·simp[h]
theorem oO(dv:Value)(cU ao narrow aj:Int)(th:Bool)(m:Nat)(f:Option Addr)(s t u:ST)(w:Wd)(hd:fG B π dv w)(hu:Sp.jn (Dm π) s t=u)(hs:Sp.Wf (Kr π) s)(ht:Sp.Wf (Kr π) t) :
  Calls prog 116 #[.agg (xY dv cU ao narrow aj th m f),.agg (aK s),.agg (aK t)] w fun e w'=>e=.returned (.agg (aK u))/\Below w.heap.size w w':=by
 subst hu;cases s with
 | none=>exact join_none _ (aK none) (aK t) w rfl (aF t) (aX t) (ij none)
 | some e =>
  cases t with
  | none=>exact FA _ (List.ofFn e) (aK none) w (by simp) rfl (ij none)
  | some e' =>have h:=IF dv cU ao narrow aj th m f (List.ofFn e) (List.ofFn e') w hd (by simp) (by simp) (fun x hx=>by obtain⟨k,rfl⟩:=List.mem_ofFn.1 hx;exact hs _ rfl k) (fun x hx=>by obtain⟨k,rfl⟩:=List.mem_ofFn.1 hx;exact ht _ rfl k);rw[wu]at h;exact h
theorem fD:(prog.info? 217).map (·.size)=some 8:=by kernel_rfl
theorem cm{Q:Exit->Act->Wd->Prop}(qI:op.guard=none)(x:Operand)(ho:op.op=.load 217 x)(hx:a.eval x=.pointer (some ⟨b,0,none⟩))(h:Bk w b c 217)(hc:c.size=8)
  (k:wpList prog ops Q rest (a.put op.dst (.agg c)) w):wpList prog ops Q (op :: rest) a w:=by
 refine wpList_load_mid qI 217 x ho b 0 hx c.toList _ (fun j v hv=>by rw[Nat.zero_add];exact cell_of h j (by simpa using hv)) underlying217 rfl (by rw[fD];simp[hc]) ?_;simpa using k
theorem vG{K:Act->Wd->Prop}{Q:Exit->Act->Wd->Prop}(x:Operand)(ho:op.op=.load 220 x){o:Nat}(hx:a.eval x=.pointer (some ⟨b,o,none⟩))(hr:w.rangeAt b o c.toList)(hc:c.size=17)
  (h:K (a.put op.dst (.agg c)) w):op.wp prog a w K Q:=by
 refine wp_load_mid 220 x ho b o hx c.toList _ hr underlying220 rfl (by rw[bP];simp[hc]) ?_;simpa using h
theorem kG{K:Act->Wd->Prop}{Q:Exit->Act->Wd->Prop}(x y:Operand)(ho:op.op=.store 220 x y){o:Nat}(hx:a.eval x=.pointer (some ⟨b,o,none⟩))(hy:a.eval y=.agg c)(ht:w.there b o 17)(hc:c.size=17)(h1:c.all (·.oneCell')=true)
  (h:K (a.put op.dst undef) (w.setCells b o c.toList)):op.wp prog a w K Q :=
 wp_store_mid 220 x y ho b o c hx hy (by rw[hc];exact ht) (by rw[bP,hc]) h1 h
structure Cx where
 base:Nat
 dv:Value
 cU:Int
 ao:Nat
 narrow:Nat
 aj:Nat
 th:Bool
 m:Nat
 fb:Nat
 gf:Nat
 gs:Nat
 cf:Nat
 cs:Nat
def Cx.hI(C:Cx):yZ:=⟨C.ao,C.narrow,C.aj⟩
def wk(C:Cx)(b:Bool):Array Value:=xY C.dv C.cU C.ao C.narrow C.aj C.th C.m (if b then some ⟨C.fb,0,none⟩ else none)
theorem cC(C:Cx)(b:Bool):(wk C b).size=8:=rfl
theorem jy(C:Cx)(b:Bool):(wk C b)[0]?=some (.iface 133 C.dv):=rfl
theorem Ci(C:Cx)(b:Bool):(wk C b)[7]?=some (.pointer (if b then some ⟨C.fb,0,none⟩ else none)):=rfl
theorem RM(C:Cx)(b:Bool):(wk C b)[6]?=some (.map (some C.m)):=rfl
abbrev Fd:=List ST × List Nat
abbrev cr:=gd Sp.Iv
abbrev gB:=Int->ST->List cr × ST
def cP(fs:List ST):List Value:=fs.flatMap fun s=>(aK s).toList
def cQ(l:List Nat):List Value:=l.map fun n=>.int .i64 ((n:Nat):Int)
def mM(p:Int)(s:ST):Array Value:=#[.int .i64 p] ++ aK s
def km(t:ST)(told:Bool):Array Value:=(aK t).push (.bool told)
def ox(π:bO)(T:gB)(F:Fd)(x:MapEntry):Prop :=
 ∃p s t told,x.key=.agg (mM p s)/\x.val=.agg (km t told)/\Sp.Wf (Kr π) s/\(0<=p/\p<=1000000)/\(T p s).2=t/\(told=true->iO (Kr π) F (T p s).1)
structure aM(C:Cx)(π:bO)(T:gB)(F:Fd)(w:Wd):Prop where
 Bm:w.heap[C.fb]?=some (.cells #[.slice (some ⟨C.gf,0,none⟩) F.1.length C.cf,.slice (some ⟨C.gs,0,none⟩) F.2.length C.cs] 215)
 A9:w.heap[C.gf]?=some (.cells (cP F.1).toArray 220)
 uX:w.heap[C.gs]?=some (.cells (cQ F.2).toArray 3)
 memo:∃es cl,w.heap[C.m]?=some (.map es cl)/\∀x∈es.toList,ox π T F x
 does:fG C.base π C.dv w
 turns:gw w
 big:11<=C.base
 bfb:C.base<=C.fb
 bgf:C.base<=C.gf
 bgs:C.base<=C.gs
 bm:C.base<=C.m
 wfF:SQ (Kr π) F
structure ay(C:Cx)(w w':Wd):Prop where
 below:Below C.base w w'
 others:∀k,k<w.heap.size->k≠C.gf->k≠C.gs->k≠C.m->w'.heap[k]?=w.heap[k]?
theorem ay.trans{C:Cx}(h:ay C w1 w2)(k:ay C w2 w3):ay C w1 w3 :=
 ⟨h.below.trans k.below,fun i hi h1 h2 h3=>by rw[k.others i (Nat.lt_of_lt_of_le hi h.below.size) h1 h2 h3,h.others i hi h1 h2 h3]⟩
theorem ay.aB{C:Cx}(h:Below w.heap.size w w')(hB:C.base<=w.heap.size):ay C w w':=⟨h.mono hB,fun k hk _ _ _=>h.block k hk⟩
theorem ay.more{C:Cx}(h:ay C w w1)(k:Below w1.heap.size w1 w2)(hB:C.base<=w.heap.size):ay C w w2 :=
 h.trans (ay.aB k (Nat.le_trans hB h.below.size))
theorem ay.cell{C:Cx}(h:ay C w w'){T:gB}{F:Fd}(ha:aM C π T F w){e:TypeId}{fz:Nat × Nat}(hk:w.heap[k]?=some (.cells c e fz))(h1:k≠C.gf)(h2:k≠C.gs):w'.heap[k]?=some (.cells c e fz):=by
 rw[h.others k (ah hk) h1 h2 (fun e'=>?_)]
 ·exact hk
 ·obtain⟨es,cl,hm,_⟩:=ha.memo
  rw[<-e',hk]at hm;cases hm
theorem aM.lt{C:Cx}{T:gB}{F:Fd}(h:aM C π T F w):C.fb<w.heap.size/\C.gf<w.heap.size/\C.gs<w.heap.size/\C.m<w.heap.size:=by obtain⟨es,cl,hm,_⟩:=h.memo;exact⟨ah h.Bm,ah h.A9,ah h.uX,ah hm⟩
theorem aM.le{C:Cx}{T:gB}{F:Fd}(h:aM C π T F w):C.base<=w.heap.size:=by have:=h.lt.1;have:=h.bfb;omega
theorem aM.GV{C:Cx}{T:gB}{F:Fd}(h:aM C π T F w):11<=w.heap.size:=Nat.le_trans h.big h.le
theorem aM.call{C:Cx}{T:gB}{F:Fd}(h:aM C π T F w)(k:Below w.heap.size w w'):aM C π T F w':=by have hl:=h.lt;obtain⟨es,cl,hm,hE⟩:=h.memo;exact⟨(k.block _ hl.1).trans h.Bm,(k.block _ hl.2.1).trans h.A9,(k.block _ hl.2.2.1).trans h.uX,⟨es,cl,(k.block _ hl.2.2.2).trans hm,hE⟩,h.does.below (k.mono h.le),h.turns.below k h.GV,h.big,h.bfb,h.bgf,h.bgs,h.bm,h.wfF⟩
def told(π:bO)(b:Bool)(F:Fd)(es:List cr):Fd:=if b then Sp.tell (Dm π) F es else F
theorem ep(π:bO)(b:Bool)(F:Fd):told π b F []=F:=by cases b<;>rfl
theorem aG(π:bO)(b:Bool)(F:Fd)(es es':List cr):told π b F (es ++ es')=told π b (told π b F es) es':=by
 cases b
 ·rfl
 ·exact List.foldl_append
def XK(F:Fd):cr->Prop
 | .aA p _=>0<=p/\p.toNat<F.1.length
 | .site q _=>0<=q/\q.toNat<F.2.length
def df(b:Bool)(F:Fd)(es:List cr):Prop:=b=true->∀ev∈es,XK F ev
theorem df.left{b:Bool}{F:Fd}{es es':List cr}(h:df b F (es ++ es')):df b F es:=fun hb ev hv=>h hb ev (List.mem_append.2 (.inl hv))
theorem JC(π:bO)(F:Fd)(x:cr):(cR (Dm π) F x).1.length=F.1.length/\(cR (Dm π) F x).2.length=F.2.length:=by
 cases x with
 | aA p s=>exact⟨List.length_modify ..,rfl⟩
 | site q b=>exact⟨rfl,List.length_modify ..⟩
theorem lY(π:bO):∀(es:List cr) (F:Fd),(Sp.tell (Dm π) F es).1.length=F.1.length/\(Sp.tell (Dm π) F es).2.length=F.2.length
 | [],_=>⟨rfl,rfl⟩
 | x :: es,F=>by obtain⟨h1,h2⟩:=lY π es (cR (Dm π) F x);obtain⟨h3,h4⟩:=JC π F x;exact⟨h1.trans h3,h2.trans h4⟩
theorem jc(π:bO)(b:Bool)(F:Fd)(es:List cr):(told π b F es).1.length=F.1.length/\(told π b F es).2.length=F.2.length:=by
 cases b
 ·exact⟨rfl,rfl⟩
 ·exact lY π es F
theorem XK.told{b:Bool}{F:Fd}{es:List cr}{x:cr}(h:XK F x):XK (told π b F es) x:=by
 obtain⟨h1,h2⟩:=jc π b F es;cases x with
 | aA p s=>exact⟨h.1,by rw[h1];exact h.2⟩
 | site q b=>exact⟨h.1,by rw[h2];exact h.2⟩
theorem df.right{b:Bool}{F:Fd}{es es':List cr}(h:df b F (es ++ es')):df b (WI.told π b F es) es':=fun hb ev hv=>(h hb ev (List.mem_append.2 (.inr hv))).told
theorem jH(F:Fd)(es:List cr):df false F es:=fun h=>by cases h
def fF(C:Cx)(π:bO)(T:gB)(F:Fd)(b:Bool)(w:Wd)(es:List cr)(u:ST)(e:Ending)(w':Wd):Prop :=
 e=.returned (.agg (aK u))/\aM C π T (told π b F es) w'/\ay C w w'
theorem vd{T:gB}{F:Fd}{x:MapEntry}(h:ox π T F x)(es:List cr):ox π T (Sp.tell (Dm π) F es) x:=by obtain⟨p,s,t,d,h1,h2,h3,h4,h5,h6⟩:=h;exact⟨p,s,t,d,h1,h2,h3,h4,h5,fun hd=>(h6 hd).grow es⟩
theorem aM.ne{C:Cx}{T:gB}{F:Fd}(h:aM C π T F w):C.fb≠C.gf/\C.fb≠C.gs/\C.gf≠C.gs/\C.m≠C.gf/\C.m≠C.gs/\C.fb≠C.m:=by
 obtain⟨es,cl,hm,_⟩:=h.memo;have h1:=h.Bm;have h2:=h.A9;have h3:=h.uX;refine⟨fun e=>?_,fun e=>?_,fun e=>?_,fun e=>?_,fun e=>?_,fun e=>?_⟩
 ·rw[e,h2]at h1;injection h1 with h1;injection h1 with _ h1 _;exact absurd h1 (by decide)
 ·rw[e,h3]at h1;injection h1 with h1;injection h1 with _ h1 _;exact absurd h1 (by decide)
 ·rw[e,h3]at h2;injection h2 with h2;injection h2 with _ h2 _;exact absurd h2 (by decide)
 ·rw[e,h2]at hm;cases hm
 ·rw[e,h3]at hm;cases hm
 ·rw[e,hm]at h1;cases h1
theorem pU{l:List Nat}{n:Nat}(h:l[q]?=some n):(cQ l).toArray[q]?=some (.int .i64 ((n:Nat):Int)):=by rw[List.getElem?_toArray];unfold cQ;rw[List.getElem?_map,h];rfl
theorem aM.site{C:Cx}{T:gB}{F:Fd}(h:aM C π T F w)(hq:F.2[q]?=some n)(bad:Bool) :
  aM C π T (cR (Dm π) F (.site (q:Int) bad)) (w.setCell ⟨C.gs,q,none⟩ (.int .i64 ((max n (if bad then 2 else 1):Nat):Int)))/\ay C w (w.setCell ⟨C.gs,q,none⟩ (.int .i64 ((max n (if bad then 2 else 1):Nat):Int))):=by
 obtain⟨n1,n2,n3,n4,n5,n6⟩:=h.ne;obtain⟨es,cl,hm,hE⟩:=h.memo;have hk:ay C w (w.setCell ⟨C.gs,q,none⟩ (.int .i64 ((max n (if bad then 2 else 1):Nat):Int))) :=
  ⟨(Below.refl _ _).setCell (p:=⟨C.gs,q,none⟩) h.bgs _,fun k _ _ k2 _=>Below.heap_setCell _ _ _ _ k2⟩
 have ht:cR (Dm π) F (.site (q:Int) bad)=(F.1,F.2.set q (max n (if bad then 2 else 1))):=by show(F.1,F.2.modify (q:Int).toNat _)=_;rw[show((q:Int)).toNat=q by simp,qu hq]
 refine⟨?_,hk⟩;have VI:∀x∈es.toList,ox π T (cR (Dm π) F (.site (q:Int) bad)) x:=fun x hx=>vd (hE x hx) [.site (q:Int) bad]
 have hW:SQ (Kr π) (cR (Dm π) F (.site (q:Int) bad)):=yG h.wfF trivial;rw[ht]at VI hW ⊢;refine⟨?_,(Below.heap_setCell _ _ _ _ n3).trans h.A9,?_,⟨es,cl,(Below.heap_setCell _ _ _ _ n5).trans hm,VI⟩,h.does.below hk.below,h.turns.below hk.below h.big,h.big,h.bfb,h.bgf,h.bgs,h.bm,hW⟩
 ·rw[Below.heap_setCell _ _ _ _ n2]
  simp only[List.length_set];exact h.Bm
 ·rw[ai h.uX q _]
  congr 2;unfold cQ;simp[List.map_set]
theorem dz(s:ST):(aK s).toList.length=17:=by rw[Array.length_toList];exact aF s
theorem aM.aA{C:Cx}{T:gB}{F:Fd}(h:aM C π T F w){f u:ST}(hp:F.1[p]?=some f){e:Fin 8->Sp.Iv}(hu:Sp.jn (Dm π) f (some e)=u)(he:∀k,(Kr π).wf (e k)) :
  aM C π T (cR (Dm π) F (.aA (p:Int) e)) (w.setCells C.gf (p*17) (aK u).toList)/\ay C w (w.setCells C.gf (p*17) (aK u).toList):=by
 obtain⟨n1,n2,n3,n4,n5,n6⟩:=h.ne;obtain⟨es,cl,hm,hE⟩:=h.memo;have hk:ay C w (w.setCells C.gf (p*17) (aK u).toList) :=
  ⟨au h.bgf _ _ _ _ (Below.refl _ _),fun k _ k1 _ _=>al _ _ _ _ k1⟩
 have Kc:p<F.1.length:=(List.getElem?_eq_some_iff.1 hp).1;have ht:cR (Dm π) F (.aA (p:Int) e)=(F.1.set p u,F.2):=by have:=BK (f:=fun f=>Sp.jn (Dm π) f (some e)) hp;exact Prod.ext (show F.1.modify ((p:Int)).toNat _=F.1.set p u from by rw[show((p:Int)).toNat=p by simp];exact this.trans (congrArg (F.1.set p) hu)) rfl
 refine⟨?_,hk⟩;have VI:∀x∈es.toList,ox π T (cR (Dm π) F (.aA (p:Int) e)) x:=fun x hx=>vd (hE x hx) [.aA (p:Int) e]
 have hW:SQ (Kr π) (cR (Dm π) F (.aA (p:Int) e)):=yG h.wfF he;rw[ht]at VI hW ⊢;refine⟨?_,?_,(al _ _ _ _ (Ne.symm n3)).trans h.uX,⟨es,cl,(al _ _ _ _ n4).trans hm,VI⟩,h.does.below hk.below,h.turns.below hk.below h.big,h.big,h.bfb,h.bgf,h.bgs,h.bm,hW⟩
 ·rw[al _ _ _ _ n1]
  simp only[List.length_set];exact h.Bm
 ·obtain⟨c',h1,h2,h3,h4⟩:=ga (aK u).toList (p*17) w (cP F.1).toArray h.A9 (by
   rw[dz,List.size_toArray];unfold cP;rw[fw dz];have:(p+1)*17<=F.1.length*17:=Nat.mul_le_mul_right _ Kc;omega)
  rw[h1];have e:c'=(cP (F.1.set p u)).toArray:=by
   refine Array.ext_getElem? fun i=>?_
   have e2:(cP (F.1.set p u)).toArray[i]?=((F.1.set p u).flatMap fun s=>(aK s).toList)[i]?:=List.getElem?_toArray;rw[e2];rw[pq dz F.1 p u i Kc];by_cases hi:p*17<=i/\i<p*17+17
   ·rw[if_pos hi]
    have:=h3 (i - p*17) (by rw[dz];omega);rw[show p*17+(i - p*17)=i by omega]at this;exact this
   ·rw[if_neg hi,h4 i (by rw[dz];omega),List.getElem?_toArray]
    rfl
  rw[e]
theorem aM.fact{C:Cx}{T:gB}{F:Fd}(h:aM C π T F w){f:ST}(hp:F.1[p]?=some f):w.rangeAt C.gf (p*17) (aK f).toList:=by
 intro j v hv;have hj:j<17:=by have:=(List.getElem?_eq_some_iff.1 hv).1;rw[dz]at this;exact this
 refine cell_of h.A9 _ ?_;rw[List.getElem?_toArray];show(F.1.flatMap fun s=>(aK s).toList)[p*17+j]?=some v;rw[gX dz F.1 p f j hp hj];exact hv
theorem aM.JM{C:Cx}{T:gB}{F:Fd}(h:aM C π T F w)(hp:p<F.1.length):w.there C.gf (p*17) 17:=by
 intro j hj;refine⟨?_,aw h.A9 _⟩;have hl:p*17+j<(cP F.1).toArray.size:=by rw[List.size_toArray];unfold cP;rw[fw dz];have:(p+1)*17<=F.1.length*17:=Nat.mul_le_mul_right _ hp;omega
 rw[cell_of h.A9 _ (Array.getElem?_eq_getElem hl)];rfl
theorem aM.upon{C:Cx}{T:gB}{F0 F:Fd}(h0:aM C π T F0 w0)(h:aM C π T F w)(k:Below w0.heap.size w W):aM C π T F W:=by have hl:=h0.lt;obtain⟨es,cl,hm,hE⟩:=h.memo;exact⟨(k.block _ hl.1).trans h.Bm,(k.block _ hl.2.1).trans h.A9,(k.block _ hl.2.2.1).trans h.uX,⟨es,cl,(k.block _ hl.2.2.2).trans hm,hE⟩,h.does.below (k.mono h0.le),h.turns.below k h0.GV,h.big,h.bfb,h.bgf,h.bgs,h.bm,h.wfF⟩
theorem ay.upon{C:Cx}{T:gB}{F0:Fd}(h0:aM C π T F0 w0)(h:ay C w0 w)(k:Below w0.heap.size w W):ay C w0 W :=
 ⟨h.below.trans (k.mono h0.le),fun i hi h1 h2 h3=>(k.block i hi).trans (h.others i hi h1 h2 h3)⟩
theorem ay.aW{C:Cx}{T:gB}{F0:Fd}(h0:aM C π T F0 w0)(h:ay C w W)(hk:w0.heap.size<=k){o:Obj}(ho:w.heap[k]?=some o):W.heap[k]?=some o:=by
 have hl:=h0.lt;have dj:k<w.heap.size:=by
  rcases Nat.lt_or_ge k w.heap.size with h | h
  ·exact h
  ·rw[Array.getElem?_eq_none h]at ho;cases ho
 rw[h.others k dj (by omega) (by omega) (by omega)];exact ho
theorem bJ{o:Obj}(db:j≠k)(h:w.heap[j]?=some o)(u v:Value):((w.setCell ⟨k,0,none⟩ u).setCell ⟨k,1,none⟩ v).heap[j]?=some o:=by rw[Below.heap_setCell _ _ _ _ (show j≠(⟨k,1,none⟩:Addr).block from db),Below.heap_setCell _ _ _ _ (show j≠(⟨k,0,none⟩:Addr).block from db)];exact h
def gL(C:Cx)(π:bO)(T:gB)(F:Fd)(b:Bool)(w:Wd)(es:List cr)(o:Option Sp.Iv)(r:Ending)(w':Wd):Prop :=
 r=.returned (ub o)/\aM C π T (told π b F es) w'/\ay C w w'
def nD(v:Value)(x:Sp.Sm)(ct:Sp.Ct):Prop :=
 ∀(C:Cx) (π:bO) (T:gB) (F:Fd) (b:Bool) (w:Wd) (e:Fin 8->Sp.Iv),aM C π T F w->(∀k,Wv (e k))->df b F (Sp.dA (Dm π) x ct e).1 ->
  Calls prog 197 #[.agg (wk C b),v,.agg (aK (some e))] w (gL C π T F b w (Sp.dA (Dm π) x ct e).1 (Sp.dA (Dm π) x ct e).2)
theorem RY(n:Nat)(ct:Sp.Ct):nD (.iface 226 (.int .i16 n)) (.num n) ct:=by intro C π T F b w e h he hr;have h1:=FB (.int .i16 n);show Calls _ _ _ w (gL C π T F b w [] (some (mU n)));have jo:=jy C b;generalize wk C b=wa at *;generalize aK (some e)=xa at *;obtain⟨k0,k1,k2,kb⟩:=bY (w:=w) (o1:=.cells wa 217) (o2:=.cells xa 220) (o3:=.cells #[.int .i16 0,.int .i16 0] 131) (Below.refl _ _);have d0:=cell_of k0 0 jo;have HN:=Gq ((h.does.below (kb.mono h.le))) (n:Int);have HB:=hid kb;have HZ:=hid k2;have HA:=hid h;clear h k0 k1 k2 kb hr;go_enter func197,ntmps197;go_wp2_with fail;refine HN.mono ?_;rintro r w1⟨rfl,b1⟩;have gT:=(b1.block _ (ah HZ.out)).trans HZ.out;obtain⟨m0,m1,kh,kj,mq⟩:=aH gT;have MQ:=hid (mq (.int .i16 (mU (n:Int)).a) (.int .i16 (mU (n:Int)).b));have B1:Hid (Below w.heap.size w w1):=HB.trans (b1.mono HB.size);clear mq b1 gT;go_wp2_with fail;refine bodyPost_ret (v:=.tuple #[.agg #[.int .i16 (mU (n:Int)).a,.int .i16 (mU (n:Int)).b],.bool true]) (by simp[results,results197,go_sem,MQ.1,MQ.2]) rfl ?_;have B2:=(B1.setCell (p:=⟨w.heap.size+1+1,0,none⟩) (by show w.heap.size<=w.heap.size+1+1;omega) (.int .i16 (mU (n:Int)).a)).setCell (p:=⟨w.heap.size+1+1,1,none⟩) (by show w.heap.size<=w.heap.size+1+1;omega) (.int .i16 (mU (n:Int)).b);exact⟨rfl,by rw[ep];exact HA.call B2,ay.aB B2 HA.le⟩
theorem uM(e:Fin 8->Sp.Iv)(k:Fin 8):(aK (some e))[1+k.val*2]?=some (.int .i16 (e k).a)/\(aK (some e))[1+k.val*2+1]?=some (.int .i16 (e k).b) :=
 iq (r:=true) (l:=List.ofFn e) (j:=k.val) (v:=e k) (by rw[List.getElem?_ofFn];simp)
theorem O3(k:Nat)(hk:k<8)(ct:Sp.Ct):nD (.iface 275 (.int .i64 k)) (.name k) ct:=by
 intro C π T F b w e h he hr;have h1:=BS (.int .i64 k);have h2:=mZ (.int .i64 k);have hg:pE (Dm π) e k=e ⟨k,hk⟩:=dif_pos hk;show Calls _ _ _ w (gL C π T F b w [] (some (pE (Dm π) e k)));rw[hg];have tS:(k:Int)<8:=by omega
 obtain⟨x0,x1⟩:=uM e ⟨k,hk⟩;generalize e ⟨k,hk⟩=v at *;generalize wk C b=wa at *;generalize aK (some e)=xa at *;obtain⟨k0,k1,k2,kb⟩:=bY (w:=w) (o1:=.cells wa 217) (o2:=.cells xa 220) (o3:=.cells #[.int .i16 0,.int .i16 0] 131) (Below.refl _ _);have d0:=cell_of k1 _ x0;have d1:=cell_of k1 _ x1;obtain⟨_,_,_,Ks⟩:=bY (w:=w) (o1:=.cells wa 217) (o2:=.cells xa 220) (o3:=.cells #[.int .i16 v.a,.int .i16 v.b] 131) (Below.refl _ _);have HB:=hid Ks;have HA:=hid h;clear h k0 k1 k2 kb Ks hr hg he x0 x1;simp only at d0 d1;go_enter func197,ntmps197;go_wp2_with fail;refine bodyPost_ret (v:=.tuple #[.agg #[.int .i16 v.a,.int .i16 v.b],.bool true]) (by simp[results,results197,go_sem]) rfl ?_;exact⟨rfl,by rw[ep];exact HA.call HB.out,ay.aB HB.out HA.le⟩
theorem As{Q:Exit->Act->Wd->Prop}(qI:op.guard=none)(x y:Operand)(ho:op.op=.store 220 x y)(hx:a.eval x=.pointer (some ⟨b,0,none⟩))(hy:a.eval y=.agg zS)(qH:na=eX)(h:Bk w b c 220)(hc:c.size=17)
  (k:wpList prog ops Q rest (a.put op.dst undef) (w.setCells b 0 na.toList)):wpList prog ops Q (op :: rest) a w:=by
 subst qH;exact bV qI x y ho hx hy h hc rfl (aX none) k
def jM(v:Value):Sp.Sm->Prop
 | .name k=>v=.iface 275 (.int .i64 (k:Nat))/\k<8
 | _=>(∃t u,v=.iface t u)/\∀w,(Instr.typeAssert v 277 275 true).run prog w=.ok (.tuple #[.int .i64 0,.bool false]) w
theorem JW(e:Fin 8->Sp.Iv)(k:Nat)(v:Sp.Iv):(List.ofFn e).set k v=List.ofFn (show Fin 8->Sp.Iv from gZ (Dm π) e k v):=by
 refine List.ext_getElem? fun i=>?_
 rw[List.getElem?_set,List.getElem?_ofFn,List.getElem?_ofFn];by_cases hi:i<8
 ·rw[dif_pos hi,dif_pos hi]
  by_cases hk:k=i
  ·subst hk
   rw[if_pos rfl,if_pos (by simpa using hi)];exact congrArg some (if_pos rfl).symm
  ·rw[if_neg hk]
   exact congrArg some (if_neg (fun e=>hk e.symm)).symm
 ·rw[dif_neg hi,dif_neg hi]
  by_cases hk:k=i
  ·rw[if_pos hk,if_neg (by simp;omega)]
  ·rw[if_neg hk]
theorem z8(e:Fin 8->Sp.Iv)(k:Nat)(hk:k<8)(v:Sp.Iv):((aK (some e)).setIfInBounds (1+k*2) (.int .i16 v.a)).setIfInBounds (1+k*2+1) (.int .i16 v.b)=aK (show ST from some (gZ (Dm π) e k v)):=by show((ew true (List.ofFn e)).setIfInBounds (1+k*2) (.int .i16 v.a)).setIfInBounds (1+k*2+1) (.int .i16 v.b)=ew true (List.ofFn _);rw[AR v (by simpa using hk),JW]
theorem fU(tv:TypeId)(uv:Value)(r:Nat)(wa:Array Value)(y:Sp.Iv)(s:ST)(w:Wd)(h:s=none∨∀w,(Instr.typeAssert (.iface tv uv) 277 275 true).run prog w=.ok (.tuple #[.int .i64 0,.bool false]) w)(hn:s=none->(∃k:Nat,tv=275/\uv=.int .i64 k)∨∀w,(Instr.typeAssert (.iface tv uv) 277 275 true).run prog w=.ok (.tuple #[.int .i64 0,.bool false]) w) :
  Calls prog 228 #[.agg wa,.iface tv uv,.int .i64 (r:Nat),.agg #[.int .i16 y.a,.int .i16 y.b],.agg (aK s)] w fun e w'=>e=.returned (.agg (aK s))/\Below w.heap.size w w':=by
 obtain⟨k0,k1,k2,k3,kb⟩:=bM (w:=w) (o1:=.cells wa 217) (o2:=.cells #[.int .i16 y.a,.int .i16 y.b] 131) (o3:=.cells (aK s) 220) (o4:=.cells eX 220) (Below.refl _ _);have Q7:=aF s;have h1:=aX s;have hz:=ij s;have hr:Hid (_=_):=ar k3 (d:=aK s) (by rw[Q7];rfl);have HB:Hid (Below w.heap.size w _):=au (b:=w.heap.size+1+1+1) (by omega) (aK s).toList 0 w _ kb;have K2:=hid k2;have K3:=hid k3;have d0:(aK s)[0]?=some (.bool s.isSome):=by rw[Array.getElem?_eq_getElem (by omega),hz]
 have c0:=cell_of k2 0 d0;clear k0 k1 k2 k3 kb hz d0;have tP:(∀w,(Instr.typeAssert (.iface tv uv) 277 275 true).run prog w=.ok (.tuple #[.int .i64 0,.bool false]) w)∨(s=none/\∃k:Nat,tv=275/\uv=.int .i64 k):=by
  rcases h with h | h
  ·rcases hn h with hk | hk
   ·exact .inr ⟨h,hk⟩
   ·exact .inl hk
  ·exact .inl h
 clear h hn
 rcases tP with ht | ⟨hs,k,rfl,rfl⟩
 ·generalize aK s=xa at *
  generalize s.isSome=rb at *;go_enter func228,ntmps228;go_wp2_with (first
   | (refine bt rfl _ rfl rfl K2.out Q7 ?_)
   | (refine bV rfl _ _ rfl rfl rfl K3.out rfl Q7 h1 ?_))
  refine bodyPost_ret (aN results228 _ _ rfl hr.out Q7) rfl ⟨rfl,HB.out⟩
 ·have ht:=mZ (.int .i64 k)
  have dw:s.isSome=false:=by rw[hs];rfl
  have z0:∀h:0<(aK s).size,(aK s)[0]=.bool false:=fun h=>by rw[ij s h,dw]
  generalize aK s=xa at *;clear hs dw c0;go_enter func228,ntmps228;go_wp2_with (first
   | (refine bt rfl _ rfl rfl K2.out Q7 ?_)
   | (refine bV rfl _ _ rfl rfl rfl K3.out rfl Q7 h1 ?_))
  refine bodyPost_ret (aN results228 _ _ rfl hr.out Q7) rfl ⟨rfl,HB.out⟩
structure Ck(wa xa:Array Value)(y:Sp.Iv)(k:Nat)(W:Wd):Prop where
 o:W.heap[k]?=some (.cells wa 217)
 y:W.heap[k+1]?=some (.cells #[.int .i16 y.a,.int .i16 y.b] 131)
 x:W.heap[k+1+1]?=some (.cells xa 220)
 z:W.heap[k+1+1+1]?=some (.cells eX 220)
theorem Ck.call(h:Ck wa xa y k W)(b:Below W.heap.size W W'):Ck wa xa y k W' :=
 ⟨(b.block _ (ah h.o)).trans h.o,(b.block _ (ah h.y)).trans h.y,(b.block _ (ah h.x)).trans h.x,(b.block _ (ah h.z)).trans h.z⟩
theorem Fi(k:Nat)(hk:k<8)(r:Nat)(hr:r<6)(dv:Value)(wa:Array Value)(jo:wa[0]?=some (.iface 133 dv))(y:Sp.Iv)(hy:Wv y)(e:Fin 8->Sp.Iv)(he:∀j,Wv (e j))(w:Wd)(hd:fG B π dv w)(u:ST)(hu:qz (Dm π) (.name k) r y (some e)=u) :
  Calls prog 228 #[.agg wa,.iface 275 (.int .i64 (k:Nat)),.int .i64 (r:Nat),.agg #[.int .i16 y.a,.int .i16 y.b],.agg (aK (some e))] w fun e w'=>e=.returned (.agg (aK u))/\Below w.heap.size w w':=by
 have hg:pE (Dm π) e k=e ⟨k,hk⟩:=dif_pos hk;have QS:u=match sD r (e ⟨k,hk⟩) y with
   | some v=>(show ST from some (gZ (Dm π) e k v))
   | none=>none:=by
  rw[<-hu];have e1:(Dm π).bound r (pE (Dm π) e k) y=sD r (e ⟨k,hk⟩) y:=congrArg (fun z=>(Dm π).bound r z y) hg;cases hb:sD r (e ⟨k,hk⟩) y with
  | none=>exact u7 (Dm π) k r y e (e1.trans hb)
  | some v=>exact vo (Dm π) k r y e v (e1.trans hb)
 obtain⟨k0,k1,k2,k3,kb⟩:=bM (w:=w) (o1:=.cells wa 217) (o2:=.cells #[.int .i16 y.a,.int .i16 y.b] 131) (o3:=.cells (aK (some e)) 220) (o4:=.cells eX 220) (Below.refl _ _);have ht:=mZ (.int .i64 k);obtain⟨na,qH⟩:∃na,na=eX:=⟨_,rfl⟩;have rO:na.size=17:=by rw[qH];rfl
 have pV:=hid qH;clear qH;have Q7:=aF (some e);have z0:∀h:0<(aK (some e)).size,(aK (some e))[0]=.bool true:=fun h=>ij (some e) h
 obtain⟨x0,x1⟩:=uM e ⟨k,hk⟩;have tS:(k:Int)<8:=by omega
 have Bn:Hid (∀v:Sp.Iv,_=_):=fun v=>z8 (π:=π) e k hk v
 have HX:=he ⟨k,hk⟩;have Hk:Hid (∀v:Sp.Iv,(aK (show ST from some (gZ (Dm π) e k v))).size=17/\(aK (show ST from some (gZ (Dm π) e k v))).all (·.oneCell')=true):=fun v=>⟨aF _,aX _⟩
 generalize e ⟨k,hk⟩=x at *;simp only at x0 x1;have HD:Hid (∀W,Below w.heap.size w W->Calls _ _ _ W _):=fun W hW=>Sg (hd.below (hW.mono hd.size)) hr HX hy
 generalize oe:aK (some e)=xa at *;clear hg hu;have H0:Hid (Ck wa xa y w.heap.size ((((w.alloc (.cells wa 217)).alloc (.cells #[.int .i16 y.a,.int .i16 y.b] 131)).alloc (.cells xa 220)).alloc (.cells zS 220)).drew):=⟨k0,k1,k2,k3⟩;have HB:=hid kb;clear k0 k1 k2 k3 kb;go_enter func228,ntmps228;have Um:Hid (Below w.heap.size w ((((w.alloc (.cells wa 217)).alloc (.cells #[.int .i16 y.a,.int .i16 y.b] 131)).alloc (.cells xa 220)).alloc (.cells zS 220)).drew):=HB.drew;go_wp2_with fail;generalize (((w.alloc (.cells wa 217)).alloc (.cells #[.int .i16 y.a,.int .i16 y.b] 131)).alloc (.cells xa 220)).alloc (.cells zS 220)=W at *;refine wp_region_held_drew (S:=fun w':Wd=>Ck wa xa y w.heap.size w') (by kernel_rfl) H0.out (fun aa=>?_);refine tq 0 (.pointer (some ⟨w.heap.size,0,none⟩)) aa ?_;refine tk 1 (.iface 133 dv) rfl (fun w' h=>by have d:=cell_of h.o 0 jo;go_simp) aa ?_;refine tq 2 (.int .i64 (r:Nat)) aa ?_;refine tq 3 (.int .i64 (k:Nat)) aa ?_;refine tq 4 (.pointer (some ⟨w.heap.size+1+1,1,none⟩)) aa ?_;refine tq 5 (.pointer (some ⟨w.heap.size+1+1,1+k*2,none⟩)) aa ?_;refine tk 6 (.agg #[.int .i16 x.a,.int .i16 x.b]) rfl (fun w' h=>by(have d0:=cell_of h.x _ x0);have d1:=cell_of h.x _ x1;go_simp) aa ?_;refine tk 7 (.agg #[.int .i16 y.a,.int .i16 y.b]) rfl (fun w' h=>by(have d0:=cell_of h.y 0 (v:=.int .i16 y.a) rfl);have d1:=cell_of h.y 1 (v:=.int .i16 y.b) rfl;go_simp) aa ?_;refine tq 8 (.iface 133 dv) aa ?_;refine tq 9 (.iface 133 dv) aa ?_;refine Kn 10 14 ?_ ?_
 ·intro K hK
  simp only[bT,gN];go_simp;refine(HD.out _ Um.out).mono ?_;rintro q w1⟨rfl,b1⟩;go_wp2_with fail;have iv:=aa.call b1;have hH1:=iv;have Bb:Hid (Below w.heap.size w w1):=Um.trans (b1.mono Um.size);refine hK.out _ _ iv (fun aa=>?_);clear hK K iv b1;cases hq:sD r x y with
  | none =>
   simp only[ub];refine tq 11 (.tuple #[.agg #[.int .i16 0,.int .i16 0],.bool false]) aa ?_;refine tq 12 (.agg #[.int .i16 0,.int .i16 0]) aa ?_;refine tq 13 (.bool false) aa ?_;refine cH 14 fun K hK=>?_
   simp only[bT];go_simp;refine hK.out _ _ (aa.call (below_alloc1 _ _)) (fun aa=>?_);clear hK K;refine cH 15 fun K hK=>?_
   simp only[bT];go_simp;refine hK.out _ _ (hH1.call (below_alloc1 _ _)) (fun aa=>?_);clear hK K;refine cH 16 fun K hK=>?_
   simp only[bT];go_simp;refine hK.out _ _ aa (fun aa=>?_);clear hK K;refine wpAnyH_done (by kernel_rfl) ?_ _;have fM:=aa;have DX:=heap_alloc_new w1 (.cells #[.int .i16 0,.int .i16 0] 131);have NH:Hid (Below w.heap.size w (w1.alloc (.cells #[.int .i16 0,.int .i16 0] 131))):=Bb.alloc Bb.size _;have TQ:Hid (u=none):=QS.trans (by rw[hq];try rfl);clear QS hq;have HZ:=hid fM.z;have gA:Hid (_=_):=ar fM.z (d:=na) (by rw[rO];rfl);have fH:Hid (Below w.heap.size w _):=au (b:=w.heap.size+1+1+1) (by omega) na.toList 0 w _ NH.out;clear fM aa;generalize (w1.alloc (.cells #[.int .i16 0,.int .i16 0] 131))=w2 at *;go_wp2_with (first
    | (refine As rfl _ _ rfl rfl rfl pV.out HZ.out rfl ?_))
   refine bodyPost_ret (aN results228 _ _ rfl gA.out rO) rfl ⟨by rw[TQ.out,pV.out];rfl,fH.out⟩
  | some v =>
   simp only[ub];refine tq 11 (.tuple #[.agg #[.int .i16 v.a,.int .i16 v.b],.bool true]) aa ?_;refine tq 12 (.agg #[.int .i16 v.a,.int .i16 v.b]) aa ?_;refine tq 13 (.bool true) aa ?_;refine cH 14 fun K hK=>?_
   simp only[bT];go_simp;refine hK.out _ _ (aa.call (below_alloc1 _ _)) (fun aa=>?_);clear hK K;refine cH 15 fun K hK=>?_
   simp only[bT];go_simp;refine hK.out _ _ (hH1.call (below_alloc1 _ _)) (fun aa=>?_);clear hK K;refine cH 16 fun K hK=>?_
   simp only[bT];go_simp;refine hK.out _ _ aa (fun aa=>?_);clear hK K;refine wpAnyH_done (by kernel_rfl) ?_ _;have fM:=aa;have DX:=heap_alloc_new w1 (.cells #[.int .i16 v.a,.int .i16 v.b] 131);have NH:Hid (Below w.heap.size w (w1.alloc (.cells #[.int .i16 v.a,.int .i16 v.b] 131))):=Bb.alloc Bb.size _;have TQ:Hid (u=some (gZ (Dm π) e k v)):=QS.trans (by rw[hq];try rfl);clear QS hq;obtain⟨n0,n1,_,_,_⟩:=aH DX;have y0:=cell_of fM.x _ x0;have y1:=cell_of fM.x _ x1;have f0:=aw fM.x (1+k*2);have f1:=aw fM.x (1+k*2+1);have xr:=ai (ai fM.x (1+k*2) (.int .i16 v.a)) (1+k*2+1) (.int .i16 v.b);rw[Bn.out v]at xr;have Dt:w.heap.size+1+1+1≠w.heap.size+1+1:=by omega
   have js:(((w1.alloc (.cells #[.int .i16 v.a,.int .i16 v.b] 131)).setCell ⟨w.heap.size+1+1,1+k*2,none⟩ (.int .i16 v.a)).setCell ⟨w.heap.size+1+1,1+k*2+1,none⟩ (.int .i16 v.b)).heap[w.heap.size+1+1+1]?=some (.cells eX 220):=by rw[Below.heap_setCell _ _ _ _ (show w.heap.size+1+1+1≠(⟨w.heap.size+1+1,1+k*2+1,none⟩:Addr).block from Dt),Below.heap_setCell _ _ _ _ (show w.heap.size+1+1+1≠(⟨w.heap.size+1+1,1+k*2,none⟩:Addr).block from Dt)];exact fM.z
   have DQ:=hid xr;have Kv:=hid js;obtain⟨o1,o2⟩:=Hk.out v;have gA:Hid (_=_):=ar js (d:=aK (show ST from some (gZ (Dm π) e k v))) (by rw[o1];rfl);have fH:Hid (Below w.heap.size w _):=au (b:=w.heap.size+1+1+1) (by omega) (aK (show ST from some (gZ (Dm π) e k v))).toList 0 w _ ((NH.setCell (p:=⟨w.heap.size+1+1,1+k*2,none⟩) (by show w.heap.size<=w.heap.size+1+1;omega) (.int .i16 v.a)).setCell (p:=⟨w.heap.size+1+1,1+k*2+1,none⟩) (by show w.heap.size<=w.heap.size+1+1;omega) (.int .i16 v.b));clear fM aa xr js DX Bn Hk;generalize (w1.alloc (.cells #[.int .i16 v.a,.int .i16 v.b] 131))=w2 at *;generalize rS:aK (show ST from some (gZ (Dm π) e k v))=za at *;have Ty:=hid rS;clear rS;go_wp2_with (first
    | (refine bt rfl _ rfl rfl DQ.out o1 ?_)
    | (refine bV rfl _ _ rfl rfl rfl Kv.out rfl o1 o2 ?_))
   refine bodyPost_ret (aN results228 _ _ rfl gA.out o1) rfl ⟨by rw[TQ.out];exact congrArg (fun z=>Ending.returned (.agg z)) Ty.symm,fH.out⟩
 ·intro K hK
  simp only[bT,gN];go_simp;have Tl:=aa.call (below_alloc1 _ (.cells #[.int .i16 0,.int .i16 0] 131));have Uf:w.heap.size≠W.heap.size:=by have:=ah aa.z;show w.heap.size≠W.drew.heap.size;omega
  have Oa:w.heap.size+1≠W.heap.size:=by have:=ah aa.z;show w.heap.size+1≠W.drew.heap.size;omega
  have Ob:w.heap.size+1+1≠W.heap.size:=by have:=ah aa.z;show w.heap.size+1+1≠W.drew.heap.size;omega
  have Uh:w.heap.size+1+1+1≠W.heap.size:=by have:=ah aa.z;show w.heap.size+1+1+1≠W.drew.heap.size;omega
  have Tf:w.heap.size<=W.heap.size:=Um.size;have HBa:Hid (Below w.heap.size w (W.drew.alloc (.cells #[.int .i16 0,.int .i16 0] 131))):=Um.alloc Um.size _;have HNa:Hid (_=_):=heap_alloc_new W.drew (.cells #[.int .i16 0,.int .i16 0] 131);refine hK.out _ _ Tl (fun aa=>?_);clear hK K Tl;refine cH 10 fun K hK=>?_
  simp only[bT];go_simp;refine(HD.out _ HBa.out).mono ?_;rintro q w1⟨rfl,b1⟩;go_wp2_with fail;have iv:=aa.call b1;have Bb:Hid (Below w.heap.size w w1):=HBa.trans (b1.mono HBa.size);have J9:Hid (w1.heap[W.heap.size]?=some (.cells #[.int .i16 0,.int .i16 0] 131)):=(b1.block _ (ah HNa.out)).trans HNa.out;obtain⟨g0,g1,gf0,gf1,_⟩:=aH J9.out;refine hK.out _ _ iv (fun aa=>?_);clear hK K iv b1;cases hq:sD r x y with
  | none =>
   simp only[ub];refine tq 11 (.tuple #[.agg #[.int .i16 0,.int .i16 0],.bool false]) aa ?_;refine tq 12 (.agg #[.int .i16 0,.int .i16 0]) aa ?_;refine tq 13 (.bool false) aa ?_;refine cH 15 fun K hK=>?_
   simp only[bT];go_simp;refine hK.out _ _ ⟨bJ Uf aa.o _ _,bJ Oa aa.y _ _,bJ Ob aa.x _ _,bJ Uh aa.z _ _⟩ (fun aa=>?_);clear hK K;refine cH 16 fun K hK=>?_
   simp only[bT];go_simp;refine hK.out _ _ aa (fun aa=>?_);clear hK K;refine wpAnyH_done (by kernel_rfl) ?_ _;have fM:=aa;have DX:=cA J9.out (.int .i16 0) (.int .i16 0);have NH:Hid (Below w.heap.size w _):=Below.two Bb.out Tf (.int .i16 0) (.int .i16 0);have TQ:Hid (u=none):=QS.trans (by rw[hq];try rfl);clear QS hq;have HZ:=hid fM.z;have gA:Hid (_=_):=ar fM.z (d:=na) (by rw[rO];rfl);have fH:Hid (Below w.heap.size w _):=au (b:=w.heap.size+1+1+1) (by omega) na.toList 0 w _ NH.out;clear fM aa;generalize ((w1.setCell ⟨W.heap.size,0,none⟩ (.int .i16 0)).setCell ⟨W.heap.size,1,none⟩ (.int .i16 0))=w2 at *;go_wp2_with (first
    | (refine As rfl _ _ rfl rfl rfl pV.out HZ.out rfl ?_))
   refine bodyPost_ret (aN results228 _ _ rfl gA.out rO) rfl ⟨by rw[TQ.out,pV.out];rfl,fH.out⟩
  | some v =>
   simp only[ub];refine tq 11 (.tuple #[.agg #[.int .i16 v.a,.int .i16 v.b],.bool true]) aa ?_;refine tq 12 (.agg #[.int .i16 v.a,.int .i16 v.b]) aa ?_;refine tq 13 (.bool true) aa ?_;refine cH 15 fun K hK=>?_
   simp only[bT];go_simp;refine hK.out _ _ ⟨bJ Uf aa.o _ _,bJ Oa aa.y _ _,bJ Ob aa.x _ _,bJ Uh aa.z _ _⟩ (fun aa=>?_);clear hK K;refine cH 16 fun K hK=>?_
   simp only[bT];go_simp;refine hK.out _ _ aa (fun aa=>?_);clear hK K;refine wpAnyH_done (by kernel_rfl) ?_ _;have fM:=aa;have DX:=cA J9.out (.int .i16 v.a) (.int .i16 v.b);have NH:Hid (Below w.heap.size w _):=Below.two Bb.out Tf (.int .i16 v.a) (.int .i16 v.b);have TQ:Hid (u=some (gZ (Dm π) e k v)):=QS.trans (by rw[hq];try rfl);clear QS hq;obtain⟨n0,n1,_,_,_⟩:=aH DX;have y0:=cell_of fM.x _ x0;have y1:=cell_of fM.x _ x1;have f0:=aw fM.x (1+k*2);have f1:=aw fM.x (1+k*2+1);have xr:=ai (ai fM.x (1+k*2) (.int .i16 v.a)) (1+k*2+1) (.int .i16 v.b);rw[Bn.out v]at xr;have Dt:w.heap.size+1+1+1≠w.heap.size+1+1:=by omega
   have js:((((w1.setCell ⟨W.heap.size,0,none⟩ (.int .i16 v.a)).setCell ⟨W.heap.size,1,none⟩ (.int .i16 v.b)).setCell ⟨w.heap.size+1+1,1+k*2,none⟩ (.int .i16 v.a)).setCell ⟨w.heap.size+1+1,1+k*2+1,none⟩ (.int .i16 v.b)).heap[w.heap.size+1+1+1]?=some (.cells eX 220):=by rw[Below.heap_setCell _ _ _ _ (show w.heap.size+1+1+1≠(⟨w.heap.size+1+1,1+k*2+1,none⟩:Addr).block from Dt),Below.heap_setCell _ _ _ _ (show w.heap.size+1+1+1≠(⟨w.heap.size+1+1,1+k*2,none⟩:Addr).block from Dt)];exact fM.z
   have DQ:=hid xr;have Kv:=hid js;obtain⟨o1,o2⟩:=Hk.out v;have gA:Hid (_=_):=ar js (d:=aK (show ST from some (gZ (Dm π) e k v))) (by rw[o1];rfl);have fH:Hid (Below w.heap.size w _):=au (b:=w.heap.size+1+1+1) (by omega) (aK (show ST from some (gZ (Dm π) e k v))).toList 0 w _ ((NH.setCell (p:=⟨w.heap.size+1+1,1+k*2,none⟩) (by show w.heap.size<=w.heap.size+1+1;omega) (.int .i16 v.a)).setCell (p:=⟨w.heap.size+1+1,1+k*2+1,none⟩) (by show w.heap.size<=w.heap.size+1+1;omega) (.int .i16 v.b));clear fM aa xr js DX Bn Hk;generalize ((w1.setCell ⟨W.heap.size,0,none⟩ (.int .i16 v.a)).setCell ⟨W.heap.size,1,none⟩ (.int .i16 v.b))=w2 at *;generalize rS:aK (show ST from some (gZ (Dm π) e k v))=za at *;have Ty:=hid rS;clear rS;go_wp2_with (first
    | (refine bt rfl _ rfl rfl DQ.out o1 ?_)
    | (refine bV rfl _ _ rfl rfl rfl Kv.out rfl o1 o2 ?_))
   refine bodyPost_ret (aN results228 _ _ rfl gA.out o1) rfl ⟨by rw[TQ.out];exact congrArg (fun z=>Ending.returned (.agg z)) Ty.symm,fH.out⟩
theorem ts(v:Value)(x:Sp.Sm)(hv:jM v x)(r:Nat)(hr:r<6)(dv:Value)(wa:Array Value)(jo:wa[0]?=some (.iface 133 dv))(y:Sp.Iv)(hy:Wv y)(s:ST)(hs:Sp.Wf (Kr π) s)(w:Wd)(hd:fG B π dv w)(u:ST)(hu:qz (Dm π) x r y s=u) :
  Calls prog 228 #[.agg wa,v,.int .i64 (r:Nat),.agg #[.int .i16 y.a,.int .i16 y.b],.agg (aK s)] w fun e w'=>e=.returned (.agg (aK u))/\Below w.heap.size w w':=by
 cases s with
 | none =>
  have hu:u=none:=by rw[<-hu];rfl
  subst hu;cases x with
  | name k =>obtain⟨rfl,hk⟩:=hv;exact fU _ _ r wa y none w (.inl rfl) (fun _=>.inl ⟨k,rfl,rfl⟩)
  | num n=>obtain⟨⟨t,u,rfl⟩,h⟩:=hv;exact fU t u r wa y none w (.inr h) (fun _=>.inr h)
  | neg z=>obtain⟨⟨t,u,rfl⟩,h⟩:=hv;exact fU t u r wa y none w (.inr h) (fun _=>.inr h)
  | bin k z q=>obtain⟨⟨t,u,rfl⟩,h⟩:=hv;exact fU t u r wa y none w (.inr h) (fun _=>.inr h)
 | some e =>
  cases x with
  | name k =>obtain⟨rfl,hk⟩:=hv;exact Fi k hk r hr dv wa jo y hy e (hs _ rfl) w hd u hu
  | num n=>obtain⟨⟨t,z,rfl⟩,h⟩:=hv;have hu:u=some e:=hu.symm;subst hu;exact fU t z r wa y (some e) w (.inr h) (fun _=>.inr h)
  | neg z=>obtain⟨⟨t,z,rfl⟩,h⟩:=hv;have hu:u=some e:=hu.symm;subst hu;exact fU t z r wa y (some e) w (.inr h) (fun _=>.inr h)
  | bin k z q=>obtain⟨⟨t,z,rfl⟩,h⟩:=hv;have hu:u=some e:=hu.symm;subst hu;exact fU t z r wa y (some e) w (.inr h) (fun _=>.inr h)
structure iW(wa xa:Array Value)(c0 vl vr:Value)(a b:Sp.Iv)(kw kl kr kc ks:Nat)(W:Wd):Prop where
 o:W.heap[kw]?=some (.cells wa 217)
 l:W.heap[kl]?=some (.cells #[.int .i16 a.a,.int .i16 a.b] 131)
 r:W.heap[kr]?=some (.cells #[.int .i16 b.a,.int .i16 b.b] 131)
 c:W.heap[kc]?=some (.cells #[c0,vl,vr] 285)
 x:W.heap[ks]?=some (.cells xa 220)
theorem iW.call{c0 vl vr:Value}{a b:Sp.Iv}{kw kl kr kc ks:Nat}(h:iW wa xa c0 vl vr a b kw kl kr kc ks W)(k:Below W.heap.size W W'):iW wa xa c0 vl vr a b kw kl kr kc ks W' :=
 ⟨(k.block _ (ah h.o)).trans h.o,(k.block _ (ah h.l)).trans h.l,(k.block _ (ah h.r)).trans h.r,(k.block _ (ah h.c)).trans h.c,(k.block _ (ah h.x)).trans h.x⟩
theorem JE(r:Nat)(hr:r<6)(dv:Value)(wa xa:Array Value)(jo:wa[0]?=some (.iface 133 dv))(c0 vl vr:Value)(a b:Sp.Iv)(ha:Wv a)(hb:Wv b)(kw kl kr kc ks:Nat)(w:Wd)(hd:fG B π dv w)(hT:gw w)(hG:11<=w.heap.size)(h:iW wa xa c0 vl vr a b kw kl kr kc ks w)(hm:Oy r a b=false) :
  Calls prog 227 #[.int .i64 (r:Nat),.pointer (some ⟨kw,0,none⟩),.pointer (some ⟨kl,0,none⟩),.pointer (some ⟨kr,0,none⟩),.pointer (some ⟨kc,0,none⟩),.pointer (some ⟨ks,0,none⟩)] w fun e w'=>e=.returned (.agg (aK none))/\Below w.heap.size w w':=by
 have kb:=below_alloc1 w (.cells zS 220);have h0:=h.call kb;have HD:=U8 (hd.below (kb.mono hd.size)) (hT.below kb hG) (Nat.le_trans hG kb.size) hr ha hb;rw[hm]at HD;have d0:=cell_of h0.o 0 jo;obtain⟨x0,x1,_,_,_⟩:=aH h0.l;obtain⟨y0,y1,_,_,_⟩:=aH h0.r;have HZ:Hid (_=_):=heap_alloc_new w (.cells zS 220);have HB:=hid kb;obtain⟨na,qH⟩:∃na,na=eX:=⟨_,rfl⟩;have rO:na.size=17:=by rw[qH];rfl
 have pV:=hid qH;clear qH h0 h hd hT kb;go_enter func227,ntmps227;go_wp2_with fail;refine HD.mono ?_;rintro q w1⟨rfl,b1⟩;have gT:=(b1.block _ (ah HZ.out)).trans HZ.out;have xF:=hid gT;have gA:Hid (_=_):=ar gT (d:=na) (by rw[rO];rfl);have fH:Hid (Below w.heap.size w _):=au (b:=w.heap.size) (Nat.le_refl _) na.toList 0 w _ (HB.trans (b1.mono HB.size));clear b1 gT HD d0 x0 x1 y0 y1;go_wp2_with (first
  | (refine As rfl _ _ rfl rfl rfl pV.out xF.out rfl ?_))
 refine bodyPost_ret (aN results227 _ _ rfl gA.out rO) rfl ⟨by rw[pV.out];rfl,fH.out⟩
theorem Fb(r:Nat)(hr:r<6)(hm6:dT r<6)(dv:Value)(wa:Array Value)(jo:wa[0]?=some (.iface 133 dv))(eg:wa.size=8)(c0 vl vr:Value)(tl tr:TypeId)(ul ur:Value)(Uv:vl=.iface tl ul)(hvr:vr=.iface tr ur)(x y:Sp.Sm)(hl:jM vl x)(hy:jM vr y)(a b:Sp.Iv)(ha:Wv a)(hb:Wv b)(e:Fin 8->Sp.Iv)(he:∀k,Wv (e k))(kw kl kr kc ks:Nat)(w:Wd)(hd:fG B π dv w)(hT:gw w)(hG:11<=w.heap.size)(h:iW wa (aK (some e)) c0 vl vr a b kw kl kr kc ks w)(hm:Oy r a b=true)(s1 u:ST)(iv:qz (Dm π) x r b (some e)=s1)(hu:qz (Dm π) y (dT r) a s1=u) :
  Calls prog 227 #[.int .i64 (r:Nat),.pointer (some ⟨kw,0,none⟩),.pointer (some ⟨kl,0,none⟩),.pointer (some ⟨kr,0,none⟩),.pointer (some ⟨kc,0,none⟩),.pointer (some ⟨ks,0,none⟩)] w fun e w'=>e=.returned (.agg (aK u))/\Below w.heap.size w w':=by
 have kb:=below_alloc1 w (.cells zS 220);have h0:=h.call kb;have HD:=U8 (hd.below (kb.mono hd.size)) (hT.below kb hG) (Nat.le_trans hG kb.size) hr ha hb;rw[hm]at HD;have XR:Sp.Wf (Kr π) s1:=by rw[<-iv];exact uL (Sp.Wf.some he) hb
 have Bb:Hid (∀W,Below w.heap.size w W->Calls _ _ _ W _):=fun W hW=>ts (B:=B) (π:=π) vl x hl r hr dv wa jo b hb (some e) (Sp.Wf.some he) W (hd.below (hW.mono hd.size)) s1 iv
 have kD:Hid (∀W,Below w.heap.size w W->Calls _ _ _ W _):=fun W hW=>ts (B:=B) (π:=π) vr y hy (dT r) hm6 dv wa jo a ha s1 XR W (hd.below (hW.mono hd.size)) u hu
 have HM:Hid (∀W,Below w.heap.size w W->Calls _ _ _ W _):=fun W hW=>mW r hr W (hT.below hW hG)
 have lo:=ah h.o;have ll:=ah h.l;have lr:=ah h.r;have lc:=ah h.c;have lx:=ah h.x;have d0:=cell_of h0.o 0 jo;obtain⟨x0,x1,_,_,_⟩:=aH h0.l;obtain⟨y0,y1,_,_,_⟩:=aH h0.r;subst Uv hvr;have eH:=aF (some e);have TJ:=aF u;have Kp:=aX u;generalize aK (some e)=xa at *;generalize aK s1=sa at *;generalize aK u=ua at *;have HZ:Hid (_=_):=heap_alloc_new w (.cells zS 220);have HB:=hid kb;have HC:Hid (iW wa xa c0 (.iface tl ul) (.iface tr ur) a b kw kl kr kc ks _):=h0;clear h0 h hd hT kb;go_enter func227,ntmps227;go_wp2_with fail;refine HD.mono ?_;rintro q w1⟨rfl,b1⟩;have yk:Hid (Below w.heap.size w w1.drew):=(HB.trans (b1.mono HB.size)).drew;have H0:Hid (iW wa xa c0 (.iface tl ul) (.iface tr ur) a b kw kl kr kc ks w1.drew/\w1.drew.heap[w.heap.size]?=some (.cells zS 220)/\Below w.heap.size w w1.drew):=⟨HC.call b1.drew,(b1.block _ (ah HZ.out)).trans HZ.out,yk.out⟩;clear b1 HD d0 x0 x1 y0 y1;go_wp2_with fail;refine wp_region_held_drew (S:=fun w':Wd=>iW wa xa c0 (.iface tl ul) (.iface tr ur) a b kw kl kr kc ks w'/\(∃c,c.size=17/\w'.heap[w.heap.size]?=some (.cells c 220))/\Below w.heap.size w w') (by kernel_rfl) ⟨H0.1,⟨_,rfl,H0.2.1⟩,H0.2.2⟩ (fun aa=>?_);refine mj 0 rfl (yieldsIf_load_mid (by rfl) _ _ rfl _ _ rfl (wa).toList _ (fun w' h=>aT h.1.o) underlying217 rfl (by rw[fD,Array.length_toList,eg])) aa ?_;refine mj 6 rfl (yieldsIf_load_mid (by rfl) _ _ rfl _ _ rfl (wa).toList _ (fun w' h=>aT h.1.o) underlying217 rfl (by rw[fD,Array.length_toList,eg])) aa ?_;refine mj 11 rfl (yieldsIf_load_mid (by rfl) _ _ rfl _ _ rfl (xa).toList _ (fun w' h=>aT h.1.x) underlying220 rfl (by rw[bP,Array.length_toList,eH])) aa ?_;refine tq 1 (.pointer (some ⟨kc,2,none⟩)) aa ?_;refine tk 2 (.iface tr ur) rfl (fun w' h=>by have d:=cell_of h.1.c 2 (v:=.iface tr ur) rfl;go_simp) aa ?_;refine tq 3 (.int .i64 (r:Nat)) aa ?_;refine tk 5 (.agg #[.int .i16 a.a,.int .i16 a.b]) rfl (fun w' h=>by(have d0:=cell_of h.1.l 0 (v:=.int .i16 a.a) rfl);have d1:=cell_of h.1.l 1 (v:=.int .i16 a.b) rfl;go_simp) aa ?_;refine tq 7 (.pointer (some ⟨kc,1,none⟩)) aa ?_;refine tk 8 (.iface tl ul) rfl (fun w' h=>by have d:=cell_of h.1.c 1 (v:=.iface tl ul) rfl;go_simp) aa ?_;refine tq 9 (.int .i64 (r:Nat)) aa ?_;refine tk 10 (.agg #[.int .i16 b.a,.int .i16 b.b]) rfl (fun w' h=>by(have d0:=cell_of h.1.r 0 (v:=.int .i16 b.a) rfl);have d1:=cell_of h.1.r 1 (v:=.int .i16 b.b) rfl;go_simp) aa ?_;refine cH 4 fun K hK=>?_
 simp only[bT,gN,Array.toArray_toList];go_simp;refine(HM.out _ aa.2.2).mono ?_;rintro q w2⟨rfl,rfl⟩;go_wp2_with fail;refine hK.out _ _ aa (fun aa=>?_);clear hK K;refine cH 12 fun K hK=>?_
 simp only[bT];go_simp;refine(Bb.out _ aa.2.2).mono ?_;rintro q w3⟨rfl,b3⟩;go_wp2_with fail;obtain⟨c3,DP,js⟩:=aa.2.1;have uO:iW wa xa c0 (.iface tl ul) (.iface tr ur) a b kw kl kr kc ks w3/\(∃c,c.size=17/\w3.heap[w.heap.size]?=some (.cells c 220))/\Below w.heap.size w w3:=⟨aa.1.call b3,⟨c3,DP,(b3.block _ (ah js)).trans js⟩,aa.2.2.trans (b3.mono aa.2.2.size)⟩;refine hK.out _ _ uO (fun aa=>?_);clear hK K uO b3 js;refine cH 13 fun K hK=>?_
 simp only[bT];go_simp;refine(kD.out _ aa.2.2).mono ?_;rintro q w4⟨rfl,b4⟩;go_wp2_with fail;obtain⟨c4,tM,od⟩:=aa.2.1;have oS:=(b4.block _ (ah od)).trans od;have Us:iW wa xa c0 (.iface tl ul) (.iface tr ur) a b kw kl kr kc ks w4/\(∃c,c.size=17/\w4.heap[w.heap.size]?=some (.cells c 220))/\Below w.heap.size w w4:=⟨aa.1.call b4,⟨c4,tM,oS⟩,aa.2.2.trans (b4.mono aa.2.2.size)⟩;refine hK.out _ _ Us (fun aa=>?_);clear hK K Us b4 od;have gA:Hid (_=_):=ar oS (d:=ua) (by omega);have fH:Hid (Below w.heap.size w _):=au (b:=w.heap.size) (Nat.le_refl _) ua.toList 0 w _ aa.2.2;refine cH 14 fun K hK=>?_
 simp only[bT];rw[if_pos (by rfl)];refine kG _ _ rfl rfl rfl (by rw[<-tM];exact bI oS) TJ Kp ?_;refine hK.out _ _ ⟨⟨(al _ _ _ _ (by omega)).trans aa.1.o,(al _ _ _ _ (by omega)).trans aa.1.l,(al _ _ _ _ (by omega)).trans aa.1.r,(al _ _ _ _ (by omega)).trans aa.1.c,(al _ _ _ _ (by omega)).trans aa.1.x⟩,⟨ua,TJ,gA.out⟩,fH.out⟩ (fun _=>?_);clear hK K;refine wpAnyH_done (by kernel_rfl) ?_ _;go_wp2_with fail;refine bodyPost_ret (aN results227 _ _ rfl gA.out TJ) rfl ⟨rfl,fH.out⟩
theorem jD(r:Nat)(hr:r<6)(dv:Value)(wa:Array Value)(jo:wa[0]?=some (.iface 133 dv))(eg:wa.size=8)(c0:Value)(tl tr:TypeId)(ul ur:Value)(x y:Sp.Sm)(hl:jM (.iface tl ul) x)(hy:jM (.iface tr ur) y)(a b:Sp.Iv)(ha:Wv a)(hb:Wv b)(e:Fin 8->Sp.Iv)(he:∀k,Wv (e k))(kw kl kr kc ks:Nat)(w:Wd)(hd:fG B π dv w)(hT:gw w)(hG:11<=w.heap.size)(h:iW wa (aK (some e)) c0 (.iface tl ul) (.iface tr ur) a b kw kl kr kc ks w)(u:ST)(hu:fJ (Dm π) r x y a b e=u) :
  Calls prog 227 #[.int .i64 (r:Nat),.pointer (some ⟨kw,0,none⟩),.pointer (some ⟨kl,0,none⟩),.pointer (some ⟨kr,0,none⟩),.pointer (some ⟨kc,0,none⟩),.pointer (some ⟨ks,0,none⟩)] w fun e w'=>e=.returned (.agg (aK u))/\Below w.heap.size w w':=by
 have hm6:dT r<6:=by rcases(show r=0∨r=1∨r=2∨r=3∨r=4∨r=5 from by omega) with rfl | rfl | rfl | rfl | rfl | rfl<;>decide
 cases hm:Oy r a b with
 | false =>
  have:u=none:=by rw[<-hu];exact tI (Dm π) r x y a b e hm
  subst this;exact JE r hr dv wa _ jo c0 _ _ a b ha hb kw kl kr kc ks w hd hT hG h hm
 | true =>exact Fb r hr hm6 dv wa jo eg c0 _ _ tl tr ul ur rfl rfl x y hl hy a b ha hb e he kw kl kr kc ks w hd hT hG h hm _ u rfl ((Cy (Dm π) r x y a b e hm).symm.trans hu)
def mV(C:Cx)(π:bO)(T:gB)(F:Fd)(b:Bool)(v:Value)(e:Fin 8->Sp.Iv)(es:List cr)(o:Option Sp.Iv):Prop :=
 ∀W,aM C π T F W->Calls prog 197 #[.agg (wk C b),v,.agg (aK (some e))] W (gL C π T F b W es o)
theorem j9(tv:TypeId)(uv:Value)(C:Cx)(π:bO)(T:gB)(F:Fd)(b:Bool)(w:Wd)(e:Fin 8->Sp.Iv)(es:List cr)(o:Option Sp.Iv)(h:aM C π T F w)
  (hs:mV C π T F b (.iface tv uv) e es o) (Tu:∀a,o=some a->Wv a) :
  Calls prog 224 #[.agg (wk C b),.agg #[.iface tv uv],.agg (aK (some e))] w (gL C π T F b w es (o.map qi)):=by
 obtain⟨k0,k1,k2,k3,kb⟩:=bM (w:=w) (o1:=.cells (wk C b) 217) (o2:=.cells #[.iface tv uv] 330) (o3:=.cells (aK (some e)) 220) (o4:=.cells #[.int .i16 0,.int .i16 0] 131) (Below.refl _ _);have HW:=hs _ (h.call kb);have jo:=jy C b;have eg:=cC C b;have eH:=aF (some e);generalize wk C b=wa at *;generalize aK (some e)=xa at *;have K0:=hid k0;have K2:=hid k2;have K3:=hid k3;have c1:=cell_of k1 0 (v:=.iface tv uv) rfl;have HB:=hid kb;have HA:=hid h;have hle:w.heap.size<=w.heap.size+1+1+1:=by omega
 clear h k0 k1 k2 k3 kb hs;cases o with
 | none =>
  go_enter func224,ntmps224;go_wp2_with (first
   | (refine cm rfl _ rfl rfl K0.out eg ?_)
   | (refine bt rfl _ rfl rfl K2.out eH ?_))
  refine HW.mono ?_;rintro r w1⟨rfl,a1,b1⟩;have gT:=b1.aW HA.out hle K3.out;obtain⟨m0,m1,kh,kj,mq⟩:=aH gT;have h2:=cA gT (.int .i16 0) (.int .i16 0);obtain⟨q0,q1,mv,mu,_⟩:=aH h2;have H4:Hid (_=_):=cA h2 (.int .i16 0) (.int .i16 0);have DR:Hid (Below w.heap.size w1 _):=Below.two (Below.two (Below.refl w.heap.size w1) hle (.int .i16 0) (.int .i16 0)) hle (.int .i16 0) (.int .i16 0);have nN:=hid a1;have mx:Hid (ay C w w1):=(ay.aB HB.out HA.le).trans b1;clear mq gT a1 b1 HW h2;simp only[ub];go_wp2_with fail;have Q0:=cell_of H4.out 0 (v:=.int .i16 0) rfl;have Q1:=cell_of H4.out 1 (v:=.int .i16 0) rfl;refine bodyPost_ret (v:=.tuple #[.agg #[.int .i16 0,.int .i16 0],.bool false]) (by simp[results,results224,go_sem,Q0,Q1]) rfl ?_;exact⟨rfl,HA.upon nN.out DR.out,ay.upon HA.out mx.out DR.out⟩
 | some a =>
  have wa':=Tu a rfl;go_enter func224,ntmps224;go_wp2_with (first
   | (refine cm rfl _ rfl rfl K0.out eg ?_)
   | (refine bt rfl _ rfl rfl K2.out eH ?_))
  refine HW.mono ?_;rintro r w1⟨rfl,a1,b1⟩;have gT:=b1.aW HA.out hle K3.out;have Rn:=b1.aW HA.out (Nat.le_refl _) K0.out;obtain⟨m0,m1,kh,kj,mq⟩:=aH gT;have h2:=cA gT (.int .i16 a.a) (.int .i16 a.b);have kD:Hid (Below w.heap.size w1 _):=Below.two (Below.refl w.heap.size w1) hle (.int .i16 a.a) (.int .i16 a.b);obtain⟨q0,q1,mv,mu,_⟩:=aH h2;have db:w.heap.size≠w.heap.size+1+1+1:=by omega
  have d0:=cell_of (bJ db Rn (.int .i16 a.a) (.int .i16 a.b)) 0 jo;have nN:=hid a1;have mx:Hid (ay C w w1):=(ay.aB HB.out HA.le).trans b1;have H2:Hid (_=_):=h2;have b1s:=b1.below.size;have HD:=PV (HA.upon a1 kD.out).does wa';clear mq gT a1 b1 HW h2 Rn db;simp only[ub];go_wp2_with fail;refine HD.mono ?_;rintro r w2⟨rfl,b2⟩;have dI:=Nat.le_trans (Nat.le_trans HB.size b1s) kD.size;have h3:=(b2.block _ (ah H2.out)).trans H2.out;obtain⟨p0,p1,TH,S2,_⟩:=aH h3;have h4:=cA h3 (.int .i16 (qi a).a) (.int .i16 (qi a).b);obtain⟨s0,s1,YB,XQ,_⟩:=aH h4;have H5:Hid (_=_):=cA h4 (.int .i16 (qi a).a) (.int .i16 (qi a).b);have A5:Hid (Below w.heap.size w1 _):=Below.two (Below.two (kD.trans (b2.mono dI)) hle (.int .i16 (qi a).a) (.int .i16 (qi a).b)) hle (.int .i16 (qi a).a) (.int .i16 (qi a).b);clear b2 h3 h4 HD q0 q1 mv mu m0 m1 kh kj d0;go_wp2_with fail;have Q0:=cell_of H5.out 0 (v:=.int .i16 (qi a).a) rfl;have Q1:=cell_of H5.out 1 (v:=.int .i16 (qi a).b) rfl;refine bodyPost_ret (v:=.tuple #[.agg #[.int .i16 (qi a).a,.int .i16 (qi a).b],.bool true]) (by simp[results,results224,go_sem,Q0,Q1]) rfl ?_;exact⟨rfl,HA.upon nN.out A5.out,ay.upon HA.out mx.out A5.out⟩
def oW(C:Cx)(π:bO)(T:gB)(F:Fd)(b:Bool)(w:Wd)(es:List cr)(o:Option (Sp.Iv × Sp.Iv))(r:Ending)(w':Wd):Prop :=
 (match o with
   | some (x,y)=>r=.returned (.tuple #[.agg #[.int .i16 x.a,.int .i16 x.b],.agg #[.int .i16 y.a,.int .i16 y.b],.bool true])
   | none=>∃i j k l:Int,r=.returned (.tuple #[.agg #[.int .i16 i,.int .i16 j],.agg #[.int .i16 k,.int .i16 l],.bool false]))/\aM C π T (told π b F es) w'/\ay C w w'
theorem KV(tl:TypeId)(ul:Value)(tr:TypeId)(ur:Value)(C:Cx)(π:bO)(T:gB)(F:Fd)(b:Bool)(w:Wd)(e:Fin 8->Sp.Iv)(es:List cr)(h:aM C π T F w)
  (hs:mV C π T F b (.iface tl ul) e es none) :
  Calls prog 226 #[.agg (wk C b),.iface tl ul,.iface tr ur,.agg (aK (some e))] w (oW C π T F b w es none):=by
 obtain⟨k0,k1,k2,k3,kb⟩:=bM (w:=w) (o1:=.cells (wk C b) 217) (o2:=.cells (aK (some e)) 220) (o3:=.cells #[.int .i16 0,.int .i16 0] 131) (o4:=.cells #[.int .i16 0,.int .i16 0] 131) (Below.refl _ _);have HW:=hs _ (h.call kb);have eg:=cC C b;have eH:=aF (some e);generalize wk C b=wa at *;generalize aK (some e)=xa at *;have K0:=hid k0;have K1:=hid k1;have K2:=hid k2;have K3:=hid k3;have HB:=hid kb;have HA:=hid h;have lD:w.heap.size<=w.heap.size+1+1:=by omega
 have iM:w.heap.size<=w.heap.size+1+1+1:=by omega
 have DW:w.heap.size+1+1+1≠w.heap.size+1+1:=by omega
 have TZ:w.heap.size+1+1≠w.heap.size+1+1+1:=by omega
 clear h k0 k1 k2 k3 kb hs;go_enter func226,ntmps226;go_wp2_with (first
  | (refine cm rfl _ rfl rfl K0.out eg ?_)
  | (refine bt rfl _ rfl rfl K1.out eH ?_))
 refine HW.mono ?_;rintro r w1⟨rfl,a1,b1⟩;have Ho:=b1.aW HA.out lD K2.out;have NJ:=b1.aW HA.out iM K3.out;obtain⟨m0,m1,kh,kj,_⟩:=aH Ho;have my:=cA Ho (.int .i16 0) (.int .i16 0);have uU:=bJ DW NJ (.int .i16 0) (.int .i16 0);have mx:Hid (ay C w w1):=(ay.aB HB.out HA.le).trans b1;have kD:Hid (Below w.heap.size w1 _):=Below.two (Below.refl w.heap.size w1) lD (.int .i16 0) (.int .i16 0);obtain⟨q0,q1,mv,mu,_⟩:=aH my;obtain⟨p0,p1,TH,S2,_⟩:=aH uU;have nN:=hid a1;have xt:=hid my;have DJ:=hid uU;clear a1 b1 HW Ho NJ my uU;simp only[ub];go_wp2_with fail;generalize (w1.setCell ⟨w.heap.size+1+1,0,none⟩ (.int .i16 0)).setCell ⟨w.heap.size+1+1,1,none⟩ (.int .i16 0)=w2 at *;have DQ:Hid (((((w2.setCell ⟨w.heap.size+1+1,0,none⟩ (.int .i16 0)).setCell ⟨w.heap.size+1+1,1,none⟩ (.int .i16 0)).setCell ⟨w.heap.size+1+1+1,0,none⟩ (.int .i16 0)).setCell ⟨w.heap.size+1+1+1,1,none⟩ (.int .i16 0)).drew.heap[w.heap.size+1+1]?=some (.cells #[.int .i16 0,.int .i16 0] 131)):=bJ TZ (cA xt.out (.int .i16 0) (.int .i16 0)) (.int .i16 0) (.int .i16 0);have Ri:Hid (((((w2.setCell ⟨w.heap.size+1+1,0,none⟩ (.int .i16 0)).setCell ⟨w.heap.size+1+1,1,none⟩ (.int .i16 0)).setCell ⟨w.heap.size+1+1+1,0,none⟩ (.int .i16 0)).setCell ⟨w.heap.size+1+1+1,1,none⟩ (.int .i16 0)).drew.heap[w.heap.size+1+1+1]?=some (.cells #[.int .i16 0,.int .i16 0] 131)):=cA (bJ DW DJ.out (.int .i16 0) (.int .i16 0)) (.int .i16 0) (.int .i16 0);have yk:Hid (Below w.heap.size w1 ((((w2.setCell ⟨w.heap.size+1+1,0,none⟩ (.int .i16 0)).setCell ⟨w.heap.size+1+1,1,none⟩ (.int .i16 0)).setCell ⟨w.heap.size+1+1+1,0,none⟩ (.int .i16 0)).setCell ⟨w.heap.size+1+1+1,1,none⟩ (.int .i16 0)).drew):=(Below.two (Below.two kD.out lD (.int .i16 0) (.int .i16 0)) iM (.int .i16 0) (.int .i16 0)).drew
 go_region_with (fail)
 all_goals
  go_wp2_with fail;have Q0:=cell_of DQ.out 0 (v:=.int .i16 0) rfl;have Q1:=cell_of DQ.out 1 (v:=.int .i16 0) rfl;have Q2:=cell_of Ri.out 0 (v:=.int .i16 0) rfl;have Q3:=cell_of Ri.out 1 (v:=.int .i16 0) rfl;simp only[World.cell?_drew]at Q0 Q1 Q2 Q3;refine bodyPost_ret (v:=.tuple #[.agg #[.int .i16 0,.int .i16 0],.agg #[.int .i16 0,.int .i16 0],.bool false]) (by simp[results,results226,go_sem,Q0,Q1,Q2,Q3]) rfl ?_;exact⟨⟨_,_,_,_,rfl⟩,HA.upon nN.out yk.out,ay.upon HA.out mx.out yk.out⟩
theorem EN(tl:TypeId)(ul:Value)(tr:TypeId)(ur:Value)(C:Cx)(π:bO)(T:gB)(F:Fd)(b:Bool)(w:Wd)(e:Fin 8->Sp.Iv)(es:List cr)(dD:List cr)(a:Sp.Iv)(h:aM C π T F w)
  (hs:mV C π T F b (.iface tl ul) e es (some a))
  (fM:mV C π T (told π b F es) b (.iface tr ur) e dD none) :
  Calls prog 226 #[.agg (wk C b),.iface tl ul,.iface tr ur,.agg (aK (some e))] w (oW C π T F b w (es ++ dD) none):=by
 obtain⟨k0,k1,k2,k3,kb⟩:=bM (w:=w) (o1:=.cells (wk C b) 217) (o2:=.cells (aK (some e)) 220) (o3:=.cells #[.int .i16 0,.int .i16 0] 131) (o4:=.cells #[.int .i16 0,.int .i16 0] 131) (Below.refl _ _);have HW:=hs _ (h.call kb);have eg:=cC C b;have eH:=aF (some e);have FT:=hid fM;unfold mV at FT;clear fM;generalize wk C b=wa at *;generalize aK (some e)=xa at *;have K0:=hid k0;have K1:=hid k1;have K2:=hid k2;have K3:=hid k3;have HB:=hid kb;have HA:=hid h;have lD:w.heap.size<=w.heap.size+1+1:=by omega
 have iM:w.heap.size<=w.heap.size+1+1+1:=by omega
 have DW:w.heap.size+1+1+1≠w.heap.size+1+1:=by omega
 have TZ:w.heap.size+1+1≠w.heap.size+1+1+1:=by omega
 clear h k0 k1 k2 k3 kb hs;go_enter func226,ntmps226;go_wp2_with (first
  | (refine cm rfl _ rfl rfl K0.out eg ?_)
  | (refine bt rfl _ rfl rfl K1.out eH ?_))
 refine HW.mono ?_;rintro r w1⟨rfl,a1,b1⟩;have Ho:=b1.aW HA.out lD K2.out;have NJ:=b1.aW HA.out iM K3.out;obtain⟨m0,m1,kh,kj,_⟩:=aH Ho;have my:=cA Ho (.int .i16 a.a) (.int .i16 a.b);have uU:=bJ DW NJ (.int .i16 a.a) (.int .i16 a.b);have mx:Hid (ay C w w1):=(ay.aB HB.out HA.le).trans b1;have kD:Hid (Below w.heap.size w1 _):=Below.two (Below.refl w.heap.size w1) lD (.int .i16 a.a) (.int .i16 a.b);obtain⟨q0,q1,mv,mu,_⟩:=aH my;have nN:=hid a1;have Rn:=bJ (show w.heap.size≠w.heap.size+1+1 by omega) (b1.aW HA.out (Nat.le_refl _) K0.out) (.int .i16 a.a) (.int .i16 a.b);have iv:=bJ (show w.heap.size+1≠w.heap.size+1+1 by omega) (b1.aW HA.out (Nat.le_succ _) K1.out) (.int .i16 a.a) (.int .i16 a.b);have Hk:=hid Rn;have zk:=hid iv;have xt:=hid my;have DJ:=hid uU;have P0:=FT.out _ (HA.upon a1 kD.out);clear a1 b1 HW Ho NJ my uU Rn iv FT;simp only[ub];go_wp2_with (first
  | (refine cm rfl _ rfl rfl Hk.out eg ?_)
  | (refine bt rfl _ rfl rfl zk.out eH ?_))
 refine P0.mono ?_;rintro r w3⟨rfl,a3,b3⟩;have xr:=b3.aW HA.out lD xt.out;have TR:=b3.aW HA.out iM DJ.out;obtain⟨n0,n1,nf0,nf1,_⟩:=aH TR;have NU:=bJ TZ xr (.int .i16 0) (.int .i16 0);have Tk:=cA TR (.int .i16 0) (.int .i16 0);obtain⟨r0,r1,rf0,rf1,_⟩:=aH NU;obtain⟨p0,p1,TH,S2,_⟩:=aH Tk;have ZW:=hid a3;have Vp:Hid (ay C w w3):=(ay.upon HA.out mx.out kD.out).trans b3;have DR:Hid (Below w.heap.size w3 _):=Below.two (Below.refl w.heap.size w3) iM (.int .i16 0) (.int .i16 0);clear xt DJ;have xt:=hid NU;have DJ:=hid Tk;clear a3 b3 P0 xr TR NU Tk q0 q1 mv mu m0 m1 kh kj;try simp only[ub]
 go_wp2_with fail;generalize (w3.setCell ⟨w.heap.size+1+1+1,0,none⟩ (.int .i16 0)).setCell ⟨w.heap.size+1+1+1,1,none⟩ (.int .i16 0)=w4 at *;have DQ:Hid (((((w4.setCell ⟨w.heap.size+1+1,0,none⟩ (.int .i16 a.a)).setCell ⟨w.heap.size+1+1,1,none⟩ (.int .i16 a.b)).setCell ⟨w.heap.size+1+1+1,0,none⟩ (.int .i16 0)).setCell ⟨w.heap.size+1+1+1,1,none⟩ (.int .i16 0)).drew.heap[w.heap.size+1+1]?=some (.cells #[.int .i16 a.a,.int .i16 a.b] 131)):=bJ TZ (cA xt.out (.int .i16 a.a) (.int .i16 a.b)) (.int .i16 0) (.int .i16 0);have Ri:Hid (((((w4.setCell ⟨w.heap.size+1+1,0,none⟩ (.int .i16 a.a)).setCell ⟨w.heap.size+1+1,1,none⟩ (.int .i16 a.b)).setCell ⟨w.heap.size+1+1+1,0,none⟩ (.int .i16 0)).setCell ⟨w.heap.size+1+1+1,1,none⟩ (.int .i16 0)).drew.heap[w.heap.size+1+1+1]?=some (.cells #[.int .i16 0,.int .i16 0] 131)):=cA (bJ DW DJ.out (.int .i16 a.a) (.int .i16 a.b)) (.int .i16 0) (.int .i16 0);have yk:Hid (Below w.heap.size w3 ((((w4.setCell ⟨w.heap.size+1+1,0,none⟩ (.int .i16 a.a)).setCell ⟨w.heap.size+1+1,1,none⟩ (.int .i16 a.b)).setCell ⟨w.heap.size+1+1+1,0,none⟩ (.int .i16 0)).setCell ⟨w.heap.size+1+1+1,1,none⟩ (.int .i16 0)).drew):=(Below.two (Below.two DR.out lD (.int .i16 a.a) (.int .i16 a.b)) iM (.int .i16 0) (.int .i16 0)).drew
 go_region_with (fail)
 all_goals
  go_wp2_with fail;have Q0:=cell_of DQ.out 0 (v:=.int .i16 a.a) rfl;have Q1:=cell_of DQ.out 1 (v:=.int .i16 a.b) rfl;have Q2:=cell_of Ri.out 0 (v:=.int .i16 0) rfl;have Q3:=cell_of Ri.out 1 (v:=.int .i16 0) rfl;simp only[World.cell?_drew]at Q0 Q1 Q2 Q3;refine bodyPost_ret (v:=.tuple #[.agg #[.int .i16 a.a,.int .i16 a.b],.agg #[.int .i16 0,.int .i16 0],.bool false]) (by simp[results,results226,go_sem,Q0,Q1,Q2,Q3]) rfl ?_;exact⟨⟨_,_,_,_,rfl⟩,by rw[aG];exact HA.upon ZW.out yk.out,ay.upon HA.out Vp.out yk.out⟩
theorem FL(tl:TypeId)(ul:Value)(tr:TypeId)(ur:Value)(C:Cx)(π:bO)(T:gB)(F:Fd)(b:Bool)(w:Wd)(e:Fin 8->Sp.Iv)(es:List cr)(dD:List cr)(a c:Sp.Iv)(h:aM C π T F w)
  (hs:mV C π T F b (.iface tl ul) e es (some a))
  (fM:mV C π T (told π b F es) b (.iface tr ur) e dD (some c)) :
  Calls prog 226 #[.agg (wk C b),.iface tl ul,.iface tr ur,.agg (aK (some e))] w (oW C π T F b w (es ++ dD) (some (a,c))):=by
 obtain⟨k0,k1,k2,k3,kb⟩:=bM (w:=w) (o1:=.cells (wk C b) 217) (o2:=.cells (aK (some e)) 220) (o3:=.cells #[.int .i16 0,.int .i16 0] 131) (o4:=.cells #[.int .i16 0,.int .i16 0] 131) (Below.refl _ _);have HW:=hs _ (h.call kb);have eg:=cC C b;have eH:=aF (some e);have FT:=hid fM;unfold mV at FT;clear fM;generalize wk C b=wa at *;generalize aK (some e)=xa at *;have K0:=hid k0;have K1:=hid k1;have K2:=hid k2;have K3:=hid k3;have HB:=hid kb;have HA:=hid h;have lD:w.heap.size<=w.heap.size+1+1:=by omega
 have iM:w.heap.size<=w.heap.size+1+1+1:=by omega
 have DW:w.heap.size+1+1+1≠w.heap.size+1+1:=by omega
 have TZ:w.heap.size+1+1≠w.heap.size+1+1+1:=by omega
 clear h k0 k1 k2 k3 kb hs;go_enter func226,ntmps226;go_wp2_with (first
  | (refine cm rfl _ rfl rfl K0.out eg ?_)
  | (refine bt rfl _ rfl rfl K1.out eH ?_))
 refine HW.mono ?_;rintro r w1⟨rfl,a1,b1⟩;have Ho:=b1.aW HA.out lD K2.out;have NJ:=b1.aW HA.out iM K3.out;obtain⟨m0,m1,kh,kj,_⟩:=aH Ho;have my:=cA Ho (.int .i16 a.a) (.int .i16 a.b);have uU:=bJ DW NJ (.int .i16 a.a) (.int .i16 a.b);have mx:Hid (ay C w w1):=(ay.aB HB.out HA.le).trans b1;have kD:Hid (Below w.heap.size w1 _):=Below.two (Below.refl w.heap.size w1) lD (.int .i16 a.a) (.int .i16 a.b);obtain⟨q0,q1,mv,mu,_⟩:=aH my;have nN:=hid a1;have Rn:=bJ (show w.heap.size≠w.heap.size+1+1 by omega) (b1.aW HA.out (Nat.le_refl _) K0.out) (.int .i16 a.a) (.int .i16 a.b);have iv:=bJ (show w.heap.size+1≠w.heap.size+1+1 by omega) (b1.aW HA.out (Nat.le_succ _) K1.out) (.int .i16 a.a) (.int .i16 a.b);have Hk:=hid Rn;have zk:=hid iv;have xt:=hid my;have DJ:=hid uU;have P0:=FT.out _ (HA.upon a1 kD.out);clear a1 b1 HW Ho NJ my uU Rn iv FT;simp only[ub];go_wp2_with (first
  | (refine cm rfl _ rfl rfl Hk.out eg ?_)
  | (refine bt rfl _ rfl rfl zk.out eH ?_))
 refine P0.mono ?_;rintro r w3⟨rfl,a3,b3⟩;have xr:=b3.aW HA.out lD xt.out;have TR:=b3.aW HA.out iM DJ.out;obtain⟨n0,n1,nf0,nf1,_⟩:=aH TR;have NU:=bJ TZ xr (.int .i16 c.a) (.int .i16 c.b);have Tk:=cA TR (.int .i16 c.a) (.int .i16 c.b);obtain⟨r0,r1,rf0,rf1,_⟩:=aH NU;obtain⟨p0,p1,TH,S2,_⟩:=aH Tk;have ZW:=hid a3;have Vp:Hid (ay C w w3):=(ay.upon HA.out mx.out kD.out).trans b3;have DR:Hid (Below w.heap.size w3 _):=Below.two (Below.refl w.heap.size w3) iM (.int .i16 c.a) (.int .i16 c.b);clear xt DJ;have xt:=hid NU;have DJ:=hid Tk;clear a3 b3 P0 xr TR NU Tk q0 q1 mv mu m0 m1 kh kj;try simp only[ub]
 go_wp2_with fail;generalize (w3.setCell ⟨w.heap.size+1+1+1,0,none⟩ (.int .i16 c.a)).setCell ⟨w.heap.size+1+1+1,1,none⟩ (.int .i16 c.b)=w4 at *;have DQ:Hid (((((w4.setCell ⟨w.heap.size+1+1,0,none⟩ (.int .i16 a.a)).setCell ⟨w.heap.size+1+1,1,none⟩ (.int .i16 a.b)).setCell ⟨w.heap.size+1+1+1,0,none⟩ (.int .i16 c.a)).setCell ⟨w.heap.size+1+1+1,1,none⟩ (.int .i16 c.b)).drew.heap[w.heap.size+1+1]?=some (.cells #[.int .i16 a.a,.int .i16 a.b] 131)):=bJ TZ (cA xt.out (.int .i16 a.a) (.int .i16 a.b)) (.int .i16 c.a) (.int .i16 c.b);have Ri:Hid (((((w4.setCell ⟨w.heap.size+1+1,0,none⟩ (.int .i16 a.a)).setCell ⟨w.heap.size+1+1,1,none⟩ (.int .i16 a.b)).setCell ⟨w.heap.size+1+1+1,0,none⟩ (.int .i16 c.a)).setCell ⟨w.heap.size+1+1+1,1,none⟩ (.int .i16 c.b)).drew.heap[w.heap.size+1+1+1]?=some (.cells #[.int .i16 c.a,.int .i16 c.b] 131)):=cA (bJ DW DJ.out (.int .i16 a.a) (.int .i16 a.b)) (.int .i16 c.a) (.int .i16 c.b);have yk:Hid (Below w.heap.size w3 ((((w4.setCell ⟨w.heap.size+1+1,0,none⟩ (.int .i16 a.a)).setCell ⟨w.heap.size+1+1,1,none⟩ (.int .i16 a.b)).setCell ⟨w.heap.size+1+1+1,0,none⟩ (.int .i16 c.a)).setCell ⟨w.heap.size+1+1+1,1,none⟩ (.int .i16 c.b)).drew):=(Below.two (Below.two DR.out lD (.int .i16 a.a) (.int .i16 a.b)) iM (.int .i16 c.a) (.int .i16 c.b)).drew
 go_region_with (fail)
 all_goals
  go_wp2_with fail;have Q0:=cell_of DQ.out 0 (v:=.int .i16 a.a) rfl;have Q1:=cell_of DQ.out 1 (v:=.int .i16 a.b) rfl;have Q2:=cell_of Ri.out 0 (v:=.int .i16 c.a) rfl;have Q3:=cell_of Ri.out 1 (v:=.int .i16 c.b) rfl;simp only[World.cell?_drew]at Q0 Q1 Q2 Q3;refine bodyPost_ret (v:=.tuple #[.agg #[.int .i16 a.a,.int .i16 a.b],.agg #[.int .i16 c.a,.int .i16 c.b],.bool true]) (by simp[results,results226,go_sem,Q0,Q1,Q2,Q3]) rfl ?_;exact⟨rfl,by rw[aG];exact HA.upon ZW.out yk.out,ay.upon HA.out Vp.out yk.out⟩
end
end WI
end Go.Proofs.YtiopfihjmkfdmaaGreatDoor
