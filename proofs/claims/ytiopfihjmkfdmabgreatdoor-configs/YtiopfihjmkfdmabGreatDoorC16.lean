import Derived.Test.YtiopfihjmkfdmabGreatDoorC15
import Derived.Deep.MidRow
import Derived.Deep.Upon
namespace Go.Proofs.YtiopfihjmkfdmabGreatDoor
open Option renaming some->Y,none->M
open Go.Obj renaming cells->L
open Go.Value renaming int->I,bool->U,agg->J,tuple->φ,pointer->ρ,iface->σ
open Go.IntKind renaming i16->ψ,i64->O
open Go.Ending renaming returned->υ
open Go.Proofs.Tryz Sp
open Go.RowKit
set_option maxRecDepth 100000
set_option maxHeartbeats 16000000
section
theorem bG.{u}:(∀{α:Type u} (xs:List α) (i:Nat) (h:i<xs.toArray.size),xs.toArray[i]=xs[i]'(by simpa using h))/\(∀{α:Type u} (a:α) (l:List α) (i:Nat) (h:i+1<(a::l).length),(a::l)[i+1]=l[i]'(Nat.lt_of_succ_lt_succ h))/\(∀{α:Type u} (a:α) (l:List α) (h:0<(a::l).length),(a::l)[0]=a):=
 ⟨λ_ _ _=>List.getElem_toArray _,λ_ _ _ _=>rfl,λ_ _ _=>rfl⟩
theorem gd.{u}:(∀{α:Type u} (l:List α) (i:Nat) (a:α),l.toArray.setIfInBounds i a=(l.set i a).toArray)/\(∀{α:Type u} (x:α) (xs:List α) (n:Nat) (a:α),(x::xs).set (n+1) a=x::xs.set n a)/\(∀{α:Type u} (x:α) (xs:List α) (a:α),(x::xs).set 0 a=a::xs):=
 ⟨λ_ _ _=>List.setIfInBounds_toArray _ _ _,λ_ _ _ _=>rfl,λ_ _ _=>rfl⟩
section
variable {P: Program}{ops: Array Oper}{Q: Exit->Act->Wd->Prop}{md: Region.Mode}{S: Wd->Prop}{fuel: Nat}{cO: Array Bool}{a: Act}{w: Wd}
section
variable{o p r oi:Oper}
variable{a':Act}
theorem bP(i:Nat)(h:∀K':Act->Wd->Prop,Shut (∀a w,S w->(S w->wpAnyH P md ops Q S fuel (cO.setIfInBounds i true) a w)->K' a w)->if Region.wanted o (yielded ops a.tmps)=true then Oper.wp P o a w K' Q else K' (a.put o.dst undef) w)
  (hr:Region.ready md ops cO=[i]:=by kernel_rfl) (ho:ops[i]?=Y o:=by rfl):wpAnyH P md ops Q S (fuel+1) cO a w:=
 wpAnyH_ready hr Ä (AllReadyH.cons ho h AllReadyH.nil)
theorem zZ(i j:Nat)(h:∀K':Act->Wd->Prop,Shut (∀a w,S w->(S w->wpAnyH P md ops Q S fuel (cO.setIfInBounds i true) a w)->K' a w)->if Region.wanted o (yielded ops a.tmps)=true then Oper.wp P o a w K' Q else K' (a.put o.dst undef) w)
  (h':∀K':Act->Wd->Prop,Shut (∀a w,S w->(S w->wpAnyH P md ops Q S fuel (cO.setIfInBounds j true) a w)->K' a w)->if Region.wanted p (yielded ops a.tmps)=true then Oper.wp P p a w K' Q else K' (a.put p.dst undef) w)
  (hr:Region.ready md ops cO=[i,j]:=by kernel_rfl) (ho:ops[i]?=Y o:=by rfl) (hp:ops[j]?=Y p:=by rfl):wpAnyH P md ops Q S (fuel+1) cO a w:=
 wpAnyH_ready hr Ä (AllReadyH.cons ho h (AllReadyH.cons hp h' AllReadyH.nil))
theorem Yy(i j k:Nat)(h:∀K':Act->Wd->Prop,Shut (∀a w,S w->(S w->wpAnyH P md ops Q S fuel (cO.setIfInBounds i true) a w)->K' a w)->if Region.wanted o (yielded ops a.tmps)=true then Oper.wp P o a w K' Q else K' (a.put o.dst undef) w)
  (h':∀K':Act->Wd->Prop,Shut (∀a w,S w->(S w->wpAnyH P md ops Q S fuel (cO.setIfInBounds j true) a w)->K' a w)->if Region.wanted p (yielded ops a.tmps)=true then Oper.wp P p a w K' Q else K' (a.put p.dst undef) w)
  (h2:∀K':Act->Wd->Prop,Shut (∀a w,S w->(S w->wpAnyH P md ops Q S fuel (cO.setIfInBounds k true) a w)->K' a w)->if Region.wanted r (yielded ops a.tmps)=true then Oper.wp P r a w K' Q else K' (a.put r.dst undef) w)
  (hr:Region.ready md ops cO=[i,j,k]:=by kernel_rfl) (ho:ops[i]?=Y o:=by rfl) (hp:ops[j]?=Y p:=by rfl) (hq:ops[k]?=Y r:=by rfl):wpAnyH P md ops Q S (fuel+1) cO a w:=
 wpAnyH_ready hr Ä (AllReadyH.cons ho h (AllReadyH.cons hp h' (AllReadyH.cons hq h2 AllReadyH.nil)))
theorem Ļ(i j k l:Nat){s:Oper}(h:∀K':Act->Wd->Prop,Shut (∀a w,S w->(S w->wpAnyH P md ops Q S fuel (cO.setIfInBounds i true) a w)->K' a w)->if Region.wanted o (yielded ops a.tmps)=true then Oper.wp P o a w K' Q else K' (a.put o.dst undef) w)
  (h':∀K':Act->Wd->Prop,Shut (∀a w,S w->(S w->wpAnyH P md ops Q S fuel (cO.setIfInBounds j true) a w)->K' a w)->if Region.wanted p (yielded ops a.tmps)=true then Oper.wp P p a w K' Q else K' (a.put p.dst undef) w)
  (h2:∀K':Act->Wd->Prop,Shut (∀a w,S w->(S w->wpAnyH P md ops Q S fuel (cO.setIfInBounds k true) a w)->K' a w)->if Region.wanted r (yielded ops a.tmps)=true then Oper.wp P r a w K' Q else K' (a.put r.dst undef) w)
  (h3:∀K':Act->Wd->Prop,Shut (∀a w,S w->(S w->wpAnyH P md ops Q S fuel (cO.setIfInBounds l true) a w)->K' a w)->if Region.wanted s (yielded ops a.tmps)=true then Oper.wp P s a w K' Q else K' (a.put s.dst undef) w)
  (hr:Region.ready md ops cO=[i,j,k,l]:=by kernel_rfl) (ho:ops[i]?=Y o:=by rfl) (hp:ops[j]?=Y p:=by rfl) (hq:ops[k]?=Y r:=by rfl) (hs:ops[l]?=Y s:=by rfl):wpAnyH P md ops Q S (fuel+1) cO a w:=
 wpAnyH_ready hr Ä (AllReadyH.cons ho h (AllReadyH.cons hp h' (AllReadyH.cons hq h2 (AllReadyH.cons hs h3 AllReadyH.nil))))
theorem nu(i:Nat){v:Value}(hi:ops[i]?=Y oi)(hy:YieldsIf P ops S oi v a)(hS:S w)(h:wpAnyH P md ops Q S fuel (cO.setIfInBounds i true) a' w)
 (hs:Region.noSelect ops=true:=by kernel_rfl) (hf:Region.free md ops cO i=true:=by kernel_rfl) (hr:(Region.ready md ops cO).contains i=true:=by kernel_rfl) (hQ:∀c a w,Q (.panic c) (a.put oi.dst v) w→Q (.panic c) a w:=by exactλ_ _ _ h=>h) (ha:a.put oi.dst v=a':=by simp only[Act.put];rfl):wpAnyH P md ops Q S (fuel+1) cO a w:=
 wpAnyH_take hi hs hf hr hQ hy hS (ha▸h)
theorem tk(i:Nat)(v:Value)(hi:ops[i]?=Y oi)(hy:∀w,S w→(execOp a.eval oi).run P w=.ok (.value v) w)(hS:S w)(h:wpAnyH P md ops Q S fuel (cO.setIfInBounds i true) a' w)
 (hw:Region.wanted oi (yielded ops a.tmps)=true:=by rfl) (hs:Region.noSelect ops=true:=by kernel_rfl) (hf:Region.free md ops cO i=true:=by kernel_rfl) (hr:(Region.ready md ops cO).contains i=true:=by kernel_rfl) (hQ:∀c a w,Q (.panic c) (a.put oi.dst v) w→Q (.panic c) a w:=by exactλ_ _ _ h=>h) (ha:a.put oi.dst v=a':=by simp only[Act.put];rfl):wpAnyH P md ops Q S (fuel+1) cO a w:=
 wpAnyH_take hi hs hf hr hQ (.inl ⟨hw,hy⟩) hS (ha▸h)
theorem tq(i:Nat)(v:Value)(hS:S w)(h:wpAnyH P md ops Q S fuel (cO.setIfInBounds i true) a' w)(hi:ops[i]?=Y oi:=by rfl)(hy:∀w,S w→(execOp a.eval oi).run P w=.ok (.value v) w:=by intro _ _;go_simp)
 (hw:Region.wanted oi (yielded ops a.tmps)=true:=by rfl) (hs:Region.noSelect ops=true:=by kernel_rfl) (hf:Region.free md ops cO i=true:=by kernel_rfl) (hr:(Region.ready md ops cO).contains i=true:=by kernel_rfl) (hQ:∀c a w,Q (.panic c) (a.put oi.dst v) w→Q (.panic c) a w:=by exactλ_ _ _ h=>h) (ha:a.put oi.dst v=a':=by simp only[Act.put];rfl):wpAnyH P md ops Q S (fuel+1) cO a w:=
 wpAnyH_take hi hs hf hr hQ (.inl ⟨hw,hy⟩) hS (ha▸h)
end
end
end
section
section
variable {α β: Type}{f: α->List β}{k: Nat}
theorem ga(hk:∀a,(f a).length=k):∀l:List α,(l.flatMap f).length=l.length*k
 |[]=>Ä
 |a::l=>by rw[List.flatMap_cons,List.length_append,hk,ga hk l,List.length_cons,Nat.add_mul,Nat.one_mul,Nat.add_comm]
theorem iG(hk:∀a,(f a).length=k):∀(l:List α) (p:Nat) (a:α) (j:Nat),l[p]?=Y a->j<k->(l.flatMap f)[p*k+j]?=(f a)[j]?
 |[],_,_,_,h,_=>by simp at h
 |b::l,0,a,j,h,hj=>by
  have:b=a:=by simpa using h
  subst this;rw[List.flatMap_cons,Nat.zero_mul,Nat.zero_add,List.getElem?_append_left (by rw[hk];exact hj)]
 |b::l,p+1,a,j,h,hj=>by rw[List.flatMap_cons,List.getElem?_append_right (by rw[hk,Nat.add_mul];omega),hk,show(p+1)*k+j-k=p*k+j by rw[Nat.add_mul];omega];exact iG hk l p a j (by simpa using h) hj
theorem qD(hk:∀a,(f a).length=k):∀(l:List α) (p:Nat) (a:α) (i:Nat),p<l.length->((l.set p a).flatMap f)[i]?=if p*k<=i/\i<p*k+k then(f a)[i-p*k]? else(l.flatMap f)[i]?
 |[],_,_,_,h=>by simp at h
 |b::l,0,a,i,_=>by
  rw[List.set_cons_zero,List.flatMap_cons,List.flatMap_cons,Nat.zero_mul,Nat.zero_add,Nat.sub_zero];by_cases hi:i<k
  .rw[Á ⟨Ì,hi⟩,List.getElem?_append_left (by rw[hk];exact hi)]
  .rw[Â À,List.getElem?_append_right (by rw[hk];omega),List.getElem?_append_right (by rw[hk];omega),hk,hk]
 |b::l,p+1,a,i,h=>by
  rw[List.set_cons_succ,List.flatMap_cons,List.flatMap_cons];by_cases hi:i<k
  .rw[List.getElem?_append_left (by rw[hk];exact hi),List.getElem?_append_left (by rw[hk];exact hi),Â (by rw[Nat.add_mul];omega)]
  .rw[List.getElem?_append_right (by rw[hk];omega),List.getElem?_append_right (by rw[hk];omega),hk,qD hk l p a (i-k) (by simpa using h)]
   by_cases hc:p*k<=i-k/\i-k<p*k+k
   .rw[Á hc,Á (by rw[Nat.add_mul];omega),show i-(p+1)*k=i-k-p*k by rw[Nat.add_mul];omega]
   .rw[Â hc,Â (by rw[Nat.add_mul];omega)]
end
end
section
section
variable{b B:Nat}
variable{fr:Nat×Nat}
theorem gv{t:TypeId}:∀(vs:List Value) (o:Nat) (w:Wd) (c:Array Value),w.heap[b]?=Y (L c t fr)->o+vs.length<=c.size ->
  ∃c',(w.setCells b o vs).heap[b]?=Y (L c' t fr)/\c'.size=c.size/\(∀j,j<vs.length->c'[o+j]?=vs[j]?)/\∀i,i<o∨o+vs.length<=i->c'[i]?=c[i]?
 |[],o,w,c,h,_=>⟨c,h,rfl,λj hj=>by simp at hj,λ_ _=>rfl⟩
 |v::vs,o,w,c,h,hs=>by
  simp only[List.length_cons]at hs;obtain⟨c',h1,h2,h3,h4⟩:=gv vs (o+1) (w.setCell ⟨b,o,M⟩ v) (c.setIfInBounds o v) (ai h o v) (by simp;omega);refine⟨c',h1,by rw[h2];simp,λj hj=>?_,λi hi=>?_⟩
  .cases j with
   |zero=>rw[Nat.add_zero,h4 o (.inl (Nat.lt_succ_self _))];simp[Array.getElem?_setIfInBounds];omega
   |succ j=>have:=h3 j (by simp at hj;omega);rw[show o+(j+1)=o+1+j by omega,this];simp
  .rw[h4 i (by simp only[List.length_cons]at hi;omega),Array.getElem?_setIfInBounds]
   rw[Â (by simp only[List.length_cons]at hi;omega)]
theorem ar{w:Wd}{c d:Array Value}{t:TypeId}(h:w.heap[b]?=Y (L c t fr))(hs:d.size=c.size):(w.setCells b 0 d.toList).heap[b]?=Y (L d t fr):=by
 obtain⟨c',h1,h2,h3,_⟩:=gv d.toList 0 w c h (by simp;omega);rw[h1];congr 2;refine í λi=>?_
 by_cases hi:i<d.size
 .have:=h3 i (by simpa using hi)
  rw[Nat.zero_add]at this;rw[this];simp
 .rw[ã À,ã À]
theorem au(hb:B<=b):∀(vs:List Value) (o:Nat) (w0 w:Wd),Below B w0 w->Below B w0 (w.setCells b o vs)
 |[],_,_,_,h=>h
 |v::vs,o,w0,_,h=>au hb vs (o+1) w0 _ (h.setCell (p:=⟨b,o,M⟩) hb v)
theorem al:∀(vs:List Value) (o:Nat) (w:Wd) (k:Nat),k≠b->(w.setCells b o vs).heap[k]?=w.heap[k]?
 |[],_,_,_,_=>rfl
 |v::vs,o,w,k,hk=>by show((w.setCell ⟨b,o,M⟩ v).setCells b (o+1) vs).heap[k]?=_;rw[al vs (o+1) _ k hk,Æ _ _ _ _ hk]
end
section
variable {V: Type}(c0 c1: V->Value)
section
variable{r:Bool}
def flat(l:List V):List Value:=l.flatMap λv=>[c0 v,c1 v]
theorem uM(v:V)(l:List V):flat c0 c1 (v::l)=c0 v::c1 v::flat c0 c1 l:=rfl
theorem E7(l:List V):(flat c0 c1 l).length=2*l.length:=by
 induction l with
 |nil=>rfl
 |cons v l ih=>rw[uM];simp only[List.length_cons,ih];omega
theorem yu:∀(l:List V) (j:Nat) (v:V),l[j]?=Y v->(flat c0 c1 l)[j*2]?=Y (c0 v)/\(flat c0 c1 l)[j*2+1]?=Y (c1 v)
 |[],_,_,h=>by simp at h
 |u::l,0,v,h=>by simp at h;subst h;exact⟨rfl,rfl⟩
 |u::l,j+1,v,h=>by have:=yu l j v (by simpa using h);rw[uM,show(j+1)*2=j*2+2 by omega];exact this
theorem Eh:∀(l:List V) (j:Nat) (v:V),j<l.length->((flat c0 c1 l).set (j*2) (c0 v)).set (j*2+1) (c1 v)=flat c0 c1 (l.set j v)
 |[],_,_,h=>by simp at h
 |u::l,0,v,_=>rfl
 |u::l,j+1,v,h=>by have:=Eh l j v (by simpa using h);rw[uM,show(j+1)*2=j*2+2 by omega];simp only[List.set_cons_succ];rw[this];rfl
def MY(r:Bool)(l:List V):Array Value:=(Value.bool r::flat c0 c1 l).toArray
theorem Fg{l:List V}(h:l.length=8):(MY c0 c1 r l).size=17:=by unfold MY;simp[E7,h]
theorem Cm{l:List V}{j:Nat}{v:V}(h:l[j]?=Y v):(MY c0 c1 r l)[1+j*2]?=Y (c0 v)/\(MY c0 c1 r l)[1+j*2+1]?=Y (c1 v):=by obtain⟨h1,h2⟩:=yu c0 c1 l j v h;unfold MY;rw[Ø,Ø,Nat.add_comm 1,show j*2+1+1=(j*2+1)+1 by omega];exact⟨h1,h2⟩
theorem J1{l:List V}{j:Nat}(v:V)(h:j<l.length):((MY c0 c1 r l).setIfInBounds (1+j*2) (c0 v)).setIfInBounds (1+j*2+1) (c1 v)=MY c0 c1 r (l.set j v):=by unfold MY;rw[List.setIfInBounds_toArray,List.setIfInBounds_toArray,<-Eh c0 c1 l j v h,Nat.add_comm 1];rfl
theorem JE(h0:∀v,(c0 v).oneCell'=true)(h1:∀v,(c1 v).oneCell'=true)(r:Bool)(l:List V):(MY c0 c1 r l).all (·.oneCell')=true:=by
 refine all_oneCell_toArray ?_;intro v hv
 rcases List.mem_cons.1 hv with rfl|hv
 .rfl
 .unfold flat at hv
  obtain⟨u,_,hu⟩:=List.mem_flatMap.1 hv;simp at hu
  rcases hu with rfl|rfl
  .exact h0 u
  .exact h1 u
end
end
section
variable{W w w0:Wd}
variable{b k B q n:Nat}
variable{c:Array Value}
variable{t:TypeId}
theorem aT{fr:Nat×Nat}(h:W.heap[b]?=Y (L c t fr)):W.rangeAt b 0 c.toList:=λj u hu=>by rw[Nat.zero_add];exact cell_of h j (by simpa using hu)
theorem bO(h:Bk W b c t):W.there b 0 c.size:=λj hj=>by rw[Nat.zero_add];refine⟨?_,ay h j⟩;rw[cell_of h j (Ü hj)];rfl
theorem dG{x y:Value}(h:Bk w k #[x,y] t)(u v:Value):((w.setCell ⟨k,0,M⟩ u).setCell ⟨k,1,M⟩ v).heap[k]?=Y (L #[u,v] t):=ai (ai h 0 u) 1 v
theorem Below.two(h:Below B w0 w)(hk:B<=k)(u v:Value):Below B w0 ((w.setCell ⟨k,0,M⟩ u).setCell ⟨k,1,M⟩ v):=
 (h.setCell (p:=⟨k,0,M⟩) hk u).setCell (p:=⟨k,1,M⟩) hk v
theorem Ep{α:Type}{l:List α}{n:α}(h:l[q]?=Y n){f:α->α}:l.modify q f=l.set q (f n):=by
 refine List.ext_getElem? λi=>?_
 rw[List.getElem?_modify,List.getElem?_set];by_cases hq:q=i
 .subst hq
  obtain⟨hl,he⟩:=Í.1 h;simp[hl,he]
 .simp[hq]
theorem rU{l:List Nat}(h:l[q]?=Y n){f:Nat->Nat}:l.modify q f=l.set q (f n):=by
 refine List.ext_getElem? λi=>?_
 rw[List.getElem?_modify,List.getElem?_set];by_cases hq:q=i
 .subst hq
  obtain⟨hl,he⟩:=Í.1 h;simp[hl,he]
 .simp[hq]
abbrev zS:Array Value:=#[U false,I ψ 0,I ψ 0,I ψ 0,I ψ 0,I ψ 0,I ψ 0,I ψ 0,I ψ 0,I ψ 0,I ψ 0,I ψ 0,I ψ 0,I ψ 0,I ψ 0,I ψ 0,I ψ 0]
abbrev zE:Array Value:=#[I O 0,U false,I ψ 0,I ψ 0,I ψ 0,I ψ 0,I ψ 0,I ψ 0,I ψ 0,I ψ 0,I ψ 0,I ψ 0,I ψ 0,I ψ 0,I ψ 0,I ψ 0,I ψ 0,I ψ 0]
abbrev zP:Array Value:=#[U false,I ψ 0,I ψ 0,I ψ 0,I ψ 0,I ψ 0,I ψ 0,I ψ 0,I ψ 0,I ψ 0,I ψ 0,I ψ 0,I ψ 0,I ψ 0,I ψ 0,I ψ 0,I ψ 0,U false]
end
end
section
namespace W
variable {E: Bool}{G: aw E}
section
variable{B:Nat}
variable{dv:Value}
variable{w w':Wd}
@[reducible] def aw.iC (_:aw E) (n:Int):Sp.Iv:=W.iC E n
@[reducible] def aw.dV (_:aw E):Sp.Iv:=W.dV E
@[reducible] def aw.kD (_:aw E) (x:Sp.Iv):Sp.Iv:=W.kD E x
@[reducible] def aw.qj (_:aw E) (k:Nat) (x y:Sp.Iv):Option Sp.Iv:=W.qj E k x y
@[reducible] def aw.iR (_:aw E) (x:Sp.Iv):Bool:=W.iR E x
@[reducible] def aw.dM (_:aw E) (x y:Sp.Iv):Sp.Iv:=W.dM E x y
@[reducible] def aw.nV (_:aw E) (r:Nat) (x y:Sp.Iv):Bool:=W.nV E r x y
@[reducible] def aw.iP (_:aw E) (r:Nat) (x y:Sp.Iv):Option Sp.Iv:=W.iP E r x y
@[reducible] def aw.iB (G:aw E) (x y:Sp.Iv):Sp.Iv:=W.iB G x y
@[reducible] def aw.kC (_:aw E) (x y:Sp.Iv):Sp.Iv:=W.kC E x y
def oU(x:Sp.Iv):Int×Int:=(x.a,x.b)
def aw.y7(G:aw E):Option Sp.Iv->Value
 |some x=>φ #[J #[I G.kd x.a,I G.kd x.b],U true]
 |none=>φ #[J #[I G.kd 0,I G.kd 0],U false]
structure js(G:aw E)(dv:Value)(w:Wd):Prop where
 number:∀(n:Int) (_:-32768<=n) (_:n<=32767),Calls prog (G.ix 302 279) #[dv,I ψ n] w λe w'=>e=υ (J #[I G.kd (G.iC n).a,I G.kd (G.iC n).b])/\ω w w'
 whole:Calls prog (G.ix 304 281) #[dv] w λe w'=>e=υ (J #[I G.kd G.dV.a,I G.kd G.dV.b])/\ω w w'
 negate:∀{x:Sp.Iv} (_:G.Wv x),Calls prog (G.ix 301 278) #[dv,J #[I G.kd x.a,I G.kd x.b]] w λe w'=>e=υ (J #[I G.kd (G.kD x).a,I G.kd (G.kD x).b])/\ω w w'
 work:∀{k:Nat} (_:k<5) {x y:Sp.Iv} (_:G.Wv x) (_:G.Wv y),Calls prog (G.ix 306 283) #[dv,I O (k:Nat),J #[I G.kd x.a,I G.kd x.b],J #[I G.kd y.a,I G.kd y.b]] w λe w'=>e=υ (G.y7 (G.qj k x y))/\ω w w'
 nought:∀{x:Sp.Iv} (_:G.Wv x),Calls prog (G.ix 297 274) #[dv,J #[I G.kd x.a,I G.kd x.b]] w λe w'=>e=υ (U (G.iR x))/\ω w w'
 join:∀{x y:Sp.Iv} (_:G.Wv x) (_:G.Wv y),Calls prog (G.ix 298 275) #[dv,J #[I G.kd x.a,I G.kd x.b],J #[I G.kd y.a,I G.kd y.b]] w λe w'=>e=υ (J #[I G.kd (G.dM x y).a,I G.kd (G.dM x y).b])/\ω w w'
 may:∀(_:gI w) (_:11<=w.heap.size) {r:Nat} (_:r<6) {x y:Sp.Iv} (_:G.Wv x) (_:G.Wv y),Calls prog (G.ix 299 276) #[dv,I O (r:Nat),J #[I G.kd x.a,I G.kd x.b],J #[I G.kd y.a,I G.kd y.b]] w λe w'=>e=υ (U (G.nV r x y))/\ω w w'
 bound:∀{r:Nat} (_:r<6) {x y:Sp.Iv} (_:G.Wv x) (_:G.Wv y),Calls prog (G.ix 296 273) #[dv,I O (r:Nat),J #[I G.kd x.a,I G.kd x.b],J #[I G.kd y.a,I G.kd y.b]] w λe w'=>e=υ (G.y7 (G.iP r x y))/\ω w w'
 widen:∀{x y:Sp.Iv} (_:G.Wv x) (_:G.Wv y),Calls prog (G.ix 305 282) #[dv,J #[I G.kd x.a,I G.kd x.b],J #[I G.kd y.a,I G.kd y.b]] w λe w'=>e=υ (J #[I G.kd (G.iB x y).a,I G.kd (G.iB x y).b])/\ω w w'
 narrow:∀{x y:Sp.Iv} (_:G.Wv x) (_:G.Wv y),Calls prog (G.ix 300 277) #[dv,J #[I G.kd x.a,I G.kd x.b],J #[I G.kd y.a,I G.kd y.b]] w λe w'=>e=υ (J #[I G.kd (G.kC x y).a,I G.kd (G.kC x y).b])/\ω w w'
 tell:∀{x:Sp.Iv} (_:G.Wv x),Calls prog (G.ix 303 280) #[dv,J #[I G.kd x.a,I G.kd x.b]] w λe w'=>e=υ (J #[I O (oU x).1,I O (oU x).2])/\ω w w'
structure fU(B:Nat)(G:aw E)(dv:Value)(w:Wd):Prop where
 size:B<=w.heap.size
 Wr:∀w',Below B w w'->js G dv w'
theorem fU.below(h:fU B G dv w)(hb:Below B w w'):fU B G dv w':=⟨Nat.le_trans h.size hb.size,λ_ k=>h.Wr _ (hb.trans k)⟩
theorem fU.dm(h:fU B G dv w):js G dv w:=h.Wr w Å
abbrev Kb(h:fU B G dv w):=@js.number _ _ _ _ h.dm
abbrev Vh(h:fU B G dv w):=@js.whole _ _ _ _ h.dm
abbrev S3(h:fU B G dv w):=@js.negate _ _ _ _ h.dm
abbrev Ys(h:fU B G dv w):=@js.work _ _ _ _ h.dm
abbrev Rm(h:fU B G dv w):=@js.nought _ _ _ _ h.dm
abbrev YQ(h:fU B G dv w):=@js.join _ _ _ _ h.dm
abbrev YN(h:fU B G dv w):=@js.may _ _ _ _ h.dm
abbrev U2(h:fU B G dv w):=@js.bound _ _ _ _ h.dm
abbrev VK(h:fU B G dv w):=@js.widen _ _ _ _ h.dm
abbrev Ry(h:fU B G dv w):=@js.narrow _ _ _ _ h.dm
abbrev YZ(h:fU B G dv w):=@js.tell _ _ _ _ h.dm
end
end W
end
section
namespace W
variable {E: Bool}{G: aw E}
section
variable{ops:Array Oper}
variable{op:Oper}
variable{a:Act}
variable{w:Wd}
variable{b:Nat}
variable{c d:Array Value}
variable{rest:List Oper}
theorem eV:(prog.info? (G.ix 174 157)).map (·.size)=Y 17:=by cases E<;>kernel_rfl
theorem aw.nw(G:aw E){S:Wd->Prop}(hw:Region.wanted op (yielded ops a.tmps)=true)(x:Operand)(ho:op.op=.load (G.ix 174 157) x)(b o:Nat)(hx:a.eval x=ρ (Y ⟨b,o,M⟩))(c:Array Value)(hS:∀w,S w->w.rangeAt b o c.toList)(hc:c.size=17):YieldsIf prog ops S op (J c) a:=by
 cases E
 all_goals
  have:=yieldsIf_load_mid (P:=prog) hw _ x ho b o hx c.toList _ hS (by first|exact underlying174|exact underlying157) rfl (by rw[eV,è,hc])
  rwa[Array.toArray_toList]at this
theorem CP:(prog.info? (G.ix 171 154)).map (·.size)=Y 8:=by cases E<;>kernel_rfl
theorem aw.se(G:aw E){S:Wd->Prop}(hw:Region.wanted op (yielded ops a.tmps)=true)(x:Operand)(ho:op.op=.load (G.ix 171 154) x)(b o:Nat)(hx:a.eval x=ρ (Y ⟨b,o,M⟩))(c:Array Value)(hS:∀w,S w->w.rangeAt b o c.toList)(hc:c.size=8):YieldsIf prog ops S op (J c) a:=by
 cases E
 all_goals
  have:=yieldsIf_load_mid (P:=prog) hw _ x ho b o hx c.toList _ hS (by first|exact underlying171|exact underlying154) rfl (by rw[CP,è,hc])
  rwa[Array.toArray_toList]at this
theorem yy{fr:Nat × Nat}(h:w.heap[b]?=Y (L c (G.ix 174 157) fr))(hc:c.size=17) :
  (loadVar (G.ix 174 157) ⟨b,0,M⟩).run prog w=.ok (J c) w:=by
 cases E
 all_goals
  dsimp only[aw.ix,aw.kd]at*
  have:=run_loadVar_mid (P:=prog) w b 0 (G.ix 174 157) c.toList _ (λj v hv=>by rw[Nat.zero_add];exact cell_of h j (by simpa using hv)) (by first|exact underlying174|exact underlying157) rfl (by rw[eV];simp[hc]);simpa using this
theorem Yq(h:Bk w b c (G.ix 174 157))(hc:c.size=17)(hd:d.size=17)(h1:d.all (·.oneCell')=true) :
  (Instr.storeAt (G.ix 174 157) (ρ (Y ⟨b,0,M⟩)) (J d)).run prog w=.ok () (w.setCells b 0 d.toList):=
 run_storeAt_mid (P:=prog) w b 0 (G.ix 174 157) d (λj hj=>by rw[Nat.zero_add];refine⟨?_,ay h j⟩;rw[cell_of h j (Ü À)];rfl) (by rw[eV,hd]) h1
theorem bR{Q:Exit->Act->Wd->Prop}(sE:op.guard=M)(x:Operand)(ho:op.op=.load (G.ix 174 157) x)(hx:a.eval x=ρ (Y ⟨b,0,M⟩))(h:Bk w b c (G.ix 174 157))(hc:c.size=17)
  (k:wpList prog ops Q rest (a.put op.dst (J c)) w):wpList prog ops Q (op::rest) a w:=by
 cases E
 all_goals
  dsimp only[aw.ix,aw.kd]at*
  refine wpList_load_mid sE (G.ix 174 157) x ho b 0 hx c.toList _ (λj v hv=>by rw[Nat.zero_add];exact cell_of h j (by simpa using hv)) (by first|exact underlying174|exact underlying157) rfl (by rw[eV];simp[hc]) ?_;simpa using k
theorem cy{Q:Exit->Act->Wd->Prop}(sE:op.guard=M)(x y:Operand)(ho:op.op=.store (G.ix 174 157) x y)(hx:a.eval x=ρ (Y ⟨b,0,M⟩))(hy:a.eval y=J d)(h:Bk w b c (G.ix 174 157))(hc:c.size=17)(hd:d.size=17)(h1:d.all (·.oneCell')=true)
  (k:wpList prog ops Q rest (a.put op.dst undef) (w.setCells b 0 d.toList)):wpList prog ops Q (op::rest) a w:=
 wpList_store_mid sE (G.ix 174 157) x y ho b 0 d hx hy (λj hj=>by rw[Nat.zero_add];refine⟨?_,ay h j⟩;rw[cell_of h j (Ü À)];rfl) (by rw[eV,hd]) h1 k
theorem aU{fn:Func}{a:Tmp}(Ja:fn.results=#[.cell a (G.ix 174 157)])(tmps:Array Value)(w:Wd)(ht:tmps.getD a undef=ρ (Y ⟨b,0,M⟩))(h:Bk w b c (G.ix 174 157))(hc:c.size=17) :
  (results fn tmps).run prog w=.ok (J c) w:=by
 have hl:=yy h hc;have TF:tmps[a]?.getD undef=ρ (Y ⟨b,0,M⟩):=by rw[<-ht];simp
 unfold results;rw[Ja];simp[asAddr,TF,hl]
theorem join_none(W0 x y:Array Value)(w:Wd)(hx:x.size=17)(hy:y.size=17)(h1:y.all (·.oneCell')=true)(h0:∀h,x[0]'h=U false) :
  Calls prog (G.ix 82 79) #[J W0,J x,J y] w λe w'=>e=υ (J y)/\ω w w':=by
 cases E
 all_goals
  dsimp only[aw.ix,aw.kd]at*
  obtain⟨k0,k1,k2,k3,kb⟩:=cN (w:=w) (o1:=L W0 (G.ix 171 154)) (o2:=L x (G.ix 174 157)) (o3:=L y (G.ix 174 157)) (o4:=L G.zS (G.ix 174 157)) Å;have K2:=hid k2;have K3:=hid k3;have hr:Hid (_=_):=ar k3 (d:=y) (by rw[hy];rfl);have HB:Hid (ω w _):=au (b:=w.heap.size+1+1+1) À y.toList 0 w _ kb;clear k0 k1 k2 k3 kb
  first|go_enter func82,ntmps82|go_enter func79,ntmps79
  go_wp2_with (first
   |(refine bR (G:=G) rfl _ rfl rfl K2.out hy ?_)
   |(refine cy (G:=G) rfl _ _ rfl rfl rfl K3.out rfl hy h1 ?_))
  refine Ç (aU rfl _ _ rfl hr.out hy) rfl ⟨rfl,HB.out⟩
end
end W
end
section
namespace W
variable {E: Bool}{G: aw E}
section
variable{r:Bool}
variable{l ys xs:List Sp.Iv}
variable{j:Nat}
variable{v x y:Sp.Iv}
variable{w W W':Wd}
def aw.eW(G:aw E)(r:Bool)(l:List Sp.Iv):Array Value:=MY (λv:Sp.Iv=>I G.kd v.a) (λv:Sp.Iv=>I G.kd v.b) r l
theorem aw.iV(G:aw E)(h:l[j]?=Y v):(G.eW r l)[1+j*2]?=Y (I G.kd v.a)/\(G.eW r l)[1+j*2+1]?=Y (I G.kd v.b):=Cm _ _ h
theorem aw.CZ(G:aw E)(v:Sp.Iv)(h:j<l.length):((G.eW r l).setIfInBounds (1+j*2) (I G.kd v.a)).setIfInBounds (1+j*2+1) (I G.kd v.b)=G.eW r (l.set j v):=J1 (λv:Sp.Iv=>I G.kd v.a) (λv:Sp.Iv=>I G.kd v.b) v h
theorem aw.eb(G:aw E)(h:l.length=8):(G.eW r l).size=17:=Fg _ _ h
theorem aw.iT(G:aw E)(r:Bool)(l:List Sp.Iv)(h:0<(G.eW r l).size):(G.eW r l)[0]=U r:=rfl
theorem aw.mh(G:aw E)(r:Bool)(l:List Sp.Iv):(G.eW r l).all (·.oneCell')=true:=JE _ _ (λ_=>rfl) (λ_=>rfl) r l
def aw.fF(G:aw E):Array Value:=G.zS
structure ee(G:aw E)(w:Wd)(l ys:List Sp.Iv)(W:Wd):Prop where
 x:W.heap[w.heap.size]?=Y (L (G.eW true l) (G.ix 174 157))
 y:W.heap[w.heap.size+1]?=Y (L (G.eW true ys) (G.ix 174 157))
 z:W.heap[w.heap.size+1+1]?=Y (L G.fF (G.ix 174 157))
 b:ω w W
theorem ee.call(h:ee G w l ys W)(k:ω W W'):ee G w l ys W':=
 ⟨(k.block _ (ah h.x)).trans h.x,(k.block _ (ah h.y)).trans h.y,(k.block _ (ah h.z)).trans h.z,h.b.trans (k.mono h.b.size)⟩
theorem ee.set(h:ee G w l ys W)(hj:j<l.length)(v:Sp.Iv):ee G w (l.set j v) ys ((W.setCell ⟨w.heap.size,1+j*2,M⟩ (I G.kd v.a)).setCell ⟨w.heap.size,1+j*2+1,M⟩ (I G.kd v.b)):=by
 refine⟨?_,?_,?_,(h.b.setCell (p:=⟨w.heap.size,1+j*2,M⟩) È _).setCell (p:=⟨w.heap.size,1+j*2+1,M⟩) È _⟩
 .rw[ai (ai h.x (1+j*2) (I G.kd v.a)) (1+j*2+1) (I G.kd v.b),G.CZ v hj]
 .rw[Æ _ _ _ _ (by show w.heap.size+1≠w.heap.size;omega),Æ _ _ _ _ (by show w.heap.size+1≠w.heap.size;omega)];exact h.y
 .rw[Æ _ _ _ _ (by show w.heap.size+1+1≠w.heap.size;omega),Æ _ _ _ _ (by show w.heap.size+1+1≠w.heap.size;omega)];exact h.z
theorem ee.cells(h:ee G w l ys W)(hx:l[j]?=Y x):W.cell? ⟨w.heap.size,1+j*2,M⟩=Y (I G.kd x.a)/\W.cell? ⟨w.heap.size,1+j*2+1,M⟩=Y (I G.kd x.b)/\W.frozen? ⟨w.heap.size,1+j*2,M⟩=false/\W.frozen? ⟨w.heap.size,1+j*2+1,M⟩=false:=
 ⟨cell_of h.x _ (G.iV hx).1,cell_of h.x _ (G.iV hx).2,ay h.x _,ay h.x _⟩
def iy(g:Sp.Iv->Sp.Iv->Sp.Iv)(xs ys:List Sp.Iv)(j:Nat):List Sp.Iv:=(List.zipWith g xs ys).take j++xs.drop j
theorem Dd{g:Sp.Iv->Sp.Iv->Sp.Iv}(hx:xs.length=8)(hy:ys.length=8)(hj:j<8)(h:xs[j]?=Y x):(iy g xs ys j)[j]?=Y x:=by
 have hl:((List.zipWith g xs ys).take j).length=j:=by simp;omega
 unfold iy;rw[List.getElem?_append_right À,hl,Nat.sub_self,List.getElem?_drop,Nat.add_zero];exact h
theorem yT{g:Sp.Iv->Sp.Iv->Sp.Iv}(hx:xs.length=8)(hy:ys.length=8)(hj:j<8)(h:xs[j]?=Y x)(k:ys[j]?=Y y):(iy g xs ys j).set j (g x y)=iy g xs ys (j+1):=by
 have hl:((List.zipWith g xs ys).take j).length=j:=by simp;omega
 have hz:(List.zipWith g xs ys)[j]?=Y (g x y):=by rw[List.getElem?_zipWith,h,k]
 have hk:=Í.1 hz;have hd:xs.drop j=x::xs.drop (j+1):=by rw[ë À,(Í.1 h).2]
 unfold iy;rw[List.set_append_right _ _ À,hl,Nat.sub_self,hd,List.set_cons_zero,ä hk.1,hk.2,Ô];rfl
theorem yC{g:Sp.Iv->Sp.Iv->Sp.Iv}(hx:xs.length=8)(hy:ys.length=8):iy g xs ys 8=List.zipWith g xs ys:=by unfold iy;rw[List.take_of_length_le (by simp;omega),ê À,List.append_nil]
theorem LX(uD:Value)(g:Sp.Iv->Sp.Iv->Sp.Iv)(xs ys:List Sp.Iv)(w:Wd)(hx:xs.length=8)(hy:ys.length=8)(Xf:∀x∈xs,G.Wv x)(Wu:∀y∈ys,G.Wv y)
  (zK:∀W x y,ω w W->G.Wv x->G.Wv y->Calls prog (G.ix 298 275) #[uD,J #[I G.kd x.a,I G.kd x.b],J #[I G.kd y.a,I G.kd y.b]] W λe w'=>e=υ (J #[I G.kd (g x y).a,I G.kd (g x y).b])/\ω W w'):
  Calls prog (G.ix 123 118) #[J (G.eW true xs),J (G.eW true ys),.func (Fn.method "Join") #[σ (G.ix 92 87) uD] #[]] w λe w'=>e=υ (J (G.eW true (List.zipWith g xs ys)))/\ω w w':=by
 cases E
 all_goals
  dsimp only[aw.ix,aw.kd]at*
  have HP:=hid zK;have zx:=G.iT true xs;have zy:=G.iT true ys;have H0:Hid (ee G w xs ys (((w.alloc (L (G.eW true xs) (G.ix 174 157))).alloc (L (G.eW true ys) (G.ix 174 157))).alloc (L G.zS (G.ix 174 157)))):=by obtain⟨k0,k1,k2,kb⟩:=bQ (w:=w) (o1:=L (G.eW true xs) (G.ix 174 157)) (o2:=L (G.eW true ys) (G.ix 174 157)) (o3:=L G.fF (G.ix 174 157)) Å;exact⟨k0,k1,k2,kb⟩
  have sx:(G.eW true xs).size=17:=G.eb hx;have sy:(G.eW true ys).size=17:=G.eb hy;clear zK
  first|go_enter func123,ntmps123|go_enter func118,ntmps118
  go_wp2_with fail
  go_loopw [17] (λoO wr=>∃j:Nat,j<=8/\oO=I O j/\Hid (ee G w (iy g xs ys j) ys wr)) (λoO _=>8-(intOf oO).toNat)
  case atStart=>exact⟨0,Ì,rfl,H0.out⟩
  case round=>
   obtain⟨j,hj,rfl,hq⟩:=hrel;clear H0 zx zy sx sy;by_cases dZ:j<8
   .obtain⟨x,hxj⟩:∃x,xs[j]?=Y x:=⟨_,Î À⟩
    obtain⟨y,hyj⟩:∃y,ys[j]?=Y y:=⟨_,Î À⟩;have WX:Hid (G.Wv x):=Xf x (Ù hxj);have WY:Hid (G.Wv y):=Wu y (Ù hyj);have Tv:(iy g xs ys j)[j]?=Y x:=by exact Dd hx hy dZ hxj
    have hml:(iy g xs ys j).length=8:=by unfold iy;simp;omega
    have Ua:Hid ((iy g xs ys j).set j (g x y)=iy g xs ys (j+1)):=yT hx hy dZ hxj hyj;obtain⟨x0,x1⟩:=G.iV (r:=true) Tv;obtain⟨y0,y1⟩:=G.iV (r:=true) hyj;have cx0:=cell_of hq.x _ x0;have cx1:=cell_of hq.x _ x1;have cy0:=cell_of hq.y _ y0;have cy1:=cell_of hq.y _ y1;have wJ:(j:Int)<8:=À;clear x0 x1 y0 y1;go_wp2_with fail
    go_region_with ((first|go_at_call 298|go_at_call 275);go_must (refine(HP.out _ x y hq.b.drew WX.out WY.out).mono ?_);rintro e w1 ⟨rfl,b1⟩;have A1:Hid (ee G w (iy g xs ys j) ys w1):=hq.call (W':=w1) ⟨b1.os,b1.tape,b1.output,b1.size,b1.block⟩;obtain⟨d0,d1,d2,d3⟩:=A1.cells Tv)
    all_goals
     have A2:Hid (ee G w (iy g xs ys (j+1)) ys ((w1.setCell ⟨w.heap.size,1+j*2,M⟩ (I G.kd (g x y).a)).setCell ⟨w.heap.size,1+j*2+1,M⟩ (I G.kd (g x y).b))):=by unfold Hid;rw[<-Ua.out];exact A1.set À (g x y)
     clear b1;go_wp2_with fail;exact⟨⟨j+1,À,by go_num,A2⟩,by simp[intOf];omega⟩
   .obtain rfl:j=8:=À
    have A:Hid (ee G w (List.zipWith g xs ys) ys wr):=by unfold Hid;rw[<-yC hx hy];exact hq.out
    have sz:(G.eW true (List.zipWith g xs ys)).size=17:=G.eb (by simp;omega);have hr:Hid (_=_):=ar A.z (d:=G.eW true (List.zipWith g xs ys)) (by rw[sz];rfl);have HB:Hid (ω w _):=au (b:=w.heap.size+1+1) À (G.eW true (List.zipWith g xs ys)).toList 0 w _ A.b;clear hq hj dZ;go_wp2_with (first
     |(refine bR (G:=G) rfl _ rfl rfl A.x sz ?_)
     |(refine cy (G:=G) rfl _ _ rfl rfl rfl A.z rfl sz (G.mh _ _) ?_))
    refine Ç (aU rfl _ _ rfl hr.out sz) rfl ⟨rfl,HB.out⟩
end
end W
end
section
namespace W
variable {E: Bool}{G: aw E}
section
variable{w W W':Wd}
variable{wa xa ya d:Array Value}
def aw.At(G:aw E)(dv:Value)(ch ao narrow aj:Int)(th:Bool)(m:Nat)(f:Option Addr):Array Value:=
 #[σ (G.ix 92 87) dv,I O ch,I O ao,I O narrow,I O aj,U th,.map (Y m),ρ f]
structure mB(G:aw E)(w:Wd)(wa xa ya:Array Value)(W:Wd):Prop where
 o:W.heap[w.heap.size]?=Y (L wa (G.ix 171 154))
 x:W.heap[w.heap.size+1]?=Y (L xa (G.ix 174 157))
 y:W.heap[w.heap.size+1+1]?=Y (L ya (G.ix 174 157))
 z:∃c,c.size=17/\W.heap[w.heap.size+1+1+1]?=Y (L c (G.ix 174 157))
 b:ω w W
theorem mB.call(h:mB G w wa xa ya W)(k:ω W W'):mB G w wa xa ya W':=
 ⟨(k.block _ (ah h.o)).trans h.o,(k.block _ (ah h.x)).trans h.x,(k.block _ (ah h.y)).trans h.y,h.z.elim (λc hc=>⟨c,hc.1,(k.block _ (ah hc.2)).trans hc.2⟩),h.b.trans (k.mono h.b.size)⟩
theorem mB.store{d:Array Value}(h:mB G w wa xa ya W)(hd:d.size=17):mB G w wa xa ya (W.setCells (w.heap.size+1+1+1) 0 d.toList)/\(W.setCells (w.heap.size+1+1+1) 0 d.toList).heap[w.heap.size+1+1+1]?=Y (L d (G.ix 174 157)):=by obtain⟨c,hc,hz⟩:=h.z;have h1:=ar hz (d:=d) À;exact⟨⟨(al _ _ _ _ À).trans h.o,(al _ _ _ _ À).trans h.x,(al _ _ _ _ À).trans h.y,⟨d,hd,h1⟩,au À _ _ _ _ h.b⟩,h1⟩
theorem Mg{B:Nat}{G:aw E}(dv:Value)(ch ao narrow aj:Int)(th:Bool)(m:Nat)(f:Option Addr)(xs ys:List Sp.Iv)(w:Wd)(hd:fU B G dv w)(hx:xs.length=8)(hy:ys.length=8)(Xf:∀x∈xs,G.Wv x)(Wu:∀y∈ys,G.Wv y) :
  Calls prog (G.ix 82 79) #[J (G.At dv ch ao narrow aj th m f),J (G.eW true xs),J (G.eW true ys)] w λe w'=>e=υ (J (G.eW true (List.zipWith G.dM xs ys)))/\ω w w':=by
 cases E
 all_goals
  dsimp only[aw.ix,aw.kd]at*
  have HDo:=hid hd;have HE:Hid (∀W,ω w W->Calls _ _ _ W _):=λW b0=>LX dv G.dM xs ys W hx hy Xf Wu (λW' x y k wx wy=>YQ ((HDo.below (b0.mono HDo.size)).below (k.mono (Nat.le_trans HDo.size b0.size))) wx wy)
  have zx:=G.iT true xs;have zy:=G.iT true ys;have sx:(G.eW true xs).size=17:=G.eb hx;have sy:(G.eW true ys).size=17:=G.eb hy;have H0:Hid (mB G w (G.At dv ch ao narrow aj th m f) (G.eW true xs) (G.eW true ys) ((((w.alloc (L (G.At dv ch ao narrow aj th m f) (G.ix 171 154))).alloc (L (G.eW true xs) (G.ix 174 157))).alloc (L (G.eW true ys) (G.ix 174 157))).alloc (L G.zS (G.ix 174 157)))):=by obtain⟨k0,k1,k2,k3,kb⟩:=cN (w:=w) (o1:=L (G.At dv ch ao narrow aj th m f) (G.ix 171 154)) (o2:=L (G.eW true xs) (G.ix 174 157)) (o3:=L (G.eW true ys) (G.ix 174 157)) (o4:=L G.fF (G.ix 174 157)) Å;exact⟨k0,k1,k2,⟨_,rfl,k3⟩,kb⟩
  have kL:(G.At dv ch ao narrow aj th m f)[0]?=Y (σ (G.ix 92 87) dv):=rfl;generalize G.At dv ch ao narrow aj th m f=wa at*
  first|go_enter func82,ntmps82|go_enter func79,ntmps79
  go_wp2_with fail;generalize (((w.alloc (L wa (G.ix 171 154))).alloc (L (G.eW true xs) (G.ix 174 157))).alloc (L (G.eW true ys) (G.ix 174 157))).alloc (L G.zS (G.ix 174 157))=W at*;have HD:Hid (mB G w wa (G.eW true xs) (G.eW true ys) W.drew):=H0.call (Å).drew;have lz:(List.zipWith G.dM xs ys).length=8:=by simp;omega
  generalize UC:List.zipWith G.dM xs ys=zs at*;have ZS:=hid UC;clear UC;have sz:(G.eW true zs).size=17:=G.eb lz;refine wp_region_held_drew (S:=λw':Wd=>mB G w wa (G.eW true xs) (G.eW true ys) w') Ã HD.out (λaa=>?_);refine nu 0 rfl (G.nw rfl _ rfl _ _ rfl (G.eW true xs) (λw' h=>aT h.x) sx) aa ?_;refine nu 1 rfl (G.nw rfl _ rfl _ _ rfl (G.eW true ys) (λw' h=>aT h.y) sy) aa ?_;refine tq 2 (ρ (Y ⟨w.heap.size,0,M⟩)) aa ?_;refine tk 3 (σ (G.ix 92 87) dv) rfl (λw' h=>by have d0:=cell_of h.o 0 kL;go_simp) aa ?_;refine tq 4 (σ (G.ix 92 87) dv) aa ?_;refine tq 5 (.func (Fn.method "Join") #[σ (G.ix 92 87) dv] #[]) aa ?_;refine bP 6 λK hK=>?_
  go_simp;refine(HE.out _ HD.b).mono ?_;rintro e w1⟨rfl,b1⟩;go_wp2_with fail;refine hK.out _ _ (HD.call b1) (λaa=>?_);obtain⟨cz,Nh,hz⟩:=aa.z;have im:=aa.store sz;have HS:=hid im;have ht:w1.there (w.heap.size+1+1+1) 0 (G.eW true zs).size:=by rw[sz,<-Nh];exact bO hz
  have hi3:(prog.info? (G.ix 174 157)).map (·.size)=Y (G.eW true zs).size:=by rw[eV,sz]
  clear hK K im hz b1;refine bP 7 λK hK=>?_
  rw[Á Ê];refine wp_store_mid _ _ _ rfl _ _ (G.eW true zs) rfl rfl ht hi3 (G.mh true zs) ?_;refine hK.out _ _ HS.1 (λ_=>?_);clear hK K;refine wpAnyH_done Ã ?_ _;go_wp2_with fail;refine Ç (aU rfl _ _ rfl HS.2 sz) rfl ⟨?_,HS.1.b⟩;rw[ZS.out]
theorem Gu(wa:Array Value)(xs:List Sp.Iv)(y:Array Value)(w:Wd)(hx:xs.length=8)(hy:y.size=17)(h0:∀h,y[0]'h=U false) :
  Calls prog (G.ix 82 79) #[J wa,J (G.eW true xs),J y] w λe w'=>e=υ (J (G.eW true xs))/\ω w w':=by
 cases E
 all_goals
  dsimp only[aw.ix,aw.kd]at*
  have zx:=G.iT true xs;have sx:(G.eW true xs).size=17:=G.eb hx;have H0:Hid (mB G w wa (G.eW true xs) y ((((w.alloc (L wa (G.ix 171 154))).alloc (L (G.eW true xs) (G.ix 174 157))).alloc (L y (G.ix 174 157))).alloc (L G.zS (G.ix 174 157)))):=by obtain⟨k0,k1,k2,k3,kb⟩:=cN (w:=w) (o1:=L wa (G.ix 171 154)) (o2:=L (G.eW true xs) (G.ix 174 157)) (o3:=L y (G.ix 174 157)) (o4:=L G.fF (G.ix 174 157)) Å;exact⟨k0,k1,k2,⟨_,rfl,k3⟩,kb⟩
  obtain⟨cz,Nh,hz⟩:=H0.z;have HZ:=hid hz;have HS:=hid (H0.store sx);clear hz
  first|go_enter func82,ntmps82|go_enter func79,ntmps79
  go_wp2_with (first
   |(refine bR (G:=G) rfl _ rfl rfl H0.x sx ?_)
   |(refine cy (G:=G) rfl _ _ rfl rfl rfl HZ.out Nh sx (G.mh _ _) ?_))
  refine Ç (aU rfl _ _ rfl HS.2 sx) rfl ⟨rfl,HS.1.b⟩
def aw.aQ(G:aw E)(s:ST):Array Value:=match s with
 |none=>G.fF
 |some e=>G.eW true (List.ofFn e)
theorem aw.aG(G:aw E)(s:ST):(G.aQ s).size=17:=by
 cases s with
 |none=>rfl
 |some e=>exact G.eb Ä
theorem aw.aZ(G:aw E)(s:ST):(G.aQ s).all (·.oneCell')=true:=by
 cases s with
 |none=>exact G.mh false (List.replicate 8 ⟨0,0⟩)
 |some e=>exact G.mh _ _
theorem aw.iY(G:aw E)(s:ST)(h:0<(G.aQ s).size):(G.aQ s)[0]=U s.isSome:=by
 cases s with
 |none=>rfl
 |some e=>rfl
theorem zv(g:Sp.Iv->Sp.Iv->Sp.Iv)(e e':Fin 8->Sp.Iv):List.zipWith g (List.ofFn e) (List.ofFn e')=List.ofFn (λk=>g (e k) (e' k)):=by
 refine List.ext_getElem? λi=>?_
 rw[List.getElem?_zipWith,â,â,â];by_cases h:i<8
 .simp[h]
 .simp[h]
theorem qn{B:Nat}{G:aw E}(dv:Value)(ch ao narrow aj:Int)(th:Bool)(m:Nat)(f:Option Addr)(s t u:ST)(w:Wd)(hd:fU B G dv w)(hu:Sp.jn (Dm G) s t=u)(hs:Sp.Wf (Kr G) s)(ht:Sp.Wf (Kr G) t) :
  Calls prog (G.ix 82 79) #[J (G.At dv ch ao narrow aj th m f),J (G.aQ s),J (G.aQ t)] w λe w'=>e=υ (J (G.aQ u))/\ω w w':=by
 subst hu;cases s with
 |none=>exact join_none _ (G.aQ M) (G.aQ t) w rfl (G.aG t) (G.aZ t) (G.iY M)
 |some e=>
  cases t with
  |none=>exact Gu _ (List.ofFn e) (G.aQ M) w Ä rfl (G.iY M)
  |some e'=>have h:=Mg dv ch ao narrow aj th m f (List.ofFn e) (List.ofFn e') w hd Ä Ä (λx hx=>by obtain⟨k,rfl⟩:=ì.1 hx;exact hs _ rfl k) (λx hx=>by obtain⟨k,rfl⟩:=ì.1 hx;exact ht _ rfl k);rw[zv]at h;exact h
end
end W
end
end Go.Proofs.YtiopfihjmkfdmabGreatDoor
