import Derived.Test.YtiopfihjmkfdmaaGreatDoorR14
namespace Go.Proofs.YtiopfihjmkfdmaaGreatDoor
open Option renaming some→Y,none→M
open Go.Value renaming int→I,pointer→ρ,string→χ,bool→U
open Go.IntKind renaming i64→O
open Go.Ending renaming returned→υ
open Go.Obj renaming cells→L
open Go.Proofs.Tryz Sp
open Go.RowKit
set_option maxRecDepth 100000
set_option maxHeartbeats 16000000
section
section
variable{l l1 lc:Sp.Bs}
variable{p pc p':FP}
variable{first last:Int}
def Sf(j hi:Nat)(ns:List aH)(d:aH)(ct:Ct)(f:Bl->Bl)(ct1:Ct):Prop :=
 ∀(rZ:List aH) (q:Int) (rest:Bl) (aX:Ct) (lo oA:Nat),lo<=j->hi<=oA->(∀i,j<i->i<hi->rZ[i]?=ns[i]?)->rZ[j]?=Y { d with next:=q }->jw rZ lo oA rest q ct1 aX->jw rZ lo oA (f rest) (j:Int) ct aX
def nN(p p':FP)(l:Sp.Bs):Sp.R (Bl->Bl)->Prop
 | .ok (f,l')=>bQ p p' l l'/\(∃d,p'.ns[p.ns.length]?=Y d/\d.next=-1/\Sf p.ns.length p'.ns.length p'.ns d p.ct f p'.ct)/\∃qf,p'.qs=p.qs ++ qf/\∀rest,cW (f rest)=qf ++ cW rest
 | .error _=>dh p p' l
def mW(base b pb:Nat)(s:ByteArray)(o:Nat)(p:FP)(l:Sp.Bs)(w:Wd)(r:Sp.R (Bl->Bl))(e:Ending)(w':Wd):Prop :=
 ∃(p':FP),e=υ (I O (p.ns.length:Nat))/\FX base b pb s (left r) (o:Int) p' w'/\FK b pb p p' w w'/\nN p p' l r
def nf(base b pb:Nat)(s:ByteArray)(o n:Nat)(st:Sp.Bs->Sp.R (Bl->Bl)):Prop :=
 ∀(l:Sp.Bs) (p:FP) (w:Wd),l.length<n->FR base b pb s l (o:Int) p w->eI p l->cJ l=true->Calls prog 99 #[ρ (Y ⟨b,0,M⟩)] w (mW base b pb s o p l w (st l))
def IA(fs:List (Bl->Bl))(rest:Bl):Bl:=fs.foldr (fun f x=>f x) rest
theorem MH(fs:List (Bl->Bl)):IA fs .nil=aW fs:=rfl
theorem tj(fs:List (Bl->Bl))(f:Bl->Bl)(rest:Bl):IA (fs ++ [f]) rest=IA fs (f rest):=by unfold IA;rw[List.foldr_append];rfl
def nO(p p':FP)(l:Sp.Bs)(k:Int):Sp.R (List (Bl->Bl))->Prop
 | .ok (fs,l')=>bQ p p' l l'/\jw p'.ns p.ns.length p'.ns.length (aW fs) k p.ct p'.ct/\p'.qs=p.qs ++ cW (aW fs)
 | .error _=>dh p p' l
def An(base b pb:Nat)(s:ByteArray)(o:Nat)(p:FP)(l:Sp.Bs)(w:Wd)(r:Sp.R (List (Bl->Bl)))(e:Ending)(w':Wd):Prop :=
 ∃(k:Int) (p':FP),e=υ (I O k)/\FX base b pb s (left r) (o:Int) p' w'/\FK b pb p p' w w'/\nO p p' l k r
def Ev(p pc:FP)(l:Sp.Bs)(first last:Int):Sp.R (List (Bl->Bl))->Prop
 | .error _=>dh p pc l
 | .ok (fs,lc)=>bQ p pc l lc/\(∃qf,pc.qs=p.qs ++ qf/\∀rest,cW (IA fs rest)=qf ++ cW rest) /\
   ((fs=[]/\first=-1/\last=-1/\pc.ns.length=p.ns.length/\pc.ct=p.ct) ∨
    (first=(p.ns.length:Int)/\∃(j:Nat) (d:aH),last=(j:Int)/\p.ns.length<=j/\j<pc.ns.length/\pc.ns[j]?=Y d/\d.next=-1 /\
     ∀(rZ:List aH) (q:Int) (rest:Bl) (aX:Ct) (oA:Nat),pc.ns.length<=oA->(∀i,p.ns.length<=i->i<pc.ns.length->i≠j->rZ[i]?=pc.ns[i]?)->rZ[j]?=Y { d with next:=q }->jw rZ p.ns.length oA rest q pc.ct aX->jw rZ p.ns.length oA (IA fs rest) (p.ns.length:Int) p.ct aX))
def vR(st:Sp.Bs->Sp.R (Bl->Bl))(fin:Sp.R (List (Bl->Bl))):Sp.R (List (Bl->Bl))->Prop
 | .ok (fs,l)=>∃m,l.length<m/\fin=cU Tr st m fs l
 | .error e=>fin=.error e
def mX(fs:List (Bl->Bl)):Sp.R (Bl->Bl)->Sp.R (List (Bl->Bl))
 | .ok (f,l)=>.ok (fs ++ [f],l)
 | .error e=>.error e
theorem E9(A:eR)(st:Sp.Bs->Sp.R A.T)(m:Nat)(fs:List A.T)(l:Sp.Bs)(hb:cJ l=false):cU A st (m+1) fs l=.ok (fs,l):=by rw[cU,if_neg (by rw[hb];simp)]
theorem CF{st:Sp.Bs->Sp.R (Bl->Bl)}{fin:Sp.R (List (Bl->Bl))}{fs:List (Bl->Bl)}(h:vR st fin (.ok (fs,l)))(hb:cJ l=false):fin=.ok (fs,l):=by
 obtain⟨m,hm,e⟩:=h;cases m with
 | zero=>omega
 | succ m=>rw[e];exact E9 Tr st m fs l hb
theorem zH(A:eR)(st:Sp.Bs->Sp.R A.T)(m:Nat)(fs:List A.T)(l:Sp.Bs)(hb:cJ l=true):cU A st (m+1) fs l=(match st l with
  | .ok (x,l1)=>cU A st m (fs ++ [x]) l1
  | .error e=>.error e):=by
 rw[cU,if_pos hb];rfl
theorem LH(A:eR)(st:Sp.Bs->Sp.R A.T)(m:Nat)(fs:List A.T)(l:Sp.Bs)(hb:cJ l=true){f:A.T}(h:st l=.ok (f,l1)):cU A st (m+1) fs l=cU A st m (fs ++ [f]) l1:=by rw[zH A st m fs l hb,h]
theorem Cs(A:eR)(st:Sp.Bs->Sp.R A.T)(m:Nat)(fs:List A.T)(l:Sp.Bs)(hb:cJ l=true){e:Nat × Nat}(h:st l=.error e):cU A st (m+1) fs l=.error e:=by rw[zH A st m fs l hb,h]
theorem CL{st:Sp.Bs->Sp.R (Bl->Bl)}{fin:Sp.R (List (Bl->Bl))}{fs:List (Bl->Bl)}(h:vR st fin (.ok (fs,l)))(hb:cJ l=true)(cQ:∀l f l1,st l=.ok (f,l1)->l1.length<l.length):vR st fin (mX fs (st l)):=by
 obtain⟨m,hm,e⟩:=h;cases m with
 | zero=>omega
 | succ m =>
  rcases hs:st l with er | ⟨f,l1⟩
  ·show fin=_
   rw[e];exact Cs Tr st m fs l hb hs
  ·have:=cQ _ _ _ hs
   exact⟨m,by omega,by rw[e];exact LH Tr st m fs l hb hs⟩
theorem Fj{fs:List (Bl->Bl)}{r:Sp.R (Bl->Bl)}(h:Ev p pc l first last (.ok (fs,lc)))(hf:first<0)(g:nN pc p' lc r):Ev p p' l (pc.ns.length:Int) (pc.ns.length:Int) (mX fs r):=by
 obtain⟨m1,⟨qf,hq,hn⟩,hc⟩:=h
 rcases hc with⟨rfl,_,_,hlen,UA⟩ | ⟨h1,_⟩
 ·rcases r with e | ⟨f,l1⟩
  ·exact dh.made m1 g
  ·obtain⟨m2,⟨d,hd,YA,gI⟩,qf2,vp,Eg⟩:=g
   refine⟨m1.trans m2,⟨qf ++ qf2,by rw[vp,hq,List.append_assoc],fun rest=>?_⟩,.inr ⟨by rw[hlen],pc.ns.length,d,rfl,by omega,?_,hd,YA,?_⟩⟩
   ·rw[tj]
    have e1:=hn (f rest);rw[e1,Eg,List.append_assoc]
   ·exact(List.getElem?_eq_some_iff.1 hd).1
   ·intro rZ q rest aX oA Iq hag Kl hb
    have:=gI rZ q rest aX p.ns.length oA (by omega) Iq (fun i h1 h2=>hag i (by omega) h2 (by omega)) Kl hb;rw[UA,hlen]at this;exact this
 ·omega
theorem IV{fs:List (Bl->Bl)}{j:Nat}{dl:aH}{r:Sp.R (Bl->Bl)}(h:Ev p pc l first (j:Int) (.ok (fs,lc)))(hf:¬ first<0)(g:nN pc p' lc r)(US:p'.ns[j]?=Y dl) :
  Ev p { p' with ns:=p'.ns.set j { dl with next:=(pc.ns.length:Int) } } l first (pc.ns.length:Int) (mX fs r):=by
 obtain⟨m1,⟨qf,hq,hn⟩,hc⟩:=h
 rcases hc with⟨_,h1,_⟩ | ⟨h1,j',d,hj,yT,Ia,hd,YA,uU⟩
 ·omega
 ·have ej:j'=j:=by omega
  subst ej
  rcases r with e | ⟨f,l1⟩
  ·obtain⟨⟨ex,hex⟩,g2⟩:=dh.made m1 g
   refine⟨⟨ex.set (j' - p.ns.length) { dl with next:=(pc.ns.length:Int) },?_⟩,by simpa using g2⟩;show p'.ns.set j' _=_;rw[hex,List.set_append_right _ _ yT]
  ·obtain⟨m2,⟨d2,Qd,aae,gI⟩,qf2,vp,Eg⟩:=g
   have DX:=(List.getElem?_eq_some_iff.1 Qd).1;have edl:dl=d:=by rw[m2.at Ia,hd]at US;exact(Option.some.inj US).symm
   subst edl;have hm:=m1.trans m2;refine⟨⟨?_,by simpa using hm.nl,hm.ql,hm.pt⟩,⟨qf ++ qf2,by show p'.qs=_;rw[vp,hq,List.append_assoc],fun rest=>?_⟩,.inr ⟨h1,pc.ns.length,d2,rfl,by have:=m1.len;omega,by simpa using DX,?_,aae,?_⟩⟩
   ·obtain⟨ex,hex⟩:=hm.pre
    refine⟨ex.set (j' - p.ns.length) { dl with next:=(pc.ns.length:Int) },?_⟩;show p'.ns.set j' _=_;rw[hex,List.set_append_right _ _ yT]
   ·rw[tj,hn,Eg,List.append_assoc]
   ·show(p'.ns.set j' _)[pc.ns.length]?=_
    rw[List.getElem?_set_ne (by omega)];exact Qd
   ·intro rZ q rest aX oA Iq hag Kl hb
    have aao:p'.ns.length<=oA:=by simpa using Iq
    have TZ:∀i,p.ns.length<=i->i<p'.ns.length->i≠pc.ns.length->rZ[i]?=(p'.ns.set j' { dl with next:=(pc.ns.length:Int) })[i]?:=fun i h1 h2 h3=>hag i h1 (by simpa using h2) h3
    have h2:=gI rZ q rest aX p.ns.length oA m1.len aao (fun i h1 h2=>by rw[TZ i (by have:=m1.len;omega) h2 (by omega),List.getElem?_set_ne (by omega)]) Kl hb;have:=uU rZ (pc.ns.length:Int) (f rest) aX oA (by omega) (fun i h1 h2 h3=>by rw[TZ i h1 (by omega) (by omega),List.getElem?_set_ne (by omega)];exact m2.at h2) (by rw[TZ j' yT (by omega) (by omega),List.getElem?_set_self (by omega)]) h2
    rw[tj];exact this
theorem CC{r:Sp.R (List (Bl->Bl))}(h:Ev p pc l first last r):nO p pc l first r:=by
 rcases r with e | ⟨fs,lc⟩
 ·exact h
 ·obtain⟨m1,⟨qf,hq,hn⟩,hc⟩:=h
  have Qp:pc.qs=p.qs ++ cW (aW fs):=by have:=hn .nil;rw[MH]at this;rw[this,hq];simp[cW]
  rcases hc with⟨rfl,h1,_,_,UA⟩ | ⟨h1,j,d,_,yT,Ia,hd,YA,uU⟩
  ·exact⟨m1,⟨h1,UA⟩,Qp⟩
  ·refine⟨m1,?_,Qp⟩
   have:=uU pc.ns (-1) .nil pc.ct pc.ns.length (Nat.le_refl _) (fun _ _ _ _=>rfl) (by rw[hd,<-YA]) ⟨rfl,rfl⟩;rw[h1];exact this
end
end
section
section
variable{p p1 p3:FP}
variable{l l1 l2:Sp.Bs}
variable{d0 n:aH}
variable{j hi v a rel k:Nat}
variable{ns:List aH}
variable{ct ct1 ct2:Ct}
variable{x y:Sm}
theorem Hy(xs:List aH)(d n:aH)(ex:List aH):(xs ++ [d] ++ ex).set xs.length n=xs ++ (n :: ex):=by rw[List.append_assoc,List.set_append_right _ _ (Nat.le_refl _)];simp
theorem Jf{p3:FP}(n:aH)(e1:p1.ns=p.ns ++ [d0])(eq:p1.qs=p.qs)(pJ:In64 p1.ct.1)(m:bQ p1 p3 l1 l2)(hl:l1.length<l.length):bQ p { p3 with ns:=p3.ns.set p.ns.length n } l l2:=by
 obtain⟨ex,hex⟩:=m.pre;have h1:=m.nl;have h2:=m.ql;rw[e1]at h1;rw[eq]at h2;refine⟨⟨n :: ex,?_⟩,?_,?_,fun _=>m.pt pJ⟩
 ·show p3.ns.set p.ns.length n=_
  rw[hex,e1,Hy]
 ·simp at h1 ⊢;omega
 ·show p3.qs.length+_<=_;omega
theorem fN{p3:FP}(n:aH)(e1:p1.ns=p.ns ++ [d0])(m:dh p1 p3 l1)(hl:l1.length<l.length):dh p { p3 with ns:=p3.ns.set p.ns.length n } l:=by
 obtain⟨⟨ex,hex⟩,h1⟩:=m;rw[e1]at h1;refine⟨⟨n :: ex,?_⟩,?_⟩
 ·show p3.ns.set p.ns.length n=_
  rw[hex,e1,Hy]
 ·simp at h1 ⊢;omega
theorem mf{f:Bl->Bl}(e1:p1.ns=p.ns ++ [d0])(eq:p1.qs=p.qs)(pJ:In64 p1.ct.1)(m:bQ p1 p3 l1 l2)(hl:l1.length<l.length)(hn:n.next=-1)
  (gI:Sf p.ns.length p3.ns.length p3.ns n p.ct f p3.ct) (qf:List Int) (hq:p3.qs=p.qs ++ qf) (hqf:∀rest,cW (f rest)=qf ++ cW rest):nN p { p3 with ns:=p3.ns.set p.ns.length n } l (.ok (f,l2)):=by
 have hlen:p.ns.length<p3.ns.length:=by have:=m.len;rw[e1]at this;simp at this;omega
 refine⟨Jf n e1 eq pJ m hl,⟨n,List.getElem?_set_self hlen,hn,?_⟩,qf,hq,hqf⟩;intro rZ q rest aX lo oA h1 h2 h3 h4 h5;have Ij:p3.ns.length<=oA:=by simpa using h2
 refine gI rZ q rest aX lo oA h1 Ij (fun i a b=>?_) h4 h5;rw[h3 i a (by simpa using b)];show(p3.ns.set _ _)[i]?=_;rw[List.getElem?_set_ne (by omega)]
theorem Ar{v:Nat}(hj:j<hi)(h1:n.ay=ct.1)(h2:n.kind=7)(h3:n.n=(v:Int))(h4:v<8):Sf j hi ns n ct (.read v) (Sp.aA ct):=by intro rZ q rest aX lo oA a1 a2 a3 a4 a5;exact⟨j,_,rfl,a1,by omega,a4,h1,h2,h3,h4,a5⟩
theorem sU{a:Nat}{v:Nat}(hj:j<hi)(h1:n.ay=ct.1)(h2:n.kind=6)(h3:n.n=(v:Int))(h4:v<8)(h5:n.a=(a:Int))(h6:a<hi)(h7:pZ ns (j+1) x a (Sp.aA ct) ct1):Sf j hi ns n ct (.assign v x) ct1:=by intro rZ q rest aX lo oA a1 a2 a3 a4 a5;exact⟨j,a,_,ct1,rfl,a1,by omega,a4,h1,h2,h3,h4,h5,by omega,h7.mono (by omega) (fun i b1 b2=>a3 i (by omega) (by omega)),a5⟩
theorem tg{a:Nat}(hj:j<hi)(h1:n.ay=ct.1)(h2:n.kind=8)(h3:n.site=ct.2)(h5:n.a=(a:Int))(h6:a<hi)(h7:yG ns (j+1) rel x y a (Sp.aJ (Sp.aA ct)) ct1):Sf j hi ns n ct (.assert rel x y) ct1:=by intro rZ q rest aX lo oA a1 a2 a3 a4 a5;exact⟨j,a,_,ct1,rfl,a1,by omega,a4,h1,h2,h3,h5,by omega,h7.mono (by omega) (fun i b1 b2=>a3 i (by omega) (by omega)),a5⟩
theorem AD{a:Nat}{xs:Bl}(hj:j<hi)(h1:n.ay=ct.1)(h2:n.kind=10)(h5:n.a=(a:Int))(h6:a<hi)(h7:yG ns (j+1) rel x y a (Sp.aA ct) ct1)(h8:jw ns (j+1) hi xs n.b ct1 ct2):Sf j hi ns n ct (.loop rel x y xs) ct2:=by intro rZ q rest aX lo oA a1 a2 a3 a4 a5;exact⟨j,a,_,ct1,ct2,rfl,a1,by omega,a4,h1,h2,h5,by omega,h7.mono (by omega) (fun i b1 b2=>a3 i (by omega) (by omega)),h8.mono (by omega) a2 (fun i b1 b2=>a3 i (by omega) b2),a5⟩
theorem At{a:Nat}{mJ:Ct}{xs ys:Bl}{els:Bool}(hj:j<hi)(h1:n.ay=ct.1)(h2:n.kind=9)(h3:n.els=els)(h5:n.a=(a:Int))(h6:a<hi)(h7:yG ns (j+1) rel x y a (Sp.aA ct) ct1)(h8:jw ns (j+1) hi xs n.b ct1 ct2)(h9:jw ns (j+1) hi ys n.c ct2 mJ)(gB:els=false->ys=.nil):Sf j hi ns n ct (.ite rel x y xs els ys) mJ:=by intro rZ q rest aX lo oA a1 a2 a3 a4 a5;exact⟨j,a,_,ct1,ct2,mJ,rfl,a1,by omega,a4,h1,h2,h3,h5,by omega,h7.mono (by omega) (fun i b1 b2=>a3 i (by omega) (by omega)),h8.mono (by omega) a2 (fun i b1 b2=>a3 i (by omega) b2),h9.mono (by omega) a2 (fun i b1 b2=>a3 i (by omega) b2),gB,a5⟩
theorem IP(l:Sp.Bs):left (gG Tr l)=(left (dG (Sp.next l))).bind (Sp.take [59]):=by
 unfold gG;cases dG (Sp.next l) with
 | error e=>rfl
 | ok kl =>simp only[left,Except.bind];cases Sp.take [59] kl.2<;>rfl
theorem tJ(h:aQ l=Y k):k<8:=by obtain⟨c,_,_,h1,h2,h3⟩:=dD h;omega
theorem fv(n:Int):In64 (RowKit.wrap64 n):=by unfold In64 RowKit.wrap64;omega
theorem KK{k:Int}(e1:p1.ns=p.ns ++ [d0])(eq:p1.qs=p.qs)(ec:p1.ct=Sp.aA p.ct)(hl:(Sp.next l).length<l.length)(hk:∀kk,aQ (Sp.next l)=Y kk->k=(kk:Int))(n1:n.next=-1)(n2:n.ay=p.ct.1)(n3:n.kind=7)(n4:n.n=k) :
  nN p { p1 with ns:=p1.ns.set p.ns.length n } l (gG Tr l):=by
 have hb:dh p { p1 with ns:=p1.ns.set p.ns.length n } l:=fN n e1 (dh.refl p1 (Sp.next l)) hl;unfold gG;cases hv:aQ (Sp.next l) with
 | none=>rw[kI hv];exact hb
 | some kk =>
  rw[iG hv];simp only;cases ht:Sp.take [59] (Sp.next (Sp.next l)) with
  | error e=>exact hb
  | ok l2 =>
   obtain⟨_,h2⟩:=cd ht;have BF:l2.length<=(Sp.next l).length:=by rw[h2];exact Nat.le_trans (bZ _) (bZ _)
   refine mf (p3:=p1) (f:=.read kk) e1 eq (by rw[ec];exact fv _) (bQ.xY BF) hl n1 ?_ [] (by rw[eq];simp) (fun _=>rfl);rw[ec];exact Ar (by rw[e1];simp) n2 n3 (by rw[n4,hk kk hv]) (tJ hv)
theorem FX.cast{base b pb:Nat}{s:ByteArray}{r r':Except (Nat × Nat) Sp.Bs}{o:Int}{w:Wd}(e:r=r')(h:FX base b pb s r o p w):FX base b pb s r' o p w:=by rw[<-e];exact h
end
end
section
section
variable{o:Nat}
variable{p p1 p3:FP}
variable{l:Sp.Bs}
variable{d0 n:aH}
variable{k ka kc kb:Int}
theorem Fi(e1:p1.ns=p.ns ++ [d0])(eq:p1.qs=p.qs)(ec:p1.ct=Sp.aA p.ct)(hk:∀kk,aQ l=Y kk->k=(kk:Int))(hb:aQ l≠M)
  (g:∀l2,(left (dG l)).bind (Sp.take [61])=.ok l2->iv p1 p3 l2 ka (Sp.pS Tr o l2)) (he:∀e,(left (dG l)).bind (Sp.take [61])=.error e->p3=p1)
  (n1:n.next=-1) (n2:n.ay=p.ct.1) (n3:n.kind=6) (n4:n.n=k) (n5:n.a=ka) :
  nN p { p3 with ns:=p3.ns.set p.ns.length n } l (cu Tr o l):=by
 cases hv:aQ l with
 | none=>exact absurd hv hb
 | some kk =>
  have eO:(Sp.next l).length<l.length:=gm (dP (.inl (ff hv)));unfold cu;rw[iG hv]at g he ⊢;simp only[left,Except.bind]at g he ⊢;cases ht:Sp.take [61] (Sp.next l) with
  | error e =>have:=he e ht;subst this;exact fN n e1 (dh.refl _ (Sp.next l)) eO
  | ok l2 =>
   obtain⟨_,h2⟩:=cd ht;have BF:l2.length<=(Sp.next l).length:=by rw[h2];exact bZ _
   have g1:=g l2 ht;simp only
   rcases hS:Sp.pS Tr o l2 with e | ⟨x,l3⟩
   ·rw[hS]at g1
    exact fN (l1:=l2) n e1 g1 (by omega)
   ·rw[hS]at g1
    obtain⟨m1,⟨j,yT,Ia,Ea⟩,q1⟩:=g1;simp only;cases XP:Sp.take [59] l3 with
    | error e=>exact fN (l1:=l2) n e1 (dh.rv m1) (by omega)
    | ok l4 =>
     obtain⟨_,h4⟩:=cd XP;refine mf (p3:=p3) (f:=.assign kk x) e1 eq (by rw[ec];exact fv _) (m1.trans (bQ.xY (l':=l4) (by rw[h4];exact bZ _))) (by omega) n1 ?_ (fm x) (by rw[q1,eq]) (fun _=>rfl);refine sU (a:=j) (by have:=m1.len;rw[e1]at this;simp at this;omega) n2 n3 (by rw[n4,hk kk hv]) (tJ hv) (by rw[n5,yT]) Ia ?_;rw[<-ec];have e':p1.ns.length=p.ns.length+1:=by rw[e1];simp
     rw[<-e'];exact Ea
theorem Ez(e1:p1.ns=p.ns ++ [d0])(eq:p1.qs=p.qs)(ec:p1.ct=Sp.aJ (Sp.aA p.ct))(eO:(Sp.next l).length<l.length)
  (g1:tT p1 p3 (Sp.next l) kc (bh Tr o (Sp.next l)))
  (n1:n.next=-1) (n2:n.ay=p.ct.1) (n3:n.kind=8) (n4:n.site=p.ct.2) (n5:n.a=kc) :
  nN p { p3 with ns:=p3.ns.set p.ns.length n } l (cY Tr o l):=by
 unfold cY
 rcases hC:bh Tr o (Sp.next l) with e | ⟨⟨rel,x,y⟩,l1⟩
 ·rw[hC]at g1
  exact fN (l1:=Sp.next l) n e1 g1 eO
 ·rw[hC]at g1
  obtain⟨m1,⟨j,yT,Ia,Ea⟩,q1⟩:=g1;simp only;cases XP:Sp.take [59] l1 with
  | error e=>exact fN (l1:=Sp.next l) n e1 (dh.rv m1) eO
  | ok l4 =>
   obtain⟨_,h4⟩:=cd XP;refine mf (p3:=p3) (f:=.assert rel x y) e1 eq (by rw[ec];exact fv _) (m1.trans (bQ.xY (l':=l4) (by rw[h4];exact bZ _))) eO n1 ?_ (fm x ++ fm y) (by rw[q1,eq]) (fun _=>rfl);refine tg (a:=j) (by have:=m1.len;rw[e1]at this;simp at this;omega) n2 n3 n4 (by rw[n5,yT]) Ia ?_;rw[<-ec];have e':p1.ns.length=p.ns.length+1:=by rw[e1];simp
   rw[<-e'];exact Ea
def ga(st:Sp.Bs->Sp.R (Bl->Bl))(o:Nat)(l:Sp.Bs):Except (Nat × Nat) Sp.Bs:=(left (bh Tr o (Sp.next l))).bind fun l=>left (bE Tr st o l)
theorem IG{st:Sp.Bs->Sp.R (Bl->Bl)}(hb:∀l,aO Tr st o l=bE Tr st o l){p4:FP}(e1:p1.ns=p.ns ++ [d0])(eq:p1.qs=p.qs)(ec:p1.ct=Sp.aA p.ct)(eO:(Sp.next l).length<l.length)
  (g1:tT p1 p3 (Sp.next l) kc (bh Tr o (Sp.next l))) (g2:∀l2,left (bh Tr o (Sp.next l))=.ok l2->nO p3 p4 l2 kb (bE Tr st o l2)) (he:∀e,left (bh Tr o (Sp.next l))=.error e->p4=p3)
  (n1:n.next=-1) (n2:n.ay=p.ct.1) (n3:n.kind=10) (n5:n.a=kc) (n6:n.b=kb) :
  nN p { p4 with ns:=p4.ns.set p.ns.length n } l (eA Tr (fun l=>aO Tr st o l) o l):=by
 unfold eA
 rcases hC:bh Tr o (Sp.next l) with e | ⟨⟨rel,x,y⟩,l1⟩
 ·rw[hC]at g1 he
  have:=he e rfl;subst this;exact fN (l1:=Sp.next l) n e1 g1 eO
 ·rw[hC]at g1 g2
  obtain⟨m1,⟨j,yT,Ia,Ea⟩,q1⟩:=g1;have g3:=g2 l1 rfl;simp only;rw[hb]
  rcases hB:bE Tr st o l1 with e | ⟨fs,l2⟩
  ·rw[hB]at g3
   exact fN (l1:=Sp.next l) n e1 (dh.made m1 g3) eO
  ·rw[hB]at g3
   obtain⟨m2,qW,q2⟩:=g3;have e':p1.ns.length=p.ns.length+1:=by rw[e1];simp
   have yd:=m1.len;have BF:=m2.len;refine mf (p3:=p4) (f:=.loop rel x y (aW fs)) e1 eq (by rw[ec];exact fv _) (m1.trans m2) eO n1 ?_ (fm x ++ fm y ++ cW (aW fs)) (by rw[q2,q1,eq,List.append_assoc]) (fun _=>by simp[cW]);refine AD (a:=j) (ct1:=p3.ct) (by omega) n2 n3 (by rw[n5,yT]) (by omega) ?_ ?_
   ·rw[<-ec,<-e']
    exact Ea.mono (Nat.le_refl _) (fun i _ hi=>m2.at (by omega))
   ·rw[n6]
    exact qW.mono (by omega) (Nat.le_refl _) (fun _ _ _=>rfl)
end
end
section
section
variable{p p' p1 p3 p4:FP}
variable{l l1 l2:Sp.Bs}
variable{k kc kb:Int}
variable{d0 n:aH}
variable{base b pb o:Nat}
variable{s:ByteArray}
theorem fJ{α:Type}(a:α):Hid (a=a):=rfl
theorem Bc(h:dh p p' l):∃ex,p'.ns=p.ns ++ ex:=h.1
theorem UZ{r:Sp.R Sm}(h:iv p p' l k r):∃ex,p'.ns=p.ns ++ ex:=by
 rcases r with e | ⟨x,l1⟩
 ·exact Bc h
 ·exact h.1.pre
theorem L9{r:Sp.R (Nat × Sm × Sm)}(h:tT p p' l k r):∃ex,p'.ns=p.ns ++ ex:=by
 rcases r with e | ⟨⟨a,x,y⟩,l1⟩
 ·exact Bc h
 ·exact h.1.pre
theorem Mw{r:Sp.R (List (Bl->Bl))}(h:nO p p' l k r):∃ex,p'.ns=p.ns ++ ex:=by
 rcases r with e | ⟨fs,l1⟩
 ·exact Bc h
 ·exact h.1.pre
theorem wQ{r:Except (Nat × Nat) Sp.Bs}(g:∀l,r=.ok l->∃ex,p'.ns=p.ns ++ ex)(he:∀e,r=.error e->p'=p):∃ex,p'.ns=p.ns ++ ex:=by
 cases r with
 | ok l=>exact g l rfl
 | error e=>exact⟨[],by rw[he e rfl];simp⟩
theorem sJ{p2:FP}(h:∃ex,p1.ns=p.ns ++ ex)(k:∃ex,p2.ns=p1.ns ++ ex):∃ex,p2.ns=p.ns ++ ex:=by obtain⟨a,ha⟩:=h;obtain⟨c,hc⟩:=k;exact⟨a ++ c,by rw[hc,ha,List.append_assoc]⟩
theorem mg(e1:p1.ns=p.ns ++ [d0])(h:∃ex,p3.ns=p1.ns ++ ex):p3.ns[p.ns.length]?=Y d0:=by obtain⟨ex,hex⟩:=h;rw[hex,e1];simp
theorem pC(h:eI p l)(e1:p1.ns=p.ns ++ [d0])(eq:p1.qs=p.qs)(hp:In64 p1.ct.1)(hl:l1.length<l.length):eI p1 l1:=by
 obtain⟨h1,h2,_⟩:=h;refine⟨?_,?_,hp⟩
 ·rw[e1];simp;omega
 ·rw[eq];omega
theorem Ae(o:Nat)(l:Sp.Bs):((((left (dG l)).bind (Sp.take [61])).bind fun l=>@left Sm (Sp.pS Tr o l)).bind (Sp.take [59]))=@left (Bl->Bl) (cu Tr o l):=by
 unfold cu;cases dG l with
 | error e=>rfl
 | ok kl =>
  simp only[left,Except.bind];cases Sp.take [61] kl.2 with
  | error e=>rfl
  | ok l2 =>
   simp only
   rcases Sp.pS Tr o l2 with e | ⟨x,l3⟩
   ·rfl
   ·simp only
    cases Sp.take [59] l3<;>rfl
theorem Bo(o:Nat)(l:Sp.Bs):((@left (Nat × Sm × Sm) (bh Tr o (Sp.next l))).bind (Sp.take [59]))=@left (Bl->Bl) (cY Tr o l):=by
 unfold cY
 rcases bh Tr o (Sp.next l) with e | ⟨⟨k,x,y⟩,l1⟩
 ·rfl
 ·simp only[left,Except.bind]
  cases Sp.take [59] l1<;>rfl
theorem yY(st:Sp.Bs->Sp.R (Bl->Bl))(o:Nat)(l:Sp.Bs):((@left (Nat × Sm × Sm) (bh Tr o (Sp.next l))).bind fun l=>@left (List (Bl->Bl)) (bE Tr st o l))=ga st o l:=by
 unfold ga
 rcases bh Tr o (Sp.next l) with e | ⟨⟨k,x,y⟩,l1⟩
 ·rfl
 ·simp only[left,Except.bind]
  rcases bE Tr st o l1 with e | ⟨fs,l2⟩<;>rfl
theorem B7(st:Sp.Bs->Sp.R (Bl->Bl))(o:Nat)(l:Sp.Bs)(hb:∀l,aO Tr st o l=bE Tr st o l):((@left (Nat × Sm × Sm) (bh Tr o (Sp.next l))).bind fun l=>@left (List (Bl->Bl)) (bE Tr st o l))=@left (Bl->Bl) (eA Tr (fun l=>aO Tr st o l) o l):=by
 unfold eA
 rcases bh Tr o (Sp.next l) with e | ⟨⟨k,x,y⟩,l1⟩
 ·rfl
 ·simp only[left,Except.bind]
  rw[hb]
  rcases bE Tr st o l1 with e | ⟨fs,l2⟩<;>rfl
theorem gZ.Ve{N:Nat}{r r':Except (Nat × Nat) Sp.Bs}{o:Int}{p0:FP}{w0 w:Wd}(e:r=r')(h:gZ base b pb N s r o p0 p w0 n w):gZ base b pb N s r' o p0 p w0 n w:=by rw[<-e];exact h
theorem mu{o:Nat}{w w':Wd}{r:Sp.R (Bl->Bl)}{q:Except (Nat × Nat) Sp.Bs}(e:q=left r)(h:FX base b pb s q (o:Int) p' w')(k:FK b pb p p' w w')(g:nN p p' l r):mW base b pb s o p l w r (υ (I O (p.ns.length:Nat))) w':=⟨p',rfl,FX.cast e h,k,g⟩
theorem vf(A:eR)(st:Sp.Bs->Sp.R A.T)(o:Nat)(l:Sp.Bs)(hb:∀l,aO A st o l=bE A st o l):qR A (fun l=>aO A st o l) o l=(match bh A o (Sp.next l) with
 | .ok ((k,x,y),l1)=>(match bE A st o l1 with
  | .ok (xs,l2)=>if Sp.tok l2=kt then(match bE A st o (Sp.next l2) with
    | .ok (ys,l3)=>.ok (A.ite k x y xs (Y ys),l3)
    | .error e=>.error e) else .ok (A.ite k x y xs M,l2)
  | .error e=>.error e)
 | .error e=>.error e):=by
 unfold qR;simp only[hb]
 rcases bh A o (Sp.next l) with e | ⟨⟨k,x,y⟩,l1⟩
 ·rfl
 ·simp only
  rcases bE A st o l1 with e | ⟨xs,l2⟩
  ·rfl
  ·simp only
   by_cases he:Sp.tok l2=kt
   ·rw[if_pos he,if_pos he]
    rcases bE A st o (Sp.next l2) with e | ⟨ys,l3⟩<;>rfl
   ·rw[if_neg he,if_neg he]
def VB(st:Sp.Bs->Sp.R (Bl->Bl))(o:Nat)(l:Sp.Bs):Except (Nat × Nat) Sp.Bs:=(ga st o l).bind fun l2=>if Sp.tok l2=kt then left (bE Tr st o (Sp.next l2)) else .ok l2
theorem A8(st:Sp.Bs->Sp.R (Bl->Bl))(o:Nat)(l:Sp.Bs)(hb:∀l,aO Tr st o l=bE Tr st o l):left (qR Tr (fun l=>aO Tr st o l) o l)=VB st o l:=by
 rw[vf Tr st o l hb];unfold VB ga
 rcases bh Tr o (Sp.next l) with e | ⟨⟨k,x,y⟩,l1⟩
 ·rfl
 ·simp only[left,Except.bind]
  rcases bE Tr st o l1 with e | ⟨fs,l2⟩
  ·rfl
  ·simp only
   by_cases he:Sp.tok l2=kt
   ·rw[if_pos he,if_pos he]
    rcases bE Tr st o (Sp.next l2) with e | ⟨ys,l3⟩<;>rfl
   ·rw[if_neg he,if_neg he]
theorem Du{st:Sp.Bs->Sp.R (Bl->Bl)}(hb:∀l,aO Tr st o l=bE Tr st o l){er:Nat × Nat}(h:ga st o l=.error er):.error er=@left (Bl->Bl) (qR Tr (fun l=>aO Tr st o l) o l):=by have:=A8 st o l hb;unfold VB at this;rw[h]at this;exact this.symm
theorem AQ{st:Sp.Bs->Sp.R (Bl->Bl)}(hb:∀l,aO Tr st o l=bE Tr st o l)(h:ga st o l=.ok l2)(he:Sp.tok l2≠kt):.ok l2=@left (Bl->Bl) (qR Tr (fun l=>aO Tr st o l) o l):=by have:=A8 st o l hb;unfold VB at this;rw[h]at this;simp only[Except.bind]at this;rw[if_neg he]at this;exact this.symm
theorem Bb{st:Sp.Bs->Sp.R (Bl->Bl)}(hb:∀l,aO Tr st o l=bE Tr st o l)(h:ga st o l=.ok l2)(he:Sp.tok l2=kt):((Except.ok (Sp.next l2):Except (Nat × Nat) Sp.Bs).bind fun l=>@left (List (Bl->Bl)) (bE Tr st o l))=@left (Bl->Bl) (qR Tr (fun l=>aO Tr st o l) o l):=by have:=A8 st o l hb;unfold VB at this;rw[h]at this;simp only[Except.bind]at this;rw[if_pos he]at this;exact this.symm
theorem Ey{st:Sp.Bs->Sp.R (Bl->Bl)}(hb:∀l,aO Tr st o l=bE Tr st o l)(e1:p1.ns=p.ns ++ [d0])(eO:(Sp.next l).length<l.length)
  (g1:tT p1 p3 (Sp.next l) kc (bh Tr o (Sp.next l))) (g2:∀l2,left (bh Tr o (Sp.next l))=.ok l2->nO p3 p4 l2 kb (bE Tr st o l2)) (he:∀e,left (bh Tr o (Sp.next l))=.error e->p4=p3) {er:Nat × Nat} (D0:ga st o l=.error er) :
  nN p { p4 with ns:=p4.ns.set p.ns.length n } l (qR Tr (fun l=>aO Tr st o l) o l):=by
 rw[vf Tr st o l hb];unfold ga at D0
 rcases hC:bh Tr o (Sp.next l) with e | ⟨⟨rel,x,y⟩,l1⟩
 ·rw[hC]at g1 he
  have:=he e rfl;subst this;exact fN (l1:=Sp.next l) n e1 g1 eO
 ·rw[hC]at g1 g2 D0
  obtain⟨m1,⟨j,yT,Ia,Ea⟩,q1⟩:=g1;have g3:=g2 l1 rfl;simp only
  rcases hB:bE Tr st o l1 with e | ⟨fs,l2⟩
  ·rw[hB]at g3
   exact fN (l1:=Sp.next l) n e1 (dh.made m1 g3) eO
  ·simp only[left,Except.bind]at D0
   rw[hB]at D0;cases D0
theorem DH{st:Sp.Bs->Sp.R (Bl->Bl)}(hb:∀l,aO Tr st o l=bE Tr st o l)(e1:p1.ns=p.ns ++ [d0])(eq:p1.qs=p.qs)(ec:p1.ct=Sp.aA p.ct)(eO:(Sp.next l).length<l.length)
  (g1:tT p1 p3 (Sp.next l) kc (bh Tr o (Sp.next l))) (g2:∀l2,left (bh Tr o (Sp.next l))=.ok l2->nO p3 p4 l2 kb (bE Tr st o l2))
  {l2:Sp.Bs} (qU:ga st o l=.ok l2) (dF:Sp.tok l2≠kt)
  (n1:n.next=-1) (n2:n.ay=p.ct.1) (n3:n.kind=9) (n5:n.a=kc) (n6:n.b=kb) (n7:n.c=-1) (n8:n.els=false) :
  nN p { p4 with ns:=p4.ns.set p.ns.length n } l (qR Tr (fun l=>aO Tr st o l) o l):=by
 rw[vf Tr st o l hb];unfold ga at qU
 rcases hC:bh Tr o (Sp.next l) with e | ⟨⟨rel,x,y⟩,l1⟩
 ·rw[hC]at qU;cases qU
 ·rw[hC]at g1 g2 qU
  obtain⟨m1,⟨j,yT,Ia,Ea⟩,q1⟩:=g1;have g3:=g2 l1 rfl;simp only[left,Except.bind]at qU;simp only
  rcases hB:bE Tr st o l1 with e | ⟨fs,Rg⟩
  ·rw[hB]at qU;cases qU
  ·rw[hB]at g3 qU
   have:Rg=l2:=by simpa using qU
   subst this;obtain⟨m2,qW,q2⟩:=g3;have e':p1.ns.length=p.ns.length+1:=by rw[e1];simp
   have yd:=m1.len;have BF:=m2.len;simp only;rw[if_neg dF];refine mf (p3:=p4) (f:=.ite rel x y (aW fs) false .nil) e1 eq (by rw[ec];exact fv _) (m1.trans m2) eO n1 ?_ (fm x ++ fm y ++ cW (aW fs)) (by rw[q2,q1,eq,List.append_assoc]) (fun _=>by simp[cW]);refine At (a:=j) (ct1:=p3.ct) (ct2:=p4.ct) (by omega) n2 n3 n8 (by rw[n5,yT]) (by omega) ?_ ?_ ⟨n7,rfl⟩ (fun _=>rfl)
   ·rw[<-ec,<-e']
    exact Ea.mono (Nat.le_refl _) (fun i _ hi=>m2.at (by omega))
   ·rw[n6]
    exact qW.mono (by omega) (Nat.le_refl _) (fun _ _ _=>rfl)
theorem Di{st:Sp.Bs->Sp.R (Bl->Bl)}(hb:∀l,aO Tr st o l=bE Tr st o l){p5:FP}{ke:Int}(e1:p1.ns=p.ns ++ [d0])(eq:p1.qs=p.qs)(ec:p1.ct=Sp.aA p.ct)(eO:(Sp.next l).length<l.length)
  (g1:tT p1 p3 (Sp.next l) kc (bh Tr o (Sp.next l))) (g2:∀l2,left (bh Tr o (Sp.next l))=.ok l2->nO p3 p4 l2 kb (bE Tr st o l2))
  {l2:Sp.Bs} (qU:ga st o l=.ok l2) (he:Sp.tok l2=kt) (g4:nO p4 p5 (Sp.next l2) ke (bE Tr st o (Sp.next l2)))
  (n1:n.next=-1) (n2:n.ay=p.ct.1) (n3:n.kind=9) (n5:n.a=kc) (n6:n.b=kb) (n7:n.c=ke) (n8:n.els=true) :
  nN p { p5 with ns:=p5.ns.set p.ns.length n } l (qR Tr (fun l=>aO Tr st o l) o l):=by
 rw[vf Tr st o l hb];unfold ga at qU
 rcases hC:bh Tr o (Sp.next l) with e | ⟨⟨rel,x,y⟩,l1⟩
 ·rw[hC]at qU;cases qU
 ·rw[hC]at g1 g2 qU
  obtain⟨m1,⟨j,yT,Ia,Ea⟩,q1⟩:=g1;have g3:=g2 l1 rfl;simp only[left,Except.bind]at qU;simp only
  rcases hB:bE Tr st o l1 with e | ⟨fs,Rg⟩
  ·rw[hB]at qU;cases qU
  ·rw[hB]at g3 qU
   have:Rg=l2:=by simpa using qU
   subst this;obtain⟨m2,qW,q2⟩:=g3;have e':p1.ns.length=p.ns.length+1:=by rw[e1];simp
   have yd:=m1.len;have BF:=m2.len;have me:bQ p4 p4 Rg (Sp.next Rg):=bQ.xY (bZ _);simp only;rw[if_pos he]
   rcases VO:bE Tr st o (Sp.next Rg) with e | ⟨ys,l3⟩
   ·rw[VO]at g4
    exact fN (l1:=Sp.next l) n e1 (dh.made ((m1.trans m2).trans me) g4) eO
   ·rw[VO]at g4
    obtain⟨m4,aat,q4⟩:=g4;have vu:=m4.len;simp only;refine mf (p3:=p5) (f:=.ite rel x y (aW fs) true (aW ys)) e1 eq (by rw[ec];exact fv _) (((m1.trans m2).trans me).trans m4) eO n1 ?_ (fm x ++ fm y ++ cW (aW fs) ++ cW (aW ys)) (by rw[q4,q2,q1,eq];simp only[List.append_assoc]) (fun _=>by simp[cW]);refine At (a:=j) (ct1:=p3.ct) (ct2:=p4.ct) (by omega) n2 n3 n8 (by rw[n5,yT]) (by omega) ?_ ?_ ?_ (fun e=>nomatch e)
    ·rw[<-ec,<-e']
     exact Ea.mono (Nat.le_refl _) (fun i _ hi=>by rw[m4.at (by omega),m2.at (by omega)])
    ·rw[n6]
     exact qW.mono (by omega) (by omega) (fun i _ hi=>m4.at (by omega))
    ·rw[n7]
     exact aat.mono (by omega) (Nat.le_refl _) (fun _ _ _=>rfl)
end
end
section
theorem FR.zQ{base b pb:Nat}{s:ByteArray}{l:Sp.Bs}{o:Int}{p:FP}{w:Wd}(h:FX base b pb s (.ok l) o p w):FR base b pb s l o p w:=h
theorem DK(base b pb:Nat)(s:ByteArray)(o:Nat)(l:Sp.Bs)(p:FP)(w:Wd)(h:FR base b pb s l (o:Int) p w)(hlim:eI p l)(ht:Sp.tok l=uj) :
  Calls prog 99 #[ρ (Y ⟨b,0,M⟩)] w (mW base b pb s o p l w (gG Tr l)):=by
 obtain⟨c6,c3,dC,vu⟩:=h.asks;have c4:=cell_of h.aT 4 (v:=ρ (Y ⟨pb,0,M⟩)) rfl;have d2:=cell_of h.prog.aT 2 (v:=I O p.ct.1) rfl;have HT:=hid ht;have jo:Hid ((Sp.next l).length<l.length):=aG ht (by decide);have pF:p.ns.length+1<=1000000:=by have:=hlim.1;omega
 clear dC ht;go_enter func99,ntmps99;go_wp2_with fail;refine(eF (r:=.ok l) h { ay:=p.ct.1,next:=-1,c:=-1 } pF).mono ?_;rintro e w1⟨rfl,v,h1,k1⟩;have o7:FR base b pb s l (o:Int) _ w1:=h1;have c4:=cell_of o7.aT 4 (v:=ρ (Y ⟨pb,0,M⟩)) rfl;have d2:=cell_of o7.prog.aT 2 (v:=I O p.ct.1) rfl;have f2:=aw o7.prog.aT 2;go_wp2_with fail
 go_cut [] from 6 (fun wc=>wc=(w1.setCell ⟨pb,2,M⟩ (I O (RowKit.wrap64 (p.ct.1+1)))).drew)
 case first =>
  go_region_with (fail)
  all_goals
   go_wp2_with fail;go_meet;rw[IntWalk.i64_left]
 case rest =>
  obtain⟨iC,fK⟩:=FX.jf (r:=.ok l) (p':={ p with ns:=p.ns ++ [{ ay:=p.ct.1,next:=-1,c:=-1 }],nv:=v,ct:=Sp.aA p.ct }) h1 2 (I O (RowKit.wrap64 (p.ct.1+1))) (mb h1.prog.aT _) rfl rfl rfl rfl;have hx:FX base b pb s (.ok l) (o:Int) { p with ns:=p.ns ++ [{ ay:=p.ct.1,next:=-1,c:=-1 }],nv:=v,ct:=Sp.aA p.ct } wc:=by rw[hcut];exact iC.drew
  have hk:FK b pb p { p with ns:=p.ns ++ [{ ay:=p.ct.1,next:=-1,c:=-1 }],nv:=v,ct:=Sp.aA p.ct } w wc:=by rw[hcut];exact k1.trans fK.drew
  clear hcut iC fK h1 k1 o7 c4 d2 f2 c3 c6;have eG:FR base b pb s l (o:Int) _ wc:=hx;have c4:=cell_of eG.aT 4 (v:=ρ (Y ⟨pb,0,M⟩)) rfl;have d2:=cell_of eG.prog.aT 2 (v:=I O (RowKit.wrap64 (p.ct.1+1))) rfl;have c3:=cell_of eG.aT 3 (v:=χ ⟨(Sp.tok l).toArray⟩) rfl;rw[HT.out]at c3;have pJ:RowKit.wrap64 (RowKit.wrap64 (p.ct.1+1) - 1)=p.ct.1:=by obtain⟨_,_,a1,a2⟩:=hlim;unfold RowKit.wrap64;omega
  have xS:b<wc.heap.size:=ad eG.aT;have Qx:pb<wc.heap.size:=ad eG.prog.aT;have M0:Hid (gZ base b pb wc.heap.size s _ _ _ _ _ _ _):=gZ.start { kind:=7,c:=-1,next:=-1,ay:=p.ct.1 } hx hk;clear hx hk;go_wp2_with fail;refine(dJ (FR.zQ M0.fx)).mono ?_;rintro e w2⟨rfl,h2,k2⟩;have M1:=M0.call (r':=.ok (Sp.next l)) h2 k2;go_wp2_with fail;refine(DN h2).mono ?_;rintro e w3⟨k,rfl,h3,k3,Oz⟩;have Yo:=hid Oz;clear Oz;have M2:=M1.call h3 k3;obtain⟨e4,f4⟩:=M2.box.cell 4 rfl;have M3:=hid (M2.set 4 (I O k) (n':={ kind:=7,c:=-1,next:=-1,ay:=p.ct.1,n:=k }) rfl);clear M1 M2 M0 h2 k2 h3 k3;go_wp2_with fail;refine(rj M3.fx [59]).mono ?_;rintro e w4⟨rfl,h4,k4⟩;have M4:=M3.call h4 k4;obtain⟨g,cap,hv,ow,hmax,ov,hj,a4,a0,⟨n0,n1,n2,n3,n4,n5,n6,n7,n8,n9⟩,⟨r0,r1,r2,r3,r4,r5,r6,r7,r8,r9⟩,q0,q1,q2,q3,q4,q5,q6,q7,q8,q9⟩:=M4.facts (j:=p.ns.length) (d:={ ay:=p.ct.1,next:=-1,c:=-1 }) (by simp);have M5:=hid M4;clear M3 M4 h4 k4;go_wp2_with fail
  go_cut [] from 6 (fun wc=>wc=(rB w4 g (p.ns.length*10) { kind:=7,c:=-1,next:=-1,ay:=p.ct.1,n:=k }).drew)
  case first =>
   clear M5 HT hlim
   go_region_with (fail)
   all_goals
    go_wp2_with fail;go_meet;exact rfl
  case rest =>
   obtain⟨h6,k6⟩:=j5 M5.fx { kind:=7,c:=-1,next:=-1,ay:=p.ct.1,n:=k } hv (j:=p.ns.length) (d:={ ay:=p.ct.1,next:=-1,c:=-1 }) (by simp);go_wp2_with fail;go_ret;exact⟨_,rfl,FX.cast (IP l).symm h6.drew,(M5.fk.trans k6).drew,KK (p1:={ p with ns:=p.ns ++ [{ ay:=p.ct.1,next:=-1,c:=-1 }],nv:=v,ct:=Sp.aA p.ct }) (k:=k) rfl rfl rfl jo.out Yo.out rfl rfl rfl rfl⟩
end
section
theorem yC(base b pb:Nat)(s:ByteArray)(o:Nat)(ho:o<=12)(l:Sp.Bs)(p:FP)(w:Wd)(h:FR base b pb s l (o:Int) p w)(hlim:eI p l)(ht:Sp.tok l=kW) :
  Calls prog 99 #[ρ (Y ⟨b,0,M⟩)] w (mW base b pb s o p l w (cY Tr o l)):=by
 obtain⟨c6,c3,dC,vu⟩:=h.asks;have c4:=cell_of h.aT 4 (v:=ρ (Y ⟨pb,0,M⟩)) rfl;have d2:=cell_of h.prog.aT 2 (v:=I O p.ct.1) rfl;have HT:=hid ht;have jo:Hid ((Sp.next l).length<l.length):=aG ht (by decide);have pF:p.ns.length+1<=1000000:=by have:=hlim.1;omega
 clear dC ht;go_enter func99,ntmps99;go_wp2_with fail;refine(eF (r:=.ok l) h { ay:=p.ct.1,next:=-1,c:=-1 } pF).mono ?_;rintro e w1⟨rfl,v,h1,k1⟩;have o7:FR base b pb s l (o:Int) _ w1:=h1;have c4:=cell_of o7.aT 4 (v:=ρ (Y ⟨pb,0,M⟩)) rfl;have d2:=cell_of o7.prog.aT 2 (v:=I O p.ct.1) rfl;have f2:=aw o7.prog.aT 2;go_wp2_with fail
 go_cut [] from 6 (fun wc=>wc=(w1.setCell ⟨pb,2,M⟩ (I O (RowKit.wrap64 (p.ct.1+1)))).drew)
 case first =>
  go_region_with (fail)
  all_goals
   go_wp2_with fail;go_meet;rw[IntWalk.i64_left]
 case rest =>
  obtain⟨iC,fK⟩:=FX.jf (r:=.ok l) (p':={ p with ns:=p.ns ++ [{ ay:=p.ct.1,next:=-1,c:=-1 }],nv:=v,ct:=Sp.aA p.ct }) h1 2 (I O (RowKit.wrap64 (p.ct.1+1))) (mb h1.prog.aT _) rfl rfl rfl rfl;obtain⟨p1,rY,hp1q,hp1c,hx,hk⟩:∃p1:FP,Hid (p1.ns=p.ns ++ [{ ay:=p.ct.1,next:=-1,c:=-1 }])/\Hid (p1.qs=p.qs)/\p1.ct=Sp.aA p.ct/\FX base b pb s (.ok l) (o:Int) p1 wc/\FK b pb p p1 w wc:=⟨{ p with ns:=p.ns ++ [{ ay:=p.ct.1,next:=-1,c:=-1 }],nv:=v,ct:=Sp.aA p.ct },fJ _,fJ _,rfl,by rw[hcut];exact iC.drew,by rw[hcut];exact k1.trans fK.drew⟩;clear hcut iC fK h1 k1 o7 c4 d2 f2 c3 c6;have eG:FR base b pb s l (o:Int) _ wc:=hx;have c4:=cell_of eG.aT 4 (v:=ρ (Y ⟨pb,0,M⟩)) rfl;have d2:=cell_of eG.prog.aT 2 (v:=I O (RowKit.wrap64 (p.ct.1+1))) (by rw[show(RowKit.wrap64 (p.ct.1+1))=p1.ct.1 by rw[hp1c];rfl];rfl);have c3:=cell_of eG.aT 3 (v:=χ ⟨(Sp.tok l).toArray⟩) rfl;rw[HT.out]at c3;have pJ:RowKit.wrap64 (RowKit.wrap64 (p.ct.1+1) - 1)=p.ct.1:=by obtain⟨_,_,a1,a2⟩:=hlim;unfold RowKit.wrap64;omega
  have xS:b<wc.heap.size:=ad eG.aT;have Qx:pb<wc.heap.size:=ad eG.prog.aT;have d3:=cell_of eG.prog.aT 3 (v:=I O p.ct.2) (by rw[show p.ct.2=p1.ct.2 by rw[hp1c];rfl];rfl);have f3:=aw eG.prog.aT 3;have By:=hid hp1c;have N7:=hid hlim;obtain⟨iC,fK⟩:=FX.jf (r:=.ok l) (p':={ p1 with ct:=Sp.aJ (Sp.aA p.ct) }) hx 3 (I O (RowKit.wrap64 (p.ct.2+1))) (by have:=Au eG.prog.aT (RowKit.wrap64 (p.ct.2+1));rw[hp1c]at this;exact this) rfl rfl rfl rfl;have M0:=(gZ.start { kind:=8,c:=-1,next:=-1,ay:=p.ct.1,site:=p.ct.2 } iC (hk.trans fK)).drew;rw[show(wc.setCell ⟨pb,3,M⟩ (I O (RowKit.wrap64 (p.ct.2+1)))).heap.size=wc.heap.size by simp[World.setCell]]at M0;obtain⟨p2,sk,hp2q,HP2C,M2⟩:∃p2:FP,Hid (p2.ns=p.ns ++ [{ ay:=p.ct.1,next:=-1,c:=-1 }])/\Hid (p2.qs=p.qs)/\Hid (p2.ct=Sp.aJ (Sp.aA p.ct))/\Hid (gZ base b pb wc.heap.size s (.ok l) (o:Int) p p2 w { kind:=8,c:=-1,next:=-1,ay:=p.ct.1,site:=p.ct.2 } ((wc.setCell ⟨pb,3,M⟩ (I O (RowKit.wrap64 (p.ct.2+1)))).alloc (L (cm { kind:=8,c:=-1,next:=-1,ay:=p.ct.1,site:=p.ct.2 }).toArray 176)).drew):=⟨{ p1 with ct:=Sp.aJ (Sp.aA p.ct) },rY,hp1q,fJ _,M0⟩;clear hx hk hp1c hlim M0 iC fK;go_wp2_with fail
  go_cut [] from 6 (fun wd=>wd=((wc.setCell ⟨pb,3,M⟩ (I O (RowKit.wrap64 (p.ct.2+1)))).alloc (L (cm { kind:=8,c:=-1,next:=-1,ay:=p.ct.1,site:=p.ct.2 }).toArray 176)).drew)
  case first =>
   clear M2 HT jo By N7
   go_region_with (fail)
   all_goals
    go_wp2_with fail;go_meet;rw[IntWalk.i64_left]
    all_goals exact rfl
  case rest =>
   rw[<-hcut]at M2;have pK:Hid (eI p2 (Sp.next l)):=pC N7.out sk.out hp2q.out (by rw[HP2C.out];exact fv _) jo.out;clear hcut rY hp1q By N7 c3 c4 d2 d3 f3 eG;go_wp2_with fail;refine(dJ (FR.zQ M2.fx)).mono ?_;rintro e w2⟨rfl,h2,k2⟩;have M3:=hid (M2.call (r':=.ok (Sp.next l)) h2 k2);have H2:Hid (FR base b pb s (Sp.next l) (o:Int) p2 w2):=h2;clear M2 h2 k2;go_wp2_with fail;refine(oO ho H2.out pK.out).mono ?_;rintro e w3⟨kc,p3,rfl,h3,k3,g3⟩;have HD:Hid (p3.ns[p.ns.length]?=Y { ay:=p.ct.1,next:=-1,c:=-1 }):=mg sk.out (L9 g3);have G3:=hid g3;have M4:=M3.call h3 k3;obtain⟨e1,f1⟩:=M4.box.cell 1 rfl;have M5:=hid (M4.set 1 (I O kc) (n':={ kind:=8,c:=-1,next:=-1,ay:=p.ct.1,site:=p.ct.2,a:=kc }) rfl);clear M4 M3 h3 k3 g3 H2;go_wp2_with fail;refine(rj M5.fx [59]).mono ?_;rintro e w4⟨rfl,h4,k4⟩;have M9:=hid (M5.call h4 k4);clear M5 h4 k4;obtain⟨g,cap,hv,ow,hmax,ov,hj,a4,a0,⟨n0,n1,n2,n3,n4,n5,n6,n7,n8,n9⟩,⟨r0,r1,r2,r3,r4,r5,r6,r7,r8,r9⟩,q0,q1,q2,q3,q4,q5,q6,q7,q8,q9⟩:=M9.facts (j:=p.ns.length) (d:={ ay:=p.ct.1,next:=-1,c:=-1 }) HD.out;go_wp2_with fail
   go_cut [] from 6 (fun wc=>wc=(rB w4 g (p.ns.length*10) { kind:=8,c:=-1,next:=-1,ay:=p.ct.1,site:=p.ct.2,a:=kc }).drew)
   case first =>
    clear M9 HT HD pK jo G3
    go_region_with (fail)
    all_goals
     go_wp2_with fail;go_meet;exact rfl
   case rest =>
    obtain⟨h6,k6⟩:=j5 M9.fx { kind:=8,c:=-1,next:=-1,ay:=p.ct.1,site:=p.ct.2,a:=kc } hv (j:=p.ns.length) (d:={ ay:=p.ct.1,next:=-1,c:=-1 }) HD.out;go_wp2_with fail;go_ret;have G9:=Ez (n:={ kind:=8,c:=-1,next:=-1,ay:=p.ct.1,site:=p.ct.2,a:=kc }) (kc:=kc) sk.out hp2q.out HP2C.out jo.out G3.out rfl rfl rfl rfl rfl;rw[hcut];exact mu (Bo o l) h6.drew (M9.fk.trans k6).drew G9
end
section
theorem yo(base b pb:Nat)(s:ByteArray)(o:Nat)(ho:o<=12)(l:Sp.Bs)(p:FP)(w:Wd)(h:FR base b pb s l (o:Int) p w)(hlim:eI p l)(hv:aQ l≠M) :
  Calls prog 99 #[ρ (Y ⟨b,0,M⟩)] w (mW base b pb s o p l w (cu Tr o l)):=by
 obtain⟨c6,c3,dC,vu⟩:=h.asks;have c4:=cell_of h.aT 4 (v:=ρ (Y ⟨pb,0,M⟩)) rfl;have d2:=cell_of h.prog.aT 2 (v:=I O p.ct.1) rfl;have HV:=hid hv;have jo:Hid (∀l2,(left (dG l)).bind (Sp.take [61])=.ok l2->l2.length<l.length):=by
  intro l2 e;cases hq:aQ l with
  | none=>exact absurd hq hv
  | some kk =>have h1:(Sp.next l).length<l.length:=gm (dP (.inl (ff hq)));rw[iG hq]at e;have e':Sp.take [61] (Sp.next l)=.ok l2:=e;obtain⟨_,h2⟩:=cd e';have:=bZ (Sp.next l);rw[h2];omega
 obtain⟨t,HT,n1,n2,n3,n4⟩:∃t:ByteArray,Hid (t=⟨(Sp.tok l).toArray⟩)/\(t.toList == [114,101,97,100])=false/\(t.toList == [97,115,115,101,114,116])=false/\(t.toList == [105,102])=false/\(t.toList == [119,104,105,108,101])=false:=by
  cases hq:aQ l with
  | none=>exact absurd hq hv
  | some kk =>obtain⟨c,ht,_⟩:=dD hq;refine⟨⟨(Sp.tok l).toArray⟩,fJ _,?_,?_,?_,?_⟩<;>(rw[ByteArray.toList_eq];simp[ht])
 have pF:p.ns.length+1<=1000000:=by have:=hlim.1;omega
 clear dC hv;go_enter func99,ntmps99;go_wp2_with fail;refine(eF (r:=.ok l) h { ay:=p.ct.1,next:=-1,c:=-1 } pF).mono ?_;rintro e w1⟨rfl,v,h1,k1⟩;have o7:FR base b pb s l (o:Int) _ w1:=h1;have c4:=cell_of o7.aT 4 (v:=ρ (Y ⟨pb,0,M⟩)) rfl;have d2:=cell_of o7.prog.aT 2 (v:=I O p.ct.1) rfl;have f2:=aw o7.prog.aT 2;go_wp2_with fail
 go_cut [] from 6 (fun wc=>wc=(w1.setCell ⟨pb,2,M⟩ (I O (RowKit.wrap64 (p.ct.1+1)))).drew)
 case first =>
  go_region_with (fail)
  all_goals
   go_wp2_with fail;go_meet;rw[IntWalk.i64_left]
 case rest =>
  obtain⟨iC,fK⟩:=FX.jf (r:=.ok l) (p':={ p with ns:=p.ns ++ [{ ay:=p.ct.1,next:=-1,c:=-1 }],nv:=v,ct:=Sp.aA p.ct }) h1 2 (I O (RowKit.wrap64 (p.ct.1+1))) (mb h1.prog.aT _) rfl rfl rfl rfl;obtain⟨p1,rY,hp1q,hp1c,hx,hk⟩:∃p1:FP,Hid (p1.ns=p.ns ++ [{ ay:=p.ct.1,next:=-1,c:=-1 }])/\Hid (p1.qs=p.qs)/\p1.ct=Sp.aA p.ct/\FX base b pb s (.ok l) (o:Int) p1 wc/\FK b pb p p1 w wc:=⟨{ p with ns:=p.ns ++ [{ ay:=p.ct.1,next:=-1,c:=-1 }],nv:=v,ct:=Sp.aA p.ct },fJ _,fJ _,rfl,by rw[hcut];exact iC.drew,by rw[hcut];exact k1.trans fK.drew⟩;clear hcut iC fK h1 k1 o7 c4 d2 f2 c3 c6;have eG:FR base b pb s l (o:Int) _ wc:=hx;have c4:=cell_of eG.aT 4 (v:=ρ (Y ⟨pb,0,M⟩)) rfl;have d2:=cell_of eG.prog.aT 2 (v:=I O (RowKit.wrap64 (p.ct.1+1))) (by rw[show(RowKit.wrap64 (p.ct.1+1))=p1.ct.1 by rw[hp1c];rfl];rfl);have c3:=cell_of eG.aT 3 (v:=χ ⟨(Sp.tok l).toArray⟩) rfl;rw[<-HT.out]at c3;have pJ:RowKit.wrap64 (RowKit.wrap64 (p.ct.1+1) - 1)=p.ct.1:=by obtain⟨_,_,a1,a2⟩:=hlim;unfold RowKit.wrap64;omega
  have xS:b<wc.heap.size:=ad eG.aT;have Qx:pb<wc.heap.size:=ad eG.prog.aT;have By:=hid hp1c;have pK:Hid (∀l1:Sp.Bs,l1.length<l.length->eI p1 l1):=fun l1 yd=>pC hlim rY.out hp1q.out (by rw[hp1c];exact fv _) yd
  have M0:Hid (gZ base b pb wc.heap.size s _ _ _ _ _ _ _):=gZ.start { kind:=6,c:=-1,next:=-1,ay:=p.ct.1 } hx hk;clear hx hk hp1c hlim;go_wp2_with fail;refine(DN (FR.zQ M0.fx)).mono ?_;rintro e w3⟨k,rfl,h3,k3,Oz⟩;have Yo:=hid Oz;clear Oz;have M2:=M0.call h3 k3;obtain⟨e4,f4⟩:=M2.box.cell 4 rfl;have M3:=hid (M2.set 4 (I O k) (n':={ kind:=6,c:=-1,next:=-1,ay:=p.ct.1,n:=k }) rfl);clear M2 M0 h3 k3;go_wp2_with fail;refine(rj M3.fx [61]).mono ?_;rintro e w4⟨rfl,h4,k4⟩;have M4:=hid (M3.call h4 k4);clear M3 h4 k4;go_wp2_with fail;refine(vZ (o:=o) (n:=l.length) (u:=Sp.pS Tr o) (fun l1 e1=>⟨fun l p w _ h hl=>vK ho h hl,jo.out l1 e1,pK.out l1 (jo.out l1 e1)⟩) (Cf base b pb s) M4.fx).mono ?_;rintro e w5⟨ka,p3,rfl,h5,k5,g5,e5⟩;have G5:=hid (And.intro g5 e5);have HD:Hid (p3.ns[p.ns.length]?=Y { ay:=p.ct.1,next:=-1,c:=-1 }):=mg rY.out (wQ (fun l1 e1=>UZ (g5 l1 e1)) e5);have M5:=M4.call h5 k5;obtain⟨e1,f1⟩:=M5.box.cell 1 rfl;have M6:=hid (M5.set 1 (I O ka) (n':={ kind:=6,c:=-1,next:=-1,ay:=p.ct.1,n:=k,a:=ka }) rfl);clear M5 M4 h5 k5 g5 e5;go_wp2_with fail;refine(rj M6.fx [59]).mono ?_;rintro e w4⟨rfl,h4,k4⟩;have M4:=M6.call h4 k4;obtain⟨g,cap,hv,ow,hmax,ov,hj,a4,a0,⟨n0,n1,n2,n3,n4,n5,n6,n7,n8,n9⟩,⟨r0,r1,r2,r3,r4,r5,r6,r7,r8,r9⟩,q0,q1,q2,q3,q4,q5,q6,q7,q8,q9⟩:=M4.facts (j:=p.ns.length) (d:={ ay:=p.ct.1,next:=-1,c:=-1 }) HD.out;have M5:=hid M4;clear M6 M4 h4 k4;go_wp2_with fail
  go_cut [] from 6 (fun wc=>wc=(rB w4 g (p.ns.length*10) { kind:=6,c:=-1,next:=-1,ay:=p.ct.1,n:=k,a:=ka }).drew)
  case first =>
   clear M5 HT HD G5 pK Yo jo HV
   go_region_with (fail)
   all_goals
    go_wp2_with fail;go_meet;exact rfl
  case rest =>
   obtain⟨h6,k6⟩:=j5 M5.fx { kind:=6,c:=-1,next:=-1,ay:=p.ct.1,n:=k,a:=ka } hv (j:=p.ns.length) (d:={ ay:=p.ct.1,next:=-1,c:=-1 }) HD.out;go_wp2_with fail;go_ret;have G6:=Fi (n:={ kind:=6,c:=-1,next:=-1,ay:=p.ct.1,n:=k,a:=ka }) (k:=k) (ka:=ka) rY.out hp1q.out By.out Yo.out HV.out G5.1 G5.2 rfl rfl rfl rfl rfl;rw[hcut];exact mu (Ae o l) h6.drew (M5.fk.trans k6).drew G6
end
section
section
variable{base b pb o n:Nat}
variable{s:ByteArray}
variable{w:Wd}
theorem uK(base b pb:Nat)(s:ByteArray):zu 66 base b pb s (-1):=by
 intro er p w h;obtain⟨q,t,c6,hz,gU,c3⟩:=h.asks;go_enter func66,ntmps66;go_wp2_with fail
 go_loopw [3,4] (fun a c wr=>a=I O (-1)/\c=I O (-1)/\wr=w) (fun _ _ _=>0)
 case atStart=>exact⟨rfl,rfl,rfl⟩
 case round =>
  obtain⟨rfl,rfl,rfl⟩:=hrel;go_wp2_with fail;go_ret;exact⟨rfl,rfl⟩
def OP(base b pb:Nat)(s:ByteArray)(o:Nat)(p:FP)(l:Sp.Bs)(w:Wd)(st:Sp.Bs->Sp.R (Bl->Bl))(fin:Sp.R (List (Bl->Bl)))(first last:Int)(wr:Wd):Prop :=
 ∃(cur:Sp.R (List (Bl->Bl))) (pc:FP),FX base b pb s (left cur) (o:Int) pc wr/\FK b pb p pc w wr/\Ev p pc l first last cur/\vR st fin cur
theorem pk{fs:List (Bl->Bl)}{r:Sp.R (Bl->Bl)}{o:Int}{p:FP}(h:FX base b pb s (left r) o p w):FX base b pb s (left (mX fs r)) o p w:=by rcases r with e | ⟨y,l⟩<;>exact h
theorem kY(base b pb:Nat)(s:ByteArray)(o n:Nat)(st:Sp.Bs->Sp.R (Bl->Bl))(cQ:∀l f l1,st l=.ok (f,l1)->l1.length<l.length)(hr:nf base b pb s o n st)
  (l:Sp.Bs) (p:FP) (w:Wd) (hl:l.length<n) (h:FR base b pb s l (o:Int) p w) (hlim:eI p l) (m:Nat) (hm:l.length<m) :
  Calls prog 66 #[ρ (Y ⟨b,0,M⟩)] w (An base b pb s o p l w (cU Tr st m [] l)):=by
 have HR:=hid hr;have HD:Hid (∀l f l1,st l=.ok (f,l1)->l1.length<l.length):=cQ;have HC:Hid (OP base b pb s o p l w st (cU Tr st m [] l) (-1) (-1) w):=⟨.ok ([],l),p,h,FK.refl _ _ _ _,⟨bQ.xY (Nat.le_refl _),⟨[],by simp,fun rest=>rfl⟩,.inl ⟨rfl,rfl,rfl,rfl,rfl⟩⟩,⟨m,hm,rfl⟩⟩;clear hr cQ h;go_enter func66,ntmps66;go_wp2_with fail
 go_loopw [3,4] (fun a c wr=>∃fi la:Int,a=I O fi/\c=I O la/\Hid (OP base b pb s o p l w st (cU Tr st m [] l) fi la wr)) (fun _ _ wr=>nP b s wr)
 case atStart=>exact⟨-1,-1,rfl,rfl,HC⟩
 case round =>
  obtain⟨fi,la,rfl,rfl,mG⟩:=hrel;obtain⟨cur,pc,hx,hk,hg,uI⟩:=mG.out
  rcases cur with er | ⟨fs,lc⟩
  ·obtain⟨q,t,c6,hz,gU,c3⟩:=FE.asks (show FE base b pb s er pc wr from hx)
   have HF:Hid (An base b pb s o p l w (cU Tr st m [] l) (υ (I O fi)) wr):=by unfold Hid;rw[show cU Tr st m [] l=.error er from uI];exact⟨fi,pc,rfl,hx,hk,CC hg⟩
   clear hx hk hg uI mG HC;go_wp2_with fail;go_ret;exact HF.out
  ·have eG:FR base b pb s lc (o:Int) pc wr:=hx
   obtain⟨c6,c3,dC,vu⟩:=eG.asks;have HN:Hid (∀w,Calls prog 98 #[χ ⟨(Sp.tok lc).toArray⟩] w fun e w'=>e=υ (U (cJ lc))/\w'=w):=yB lc vu;cases Tw:cJ lc with
   | false =>
    have HF:Hid (An base b pb s o p l w (cU Tr st m [] l) (υ (I O fi)) wr):=by unfold Hid;rw[CF uI Tw];exact⟨fi,pc,rfl,hx,hk,CC hg⟩
    rw[Tw]at HN;generalize (⟨(Sp.tok lc).toArray⟩:ByteArray)=t at *;clear hx hk hg uI mG HC eG Tw;go_wp2_with fail;refine(HN.out _).mono ?_;rintro e w1⟨rfl,rfl⟩;go_wp2_with fail;go_ret;exact HF.out
   | true =>
    rw[Tw]at HN;have Yn:lc.length<=l.length:=by have:=hg.1.nl;have:=hg.1.len;omega
    have HL:Hid (eI pc lc):=hg.1.D9 hlim;have HW:=hid eG.rest;have HG:Hid (Ev p pc l fi la (.ok (fs,lc))/\cJ lc=true/\vR st (cU Tr st m [] l) (mX fs (st lc))/\FK b pb p pc w wr):=⟨hg,Tw,CL uI Tw HD.out,hk⟩;have zZ:∀{first last:Int} {p':FP} {w':Wd},FX base b pb s (left (mX fs (st lc))) (o:Int) p' w'->nP b s w'<=lc.length:=fun hf=>hf.pd (fun fs' l' e=>by
     rcases hs:st lc with er | ⟨f,l1⟩
     ·rw[hs]at e;cases e
     ·rw[hs]at e;cases e;exact HD.out _ _ _ hs)
    have HDR:Hid (∀{p':FP} {w':Wd},FX base b pb s (left (mX fs (st lc))) (o:Int) p' w'->nP b s w'<=lc.length):=fun hf=>zZ (first:=0) (last:=0) hf
    generalize (⟨(Sp.tok lc).toArray⟩:ByteArray)=t at *;clear hx hk hg uI mG HC Tw zZ;by_cases hfi:fi<0
    ·go_wp2_with fail
     refine(HN.out _).mono ?_;rintro e w1⟨rfl,rfl⟩;go_wp2_with fail;refine(HR.out lc pc _ (by omega) eG HL.out HG.2.1).mono ?_;rintro e w2⟨p',rfl,h2,k2,g2⟩;have yS:Hid (OP base b pb s o p l w st (cU Tr st m [] l) (pc.ns.length:Nat) (pc.ns.length:Nat) w2/\nP b s w2<=lc.length):=⟨⟨_,p',pk h2,HG.2.2.2.trans k2,Fj HG.1 hfi g2,HG.2.2.1⟩,HDR.out (pk h2)⟩;clear h2 k2 g2;go_wp2_with fail;exact⟨⟨_,_,rfl,rfl,yS.1⟩,by rw[HW.out];have:=yS.2;omega⟩
    ·obtain⟨j,hj,gu⟩:∃j:Nat,la=(j:Int)/\j<pc.ns.length:=by
      obtain⟨_,_,hc⟩:=HG.1
      rcases hc with⟨_,h1,_⟩ | ⟨_,j,d,e1,_,e2,_⟩
      ·omega
      ·exact⟨j,e1,e2⟩
     subst hj;go_wp2_with fail;refine(HN.out _).mono ?_;rintro e w1⟨rfl,rfl⟩;go_wp2_with fail;refine(HR.out lc pc _ (by omega) eG HL.out HG.2.1).mono ?_;rintro e w2⟨p',rfl,h2,k2,g2⟩;have hlen:pc.ns.length<=p'.ns.length:=by
      rcases hs:st lc with er | ⟨f,l1⟩
      ·rw[hs]at g2;exact dh.len g2
      ·rw[hs]at g2;exact g2.1.len
     have Z5:j<p'.ns.length:=by omega
     obtain⟨dl,US⟩:∃dl,p'.ns[j]?=Y dl:=⟨_,List.getElem?_eq_getElem Z5⟩;obtain⟨g,cap,hv,ow,hmax⟩:=h2.prog.slice (by omega);obtain⟨i',a',t',o',Yv,Is⟩:=h2.KZ;have d4:=cell_of Is 4 (v:=ρ (Y ⟨pb,0,M⟩)) rfl;have d0:=cell_of h2.prog.aT 0 (v:=p'.nv) rfl;rw[hv]at d0;obtain⟨e5,f5⟩:=h2.prog.cells (c:=5) (u:=I O dl.next) hv US (by omega) rfl;obtain⟨h3,k3⟩:=h2.wN (c:=5) (u:=I O (pc.ns.length:Nat)) (d':={ dl with next:=(pc.ns.length:Int) }) hv US (by omega) rfl;have yS:Hid (OP base b pb s o p l w st (cU Tr st m [] l) fi (pc.ns.length:Nat) (w2.setCell ⟨g,j*10+5,M⟩ (I O (pc.ns.length:Nat)))/\nP b s (w2.setCell ⟨g,j*10+5,M⟩ (I O (pc.ns.length:Nat)))<=lc.length):=⟨⟨_,_,pk h3,(HG.2.2.2.trans k2).trans k3,IV HG.1 (by omega) g2 US,HG.2.2.1⟩,HDR.out (pk h3)⟩;have h5:p'.ns.length<=1000000:=h2.prog.n5;clear h2 k2 g2 h3 k3 Is;go_wp2_with fail;exact⟨⟨_,_,rfl,rfl,yS.1⟩,by rw[HW.out];have:=yS.2;omega⟩
theorem yz{o:Nat}{st:Sp.Bs->Sp.R (Bl->Bl)}(cQ:∀l f l1,st l=.ok (f,l1)->l1.length<l.length){r:Except (Nat × Nat) Sp.Bs}{p:FP}(hr:∀l,r=.ok l->nf base b pb s o n st/\l.length<n/\eI p l)(h:FX base b pb s r (o:Int) p w) :
  Calls prog 66 #[ρ (Y ⟨b,0,M⟩)] w fun e w'=>∃(k:Int) (p':FP),e=υ (I O k)/\FX base b pb s (r.bind fun l=>left (cU Tr st (l.length+1) [] l)) (o:Int) p' w'/\FK b pb p p' w w'/\(∀l,r=.ok l->nO p p' l k (cU Tr st (l.length+1) [] l))/\(∀e,r=.error e->p'=p):=by
 cases r with
 | ok l =>obtain⟨h1,h2,h3⟩:=hr l rfl;refine(kY base b pb s o n st cQ h1 l p w h2 h h3 (l.length+1) (by omega)).mono ?_;rintro e w'⟨k,p',rfl,h1,k1,g1⟩;exact⟨k,p',rfl,h1,k1,fun l' hl=>by cases hl;exact g1,fun _ hl=>nomatch hl⟩
 | error e =>refine(uK base b pb s e p w h).mono ?_;rintro e' w'⟨rfl,rfl⟩;exact⟨-1,p,rfl,h,FK.refl _ _ _ _,(fun _ hl=>nomatch hl),fun _ _=>rfl⟩
theorem vO{o:Nat}(ho:o<=12){st:Sp.Bs->Sp.R (Bl->Bl)}(cQ:∀l f l1,st l=.ok (f,l1)->l1.length<l.length){r:Except (Nat × Nat) Sp.Bs}{p:FP}(hr:o<12->nf base b pb s (o+1) n st)(hl:∀l,r=.ok l->l.length<n+1/\eI p l)(h:FX base b pb s r (o:Int) p w) :
  Calls prog 134 #[ρ (Y ⟨b,0,M⟩)] w fun e w'=>∃(k:Int) (p':FP),e=υ (I O k)/\FX base b pb s (r.bind fun l=>left (bE Tr st o l)) (o:Int) p' w'/\FK b pb p p' w w'/\(∀l,r=.ok l->nO p p' l k (bE Tr st o l))/\(∀e,r=.error e->p'=p):=by
 have H:=hid h;have HR:=hid hr;have HD:Hid (∀l f l1,st l=.ok (f,l1)->l1.length<l.length):=cQ;have HL:Hid (∀l1,r.bind (Sp.enter [123] o)=.ok l1->∃l,r=.ok l/\Sp.enter [123] o l=.ok l1/\l1.length<n/\eI p l1/\l1.length<l.length/\o<12):=by
  intro l1 e
  rcases r with er | l
  ·cases e
  ·have e':Sp.enter [123] o l=.ok l1:=e
   obtain⟨ht,sl,rfl⟩:=cN e';have:=aG ht (by simp);obtain⟨a1,a2⟩:=hl l rfl;exact⟨l,rfl,e',by omega,(bQ.xY (by omega)).D9 a2,this,by omega⟩
 clear h hr cQ hl;go_enter func134,ntmps134;go_wp2_with fail;refine(PQ ho H.out [123]).mono ?_;rintro e w1⟨rfl,h1,k1⟩;go_wp2_with fail;refine(yz HD.out (n:=n) (fun l1 e1=>by obtain⟨l,_,_,a3,a4,_,a6⟩:=HL.out l1 e1;exact⟨HR.out a6,a3,a4⟩) h1).mono ?_
 rintro e w2⟨k,p',rfl,h2,k2,g2,e2⟩;have G2:=hid (And.intro g2 e2);clear g2 e2;go_wp2_with fail;refine(Hi (by omega) h2 [125]).mono ?_;rintro e w3⟨rfl,h3,k3⟩;go_wp2_with fail;go_ret;refine⟨k,p',rfl,?_,(k1.trans k2).trans k3,?_,?_⟩
 ·rcases r with er | l
  ·exact h3
  ·have xJ:FX base b pb s (((Sp.enter [123] o l).bind fun l=>left (cU Tr st (l.length+1) [] l)).bind (Sp.take [125])) (o:Int) p' w3:=h3
   show FX base b pb s (left (bE Tr st o l)) (o:Int) p' w3;unfold bE;cases he:Sp.enter [123] o l with
   | error e=>rw[he]at xJ;exact xJ
   | ok l1 =>
    rw[he]at xJ;simp only[Except.bind]at xJ ⊢
    rcases hm:cU Tr st (l1.length+1) [] l1 with e | ⟨fs,l2⟩
    ·rw[hm]at xJ;exact xJ
    ·rw[hm]at xJ
     simp only[left]at xJ ⊢;cases Kj:Sp.take [125] l2 with
     | error e=>rw[Kj]at xJ;exact xJ
     | ok l3=>rw[Kj]at xJ;exact xJ
 ·intro l hr
  subst hr;unfold bE;cases he:Sp.enter [123] o l with
  | error e =>have:=G2.2 e (by show Sp.enter [123] o l=_;exact he);subst this;exact dh.refl _ _
  | ok l1 =>
   obtain⟨l',e1,_,_,_,a5,_⟩:=HL.out l1 he;cases e1
   have g:=G2.1 l1 he;simp only
   rcases hm:cU Tr st (l1.length+1) [] l1 with e | ⟨fs,l2⟩
   ·rw[hm]at g
    exact dh.more (l1:=l1) g (by omega)
   ·rw[hm]at g
    obtain⟨m1,g2,g3⟩:=g;have uE:bQ p p' l l2:=(bQ.xY (by omega)).trans m1;simp only;cases Kj:Sp.take [125] l2 with
    | error e=>exact dh.rv uE
    | ok l3 =>obtain⟨_,h3⟩:=cd Kj;exact⟨uE.trans (bQ.xY (by rw[h3];exact bZ _)),g2,g3⟩
 ·intro e hr
  subst hr;exact G2.2 e rfl
end
end
section
theorem Jj(base b pb:Nat)(s:ByteArray)(o n:Nat)(ho:o<=12)(st:Sp.Bs->Sp.R (Bl->Bl))(cQ:∀l f l1,st l=.ok (f,l1)->l1.length<l.length)(hr:o<12->nf base b pb s (o+1) n st)(N4:∀l,aO Tr st o l=bE Tr st o l)(l:Sp.Bs)(p:FP)(w:Wd)(hn:l.length<n+1)(h:FR base b pb s l (o:Int) p w)(hlim:eI p l)(ht:Sp.tok l=QG) :
  Calls prog 99 #[ρ (Y ⟨b,0,M⟩)] w (mW base b pb s o p l w (qR Tr (fun l=>aO Tr st o l) o l)):=by
 have HR:=hid hr;have BE:=hid cQ;have yP:=hid N4;clear hr cQ N4;obtain⟨c6,c3,dC,vu⟩:=h.asks;have c4:=cell_of h.aT 4 (v:=ρ (Y ⟨pb,0,M⟩)) rfl;have d2:=cell_of h.prog.aT 2 (v:=I O p.ct.1) rfl;have HT:=hid ht;have jo:Hid ((Sp.next l).length<l.length):=aG ht (by decide);have pF:p.ns.length+1<=1000000:=by have:=hlim.1;omega
 clear dC ht;go_enter func99,ntmps99;go_wp2_with fail;refine(eF (r:=.ok l) h { ay:=p.ct.1,next:=-1,c:=-1 } pF).mono ?_;rintro e w1⟨rfl,v,h1,k1⟩;have o7:FR base b pb s l (o:Int) _ w1:=h1;have c4:=cell_of o7.aT 4 (v:=ρ (Y ⟨pb,0,M⟩)) rfl;have d2:=cell_of o7.prog.aT 2 (v:=I O p.ct.1) rfl;have f2:=aw o7.prog.aT 2;go_wp2_with fail
 go_cut [] from 6 (fun wc=>wc=(w1.setCell ⟨pb,2,M⟩ (I O (RowKit.wrap64 (p.ct.1+1)))).drew)
 case first =>
  go_region_with (fail)
  all_goals
   go_wp2_with fail;go_meet;rw[IntWalk.i64_left]
 case rest =>
  obtain⟨iC,fK⟩:=FX.jf (r:=.ok l) (p':={ p with ns:=p.ns ++ [{ ay:=p.ct.1,next:=-1,c:=-1 }],nv:=v,ct:=Sp.aA p.ct }) h1 2 (I O (RowKit.wrap64 (p.ct.1+1))) (mb h1.prog.aT _) rfl rfl rfl rfl;obtain⟨p1,rY,hp1q,hp1c,hx,hk⟩:∃p1:FP,Hid (p1.ns=p.ns ++ [{ ay:=p.ct.1,next:=-1,c:=-1 }])/\Hid (p1.qs=p.qs)/\p1.ct=Sp.aA p.ct/\FX base b pb s (.ok l) (o:Int) p1 wc/\FK b pb p p1 w wc:=⟨{ p with ns:=p.ns ++ [{ ay:=p.ct.1,next:=-1,c:=-1 }],nv:=v,ct:=Sp.aA p.ct },fJ _,fJ _,rfl,by rw[hcut];exact iC.drew,by rw[hcut];exact k1.trans fK.drew⟩;clear hcut iC fK h1 k1 o7 c4 d2 f2 c3 c6;have eG:FR base b pb s l (o:Int) _ wc:=hx;have c4:=cell_of eG.aT 4 (v:=ρ (Y ⟨pb,0,M⟩)) rfl;have d2:=cell_of eG.prog.aT 2 (v:=I O (RowKit.wrap64 (p.ct.1+1))) (by rw[show(RowKit.wrap64 (p.ct.1+1))=p1.ct.1 by rw[hp1c];rfl];rfl);have c3:=cell_of eG.aT 3 (v:=χ ⟨(Sp.tok l).toArray⟩) rfl;rw[HT.out]at c3;have pJ:RowKit.wrap64 (RowKit.wrap64 (p.ct.1+1) - 1)=p.ct.1:=by obtain⟨_,_,a1,a2⟩:=hlim;unfold RowKit.wrap64;omega
  have xS:b<wc.heap.size:=ad eG.aT;have Qx:pb<wc.heap.size:=ad eG.prog.aT;have By:=hid hp1c;have pK:Hid (∀l1:Sp.Bs,l1.length<l.length->eI p1 l1):=fun l1 yd=>pC hlim rY.out hp1q.out (by rw[hp1c];exact fv _) yd
  have M0:Hid (gZ base b pb wc.heap.size s _ _ _ _ _ _ _):=gZ.start { kind:=9,c:=-1,next:=-1,ay:=p.ct.1 } hx hk;clear hx hk hp1c hlim;go_wp2_with fail;refine(dJ (FR.zQ M0.fx)).mono ?_;rintro e w2⟨rfl,h2,k2⟩;have M3:=hid (M0.call (r':=.ok (Sp.next l)) h2 k2);have H2:Hid (FR base b pb s (Sp.next l) (o:Int) p1 w2):=h2;clear M0 h2 k2 eG;go_wp2_with fail;refine(oO ho H2.out (pK.out _ jo.out)).mono ?_;rintro e w3⟨kc,p3,rfl,h3,k3,g3⟩;have WR:Hid (∃ex,p3.ns=p1.ns ++ ex):=L9 g3;have G3:=hid g3;have Uc:Hid (∀l1,left (bh Tr o (Sp.next l))=.ok l1->l1.length<n+1/\eI p3 l1):=by
   intro l1 e1;have a1:=jo.out;have a2:=pK.out _ jo.out
   rcases hC:bh Tr o (Sp.next l) with er | ⟨⟨rel,x,y⟩,l2⟩
   ·rw[hC]at e1;cases e1
   ·rw[hC]at g3 e1
    cases e1
    have m:=g3.1;exact⟨by have:=kg (A:=Tr) hC;omega,m.D9 a2⟩
  have M4:=M3.call h3 k3;obtain⟨e1,f1⟩:=M4.box.cell 1 rfl;have M5:=hid (M4.set 1 (I O kc) (n':={ kind:=9,c:=-1,next:=-1,ay:=p.ct.1,a:=kc }) rfl);clear M4 M3 h3 k3 g3 H2;go_wp2_with fail;refine(vO ho BE.out HR.out Uc.out M5.fx).mono ?_;rintro e w4⟨kb,p4,rfl,h4,k4,g4,e4⟩;have Ug:Hid (∃ex,p4.ns=p1.ns ++ ex):=sJ WR.out (wQ (fun l1 e1=>Mw (g4 l1 e1)) e4);have HD:Hid (p4.ns[p.ns.length]?=Y { ay:=p.ct.1,next:=-1,c:=-1 }):=mg rY.out Ug.out;have G4:=hid (And.intro g4 e4);have M6:=M5.call h4 k4;obtain⟨e2,f2⟩:=M6.box.cell 2 rfl;have M8:Hid (gZ base b pb wc.heap.size s (ga st o l) (o:Int) p p4 w { kind:=9,c:=-1,next:=-1,ay:=p.ct.1,a:=kc,b:=kb } (w4.setCell ⟨wc.heap.size,2,M⟩ (I O kb))):=gZ.Ve (yY st o l) (M6.set 2 (I O kb) (n':={ kind:=9,c:=-1,next:=-1,ay:=p.ct.1,a:=kc,b:=kb }) rfl);have H4:Hid (FX base b pb s (ga st o l) (o:Int) p4 w4):=FX.cast (yY st o l) h4;clear M6 M5 h4 k4 g4 e4 Uc WR
  rcases hW:ga st o l with er | l2
  ·have HW:=hid hW
   have M9:Hid (gZ base b pb wc.heap.size s (.error er) (o:Int) p p4 w { kind:=9,c:=-1,next:=-1,ay:=p.ct.1,a:=kc,b:=kb } (w4.setCell ⟨wc.heap.size,2,M⟩ (I O kb))):=by have:=M8.out;rw[hW]at this;exact this
   clear M8 hW;obtain⟨q,t,c6,hz,gU,c3⟩:=FE.asks (show FE base b pb s er p4 w4 from by have:=H4.out;rw[HW.out]at this;exact this);clear H4;obtain⟨g,cap,hv,ow,hmax,ov,hj,a4,a0,⟨n0,n1,n2,n3,n4,n5,n6,n7,n8,n9⟩,⟨r0,r1,r2,r3,r4,r5,r6,r7,r8,r9⟩,q0,q1,q2,q3,q4,q5,q6,q7,q8,q9⟩:=M9.facts (j:=p.ns.length) (d:={ ay:=p.ct.1,next:=-1,c:=-1 }) HD.out;go_wp2_with fail;generalize w4.setCell ⟨wc.heap.size,2,M⟩ (I O kb)=wd at *
   go_cut [] from 6 (fun wc=>wc=(rB wd g (p.ns.length*10) { kind:=9,c:=-1,next:=-1,ay:=p.ct.1,a:=kc,b:=kb }).drew)
   case first =>
    clear M9 HT HD pK jo G3 G4 HR BE yP HW
    go_region_with (fail)
    all_goals
     go_wp2_with fail;go_meet;exact rfl
   case rest =>
    obtain⟨h6,k6⟩:=j5 M9.fx { kind:=9,c:=-1,next:=-1,ay:=p.ct.1,a:=kc,b:=kb } hv (j:=p.ns.length) (d:={ ay:=p.ct.1,next:=-1,c:=-1 }) HD.out;go_wp2_with fail;go_ret;have G9:=Ey (n:={ kind:=9,c:=-1,next:=-1,ay:=p.ct.1,a:=kc,b:=kb }) (kc:=kc) (kb:=kb) yP.out rY.out jo.out G3.out G4.1 G4.2 HW.out;rw[hcut];exact mu (Du yP.out HW.out) h6.drew (M9.fk.trans k6).drew G9
  ·have HW:=hid hW
   have M9:Hid (gZ base b pb wc.heap.size s (.ok l2) (o:Int) p p4 w { kind:=9,c:=-1,next:=-1,ay:=p.ct.1,a:=kc,b:=kb } (w4.setCell ⟨wc.heap.size,2,M⟩ (I O kb))):=by have:=M8.out;rw[hW]at this;exact this
   have eG:FR base b pb s l2 (o:Int) p4 _:=FR.zQ M9.fx;have hf4:FR base b pb s l2 (o:Int) p4 w4:=by have:=H4.out;rw[hW]at this;exact this
   have c6:=cell_of hf4.aT 6 (v:=I O 0) rfl;have c3:=cell_of hf4.aT 3 (v:=χ ⟨(Sp.tok l2).toArray⟩) rfl;clear M8 hW H4 hf4;by_cases he:Sp.tok l2=kt
   ·have HE:=hid he
    have Ql:Hid (l2.length<=n/\eI p4 l2):=by
     have a1:=jo.out;have a2:=pK.out _ jo.out;have g3:=G3.out;have g4:=G4.1;have hw:=HW.out;unfold ga at hw
     rcases hC:bh Tr o (Sp.next l) with er | ⟨⟨rel,x,y⟩,l1⟩
     ·rw[hC]at hw;cases hw
     ·rw[hC]at g3 g4 hw
      have g5:=g4 l1 rfl
      rcases hB:bE Tr st o l1 with er | ⟨fs,l3⟩
      ·simp only[left,Except.bind]at hw;rw[hB]at hw;cases hw
      ·simp only[left,Except.bind]at hw
       rw[hB]at g5 hw;have:l3=l2:=by simpa using hw
       subst this;have qW:=sW BE.out (yP.out l1 ▸ hB);have:=kg (A:=Tr) hC;exact⟨by omega,(g3.1.trans g5.1).D9 a2⟩
    rw[he]at c3;clear he;go_wp2_with fail;refine(dJ eG).mono ?_;rintro e w5⟨rfl,h5,k5⟩;have Rz:=hid (M9.call (r':=.ok (Sp.next l2)) h5 k5);clear M9 h5 k5 eG;go_wp2_with fail;refine(vO ho BE.out HR.out (r:=.ok (Sp.next l2)) (fun l1 e1=>by
     cases e1
     have a:=Ql.out;have:=bZ l2;exact⟨by omega,(bQ.xY (bZ l2)).D9 a.2⟩) Rz.fx).mono ?_
    rintro e w6⟨ke,p5,rfl,h6,k6,g6,e6⟩;have G6:Hid (nO p4 p5 (Sp.next l2) ke (bE Tr st o (Sp.next l2))):=g6 _ rfl;have HD6:Hid (p5.ns[p.ns.length]?=Y { ay:=p.ct.1,next:=-1,c:=-1 }):=mg rY.out (sJ Ug.out (Mw (g6 _ rfl)));have Re:=Rz.call h6 k6;obtain⟨e3,f3⟩:=Re.box.cell 3 rfl;have VX:=Re.set 3 (I O ke) (n':={ kind:=9,c:=ke,next:=-1,ay:=p.ct.1,a:=kc,b:=kb }) rfl;obtain⟨e9,f9⟩:=Re.box.cell 9 rfl;have M9:=hid (VX.set 9 (U true) (n':={ kind:=9,c:=ke,next:=-1,ay:=p.ct.1,a:=kc,b:=kb,els:=true }) rfl);clear HD;have HD:=HD6;clear Rz Re VX h6 k6 g6 e6 HD6;obtain⟨g,cap,hv,ow,hmax,ov,hj,a4,a0,⟨n0,n1,n2,n3,n4,n5,n6,n7,n8,n9⟩,⟨r0,r1,r2,r3,r4,r5,r6,r7,r8,r9⟩,q0,q1,q2,q3,q4,q5,q6,q7,q8,q9⟩:=M9.facts (j:=p.ns.length) (d:={ ay:=p.ct.1,next:=-1,c:=-1 }) HD.out;go_wp2_with fail;generalize (w6.setCell ⟨wc.heap.size,3,M⟩ (I O ke)).setCell ⟨wc.heap.size,9,M⟩ (U true)=wd at *
    go_cut [] from 6 (fun wc=>wc=(rB wd g (p.ns.length*10) { kind:=9,c:=ke,next:=-1,ay:=p.ct.1,a:=kc,b:=kb,els:=true }).drew)
    case first =>
     clear M9 HT HD pK jo G3 G4 G6 HR BE yP HW HE Ql Ug
     go_region_with (fail)
     all_goals
      go_wp2_with fail;go_meet;exact rfl
    case rest =>
     obtain⟨h6,k6⟩:=j5 M9.fx { kind:=9,c:=ke,next:=-1,ay:=p.ct.1,a:=kc,b:=kb,els:=true } hv (j:=p.ns.length) (d:={ ay:=p.ct.1,next:=-1,c:=-1 }) HD.out;go_wp2_with fail;go_ret;have G9:=Di (n:={ kind:=9,c:=ke,next:=-1,ay:=p.ct.1,a:=kc,b:=kb,els:=true }) (kc:=kc) (kb:=kb) (ke:=ke) yP.out rY.out hp1q.out By.out jo.out G3.out G4.1 HW.out HE.out G6.out rfl rfl rfl rfl rfl rfl rfl;rw[hcut];exact mu (Bb yP.out HW.out HE.out) h6.drew (M9.fk.trans k6).drew G9
   ·have HE:=hid he
    obtain⟨t,BS,m1⟩:∃t:ByteArray,Hid (t=⟨(Sp.tok l2).toArray⟩)/\(t.toList == [101,108,115,101])=false:=⟨⟨(Sp.tok l2).toArray⟩,fJ _,by rw[ByteArray.toList_eq];simpa [kt] using he⟩;rw[<-BS.out]at c3;clear he eG;obtain⟨g,cap,hv,ow,hmax,ov,hj,a4,a0,⟨n0,n1,n2,n3,n4,n5,n6,n7,n8,n9⟩,⟨r0,r1,r2,r3,r4,r5,r6,r7,r8,r9⟩,q0,q1,q2,q3,q4,q5,q6,q7,q8,q9⟩:=M9.facts (j:=p.ns.length) (d:={ ay:=p.ct.1,next:=-1,c:=-1 }) HD.out;go_wp2_with fail;generalize w4.setCell ⟨wc.heap.size,2,M⟩ (I O kb)=wd at *
    go_cut [] from 6 (fun wc=>wc=(rB wd g (p.ns.length*10) { kind:=9,c:=-1,next:=-1,ay:=p.ct.1,a:=kc,b:=kb }).drew)
    case first =>
     clear M9 HT HD pK jo G3 G4 HR BE yP HW HE BS Ug
     go_region_with (fail)
     all_goals
      go_wp2_with fail;go_meet;exact rfl
    case rest =>
     obtain⟨h6,k6⟩:=j5 M9.fx { kind:=9,c:=-1,next:=-1,ay:=p.ct.1,a:=kc,b:=kb } hv (j:=p.ns.length) (d:={ ay:=p.ct.1,next:=-1,c:=-1 }) HD.out;go_wp2_with fail;go_ret;have G9:=DH (n:={ kind:=9,c:=-1,next:=-1,ay:=p.ct.1,a:=kc,b:=kb }) (kc:=kc) (kb:=kb) yP.out rY.out hp1q.out By.out jo.out G3.out G4.1 HW.out HE.out rfl rfl rfl rfl rfl rfl rfl;rw[hcut];exact mu (AQ yP.out HW.out HE.out) h6.drew (M9.fk.trans k6).drew G9
end
section
theorem AR(base b pb:Nat)(s:ByteArray)(o n:Nat)(ho:o<=12)(st:Sp.Bs->Sp.R (Bl->Bl))(cQ:∀l f l1,st l=.ok (f,l1)->l1.length<l.length)(hr:o<12->nf base b pb s (o+1) n st)(N4:∀l,aO Tr st o l=bE Tr st o l)(l:Sp.Bs)(p:FP)(w:Wd)(hn:l.length<n+1)(h:FR base b pb s l (o:Int) p w)(hlim:eI p l)(ht:Sp.tok l=oH) :
  Calls prog 99 #[ρ (Y ⟨b,0,M⟩)] w (mW base b pb s o p l w (eA Tr (fun l=>aO Tr st o l) o l)):=by
 have HR:=hid hr;have BE:=hid cQ;have yP:=hid N4;clear hr cQ N4;obtain⟨c6,c3,dC,vu⟩:=h.asks;have c4:=cell_of h.aT 4 (v:=ρ (Y ⟨pb,0,M⟩)) rfl;have d2:=cell_of h.prog.aT 2 (v:=I O p.ct.1) rfl;have HT:=hid ht;have jo:Hid ((Sp.next l).length<l.length):=aG ht (by decide);have pF:p.ns.length+1<=1000000:=by have:=hlim.1;omega
 clear dC ht;go_enter func99,ntmps99;go_wp2_with fail;refine(eF (r:=.ok l) h { ay:=p.ct.1,next:=-1,c:=-1 } pF).mono ?_;rintro e w1⟨rfl,v,h1,k1⟩;have o7:FR base b pb s l (o:Int) _ w1:=h1;have c4:=cell_of o7.aT 4 (v:=ρ (Y ⟨pb,0,M⟩)) rfl;have d2:=cell_of o7.prog.aT 2 (v:=I O p.ct.1) rfl;have f2:=aw o7.prog.aT 2;go_wp2_with fail
 go_cut [] from 6 (fun wc=>wc=(w1.setCell ⟨pb,2,M⟩ (I O (RowKit.wrap64 (p.ct.1+1)))).drew)
 case first =>
  go_region_with (fail)
  all_goals
   go_wp2_with fail;go_meet;rw[IntWalk.i64_left]
 case rest =>
  obtain⟨iC,fK⟩:=FX.jf (r:=.ok l) (p':={ p with ns:=p.ns ++ [{ ay:=p.ct.1,next:=-1,c:=-1 }],nv:=v,ct:=Sp.aA p.ct }) h1 2 (I O (RowKit.wrap64 (p.ct.1+1))) (mb h1.prog.aT _) rfl rfl rfl rfl;obtain⟨p1,rY,hp1q,hp1c,hx,hk⟩:∃p1:FP,Hid (p1.ns=p.ns ++ [{ ay:=p.ct.1,next:=-1,c:=-1 }])/\Hid (p1.qs=p.qs)/\p1.ct=Sp.aA p.ct/\FX base b pb s (.ok l) (o:Int) p1 wc/\FK b pb p p1 w wc:=⟨{ p with ns:=p.ns ++ [{ ay:=p.ct.1,next:=-1,c:=-1 }],nv:=v,ct:=Sp.aA p.ct },fJ _,fJ _,rfl,by rw[hcut];exact iC.drew,by rw[hcut];exact k1.trans fK.drew⟩;clear hcut iC fK h1 k1 o7 c4 d2 f2 c3 c6;have eG:FR base b pb s l (o:Int) _ wc:=hx;have c4:=cell_of eG.aT 4 (v:=ρ (Y ⟨pb,0,M⟩)) rfl;have d2:=cell_of eG.prog.aT 2 (v:=I O (RowKit.wrap64 (p.ct.1+1))) (by rw[show(RowKit.wrap64 (p.ct.1+1))=p1.ct.1 by rw[hp1c];rfl];rfl);have c3:=cell_of eG.aT 3 (v:=χ ⟨(Sp.tok l).toArray⟩) rfl;rw[HT.out]at c3;have pJ:RowKit.wrap64 (RowKit.wrap64 (p.ct.1+1) - 1)=p.ct.1:=by obtain⟨_,_,a1,a2⟩:=hlim;unfold RowKit.wrap64;omega
  have xS:b<wc.heap.size:=ad eG.aT;have Qx:pb<wc.heap.size:=ad eG.prog.aT;have By:=hid hp1c;have pK:Hid (∀l1:Sp.Bs,l1.length<l.length->eI p1 l1):=fun l1 yd=>pC hlim rY.out hp1q.out (by rw[hp1c];exact fv _) yd
  have M0:Hid (gZ base b pb wc.heap.size s _ _ _ _ _ _ _):=gZ.start { kind:=10,c:=-1,next:=-1,ay:=p.ct.1 } hx hk;clear hx hk hp1c hlim;go_wp2_with fail;refine(dJ (FR.zQ M0.fx)).mono ?_;rintro e w2⟨rfl,h2,k2⟩;have M3:=hid (M0.call (r':=.ok (Sp.next l)) h2 k2);have H2:Hid (FR base b pb s (Sp.next l) (o:Int) p1 w2):=h2;clear M0 h2 k2 eG;go_wp2_with fail;refine(oO ho H2.out (pK.out _ jo.out)).mono ?_;rintro e w3⟨kc,p3,rfl,h3,k3,g3⟩;have WR:Hid (∃ex,p3.ns=p1.ns ++ ex):=L9 g3;have G3:=hid g3;have Uc:Hid (∀l1,left (bh Tr o (Sp.next l))=.ok l1->l1.length<n+1/\eI p3 l1):=by
   intro l1 e1;have a1:=jo.out;have a2:=pK.out _ jo.out
   rcases hC:bh Tr o (Sp.next l) with er | ⟨⟨rel,x,y⟩,l2⟩
   ·rw[hC]at e1;cases e1
   ·rw[hC]at g3 e1
    cases e1
    have m:=g3.1;exact⟨by have:=kg (A:=Tr) hC;omega,m.D9 a2⟩
  have M4:=M3.call h3 k3;obtain⟨e1,f1⟩:=M4.box.cell 1 rfl;have M5:=hid (M4.set 1 (I O kc) (n':={ kind:=10,c:=-1,next:=-1,ay:=p.ct.1,a:=kc }) rfl);clear M4 M3 h3 k3 g3 H2;go_wp2_with fail;refine(vO ho BE.out HR.out Uc.out M5.fx).mono ?_;rintro e w4⟨kb,p4,rfl,h4,k4,g4,e4⟩;have Ug:Hid (∃ex,p4.ns=p1.ns ++ ex):=sJ WR.out (wQ (fun l1 e1=>Mw (g4 l1 e1)) e4);have HD:Hid (p4.ns[p.ns.length]?=Y { ay:=p.ct.1,next:=-1,c:=-1 }):=mg rY.out Ug.out;have G4:=hid (And.intro g4 e4);have M6:=M5.call h4 k4;obtain⟨e2,f2⟩:=M6.box.cell 2 rfl;have M9:=hid (M6.set 2 (I O kb) (n':={ kind:=10,c:=-1,next:=-1,ay:=p.ct.1,a:=kc,b:=kb }) rfl);clear M6 M5 h4 k4 g4 e4 Uc WR Ug;obtain⟨g,cap,hv,ow,hmax,ov,hj,a4,a0,⟨n0,n1,n2,n3,n4,n5,n6,n7,n8,n9⟩,⟨r0,r1,r2,r3,r4,r5,r6,r7,r8,r9⟩,q0,q1,q2,q3,q4,q5,q6,q7,q8,q9⟩:=M9.facts (j:=p.ns.length) (d:={ ay:=p.ct.1,next:=-1,c:=-1 }) HD.out;go_wp2_with fail;generalize w4.setCell ⟨wc.heap.size,2,M⟩ (I O kb)=wd at *
  go_cut [] from 6 (fun wc=>wc=(rB wd g (p.ns.length*10) { kind:=10,c:=-1,next:=-1,ay:=p.ct.1,a:=kc,b:=kb }).drew)
  case first =>
   clear M9 HT HD pK jo G3 G4 HR BE yP
   go_region_with (fail)
   all_goals
    go_wp2_with fail;go_meet;exact rfl
  case rest =>
   obtain⟨h6,k6⟩:=j5 M9.fx { kind:=10,c:=-1,next:=-1,ay:=p.ct.1,a:=kc,b:=kb } hv (j:=p.ns.length) (d:={ ay:=p.ct.1,next:=-1,c:=-1 }) HD.out;go_wp2_with fail;go_ret;have G9:=IG (n:={ kind:=10,c:=-1,next:=-1,ay:=p.ct.1,a:=kc,b:=kb }) (kc:=kc) (kb:=kb) yP.out rY.out hp1q.out By.out jo.out G3.out G4.1 G4.2 rfl rfl rfl rfl rfl;rw[hcut];exact mu (B7 st o l yP.out) h6.drew (M9.fk.trans k6).drew G9
end
section
theorem Jm(A:eR)(n o:Nat)(l:Sp.Bs):bN A (n+1) o l=(if Sp.tok l=uj then gG A l
  else if Sp.tok l=kW then cY A o l
  else if Sp.tok l=QG then qR A (fun l=>aO A (bN A n (o+1)) o l) o l
  else if Sp.tok l=oH then eA A (fun l=>aO A (bN A n (o+1)) o l) o l
  else cu A o l):=by
 rw[bN]
theorem mm{base b pb:Nat}{s:ByteArray}{o:Nat}{p:FP}{l:Sp.Bs}{w:Wd}{r r':Sp.R (Bl->Bl)}{f:FuncId}{a:Array Value}(e:r=r')(h:Calls prog f a w (mW base b pb s o p l w r)):Calls prog f a w (mW base b pb s o p l w r'):=by rw[<-e];exact h
theorem ud(base b pb:Nat)(s:ByteArray):∀(n o:Nat),o<=12->nf base b pb s o n (bN Tr n o)
 | 0,o,_=>fun l p w hl=>absurd hl (Nat.not_lt_zero _)
 | n+1,o,ho=>by
  intro l p w hl h hlim hb;have cQ:∀l (f:Bl->Bl) l1,bN Tr n (o+1) l=.ok (f,l1)->l1.length<l.length:=fun l f l1 e=>kH (A:=Tr) n (o+1) l f l1 e
  have N4:∀l,aO Tr (bN Tr n (o+1)) o l=bE Tr (bN Tr n (o+1)) o l:=fun l=>MF Tr _ (fun l h=>nU Tr n (o+1) h) cQ o l
  have hr:o<12->nf base b pb s (o+1) n (bN Tr n (o+1)):=fun h=>ud base b pb s n (o+1) (by omega)
  have e:=Jm Tr n o l;by_cases t1:Sp.tok l=uj
  ·rw[if_pos t1]at e
   exact mm e.symm (DK base b pb s o l p w h hlim t1)
  ·rw[if_neg t1]at e
   by_cases t2:Sp.tok l=kW
   ·rw[if_pos t2]at e
    exact mm e.symm (yC base b pb s o ho l p w h hlim t2)
   ·rw[if_neg t2]at e
    by_cases t3:Sp.tok l=QG
    ·rw[if_pos t3]at e
     exact mm e.symm (Jj base b pb s o n ho _ cQ hr N4 l p w hl h hlim t3)
    ·rw[if_neg t3]at e
     by_cases t4:Sp.tok l=oH
     ·rw[if_pos t4]at e
      exact mm e.symm (AR base b pb s o n ho _ cQ hr N4 l p w hl h hlim t4)
     ·rw[if_neg t4]at e
      refine mm e.symm (yo base b pb s o ho l p w h hlim ?_);intro hv;simp[cJ,hv,t1,t2,t3,t4]at hb
end
end Go.Proofs.YtiopfihjmkfdmaaGreatDoor
