import Derived.Test.YtiopfihjmkfdmaaGreatDoorR5
namespace Go.Proofs.YtiopfihjmkfdmaaGreatDoor
open Option renaming none→M,some→Y
open Go.Proofs.Tryz Sp
section
namespace Sp
def cS:Sm->Ct->Ct
 | .num _,ct=>ct
 | .name _,ct=>ct
 | .neg x,ct=>cS x ct
 | .bin k x y,ct=>cS y (if 3<=k then aJ (cS x ct) else cS x ct)
def cB:Bl->Ct->Ct
 | .nil,ct=>ct
 | .assign _ x t,ct=>cB t (cS x (aA ct))
 | .read _ t,ct=>cB t (aA ct)
 | .assert _ x y t,ct=>cB t (cS y (cS x (aJ (aA ct))))
 | .ite _ x y xs els ys t,ct=>cB t (if els then cB ys (cB xs (cS y (cS x (aA ct)))) else cB xs (cS y (cS x (aA ct))))
 | .loop _ x y xs t,ct=>cB t (cB xs (cS y (cS x (aA ct))))
structure pX where
 V:Type
 dec:DecidableEq V
 num:Int->V
 whole:V
 neg:V->V
 work:Nat->V->V->Option V
 nought:V->Bool
 join:V->V->V
 may:Nat->V->V->Bool
 bound:Nat->V->V->Option V
 widen:V->V->V
 narrow:V->V->V
 fuel:Nat
abbrev pX.Env(D:pX):=Fin 8->D.V
abbrev pX.St(D:pX):=Option D.Env
inductive eU (V:Type) where
 | ay (p:Int) (s:Fin 8->V)
 | site (q:Int) (bad:Bool)
structure zB where
 al:Nat
 narrow:Nat
 ai:Nat
section
variable (D : pX)
def jn:D.St->D.St->D.St
 | none,t=>t
 | some s,M=>Y s
 | some s,Y t=>Y fun k=>D.join (s k) (t k)
def nT(f:D.V->D.V->D.V):D.St->D.St->D.St
 | some s,Y t=>Y fun k=>f (s k) (t k)
 | _,_=>M
def FQ(s t:D.St):Bool:=match s,t with
 | none,M=>true
 | some s,Y t=>@decide (∀k,s k=t k) (@Nat.decidableForallFin 8 (fun k=>s k=t k) (fun k=>D.dec (s k) (t k)))
 | _,_=>false
theorem mU(s t:D.St):FQ D s t=true↔s=t:=by
 cases s with
 | none=>cases t<;>simp[FQ]
 | some s =>
  cases t with
  | none=>simp[FQ]
  | some t =>unfold FQ;simp only[decide_eq_true_eq,Option.some.injEq];exact⟨fun h=>funext h,fun h k=>by rw[h]⟩
def oE(s:D.Env)(k:Nat):D.V:=if h:k<8 then s ⟨k,h⟩ else D.whole
def hY(s:D.Env)(k:Nat)(v:D.V):D.Env:=fun j=>if j.val=k then v else s j
def pI(p:Int):D.St->List (eU D.V)
 | none=>[]
 | some s=>[.ay p s]
abbrev ve:=List (eU D.V) × D.St
def dO(r:Nat):Nat:=match r with
 | 0=>5 | 1=>4 | 2=>2 | 3=>3 | 4=>1 | _=>0
def xE(r:Nat):Nat:=match r with
 | 0=>4 | 1=>5 | 2=>3 | 3=>2 | 4=>0 | _=>1
def dt:Sm->Ct->D.Env->List (eU D.V) × Option D.V
 | .num n,_,_=>([],Y (D.num (n:Int)))
 | .name k,_,s=>([],Y (oE D s k))
 | .neg x,ct,s=>((dt x ct s).1,(dt x ct s).2.map D.neg)
 | .bin k x y,ct,s=>match dt x ct s with
  | (e,M)=>(e,M)
  | (e,Y a)=>(match dt y (if 3<=k then aJ (cS x ct) else cS x ct) s with
   | (e',M)=>(e ++ e',M)
   | (e',Y b)=>(e ++ e' ++ (if 3<=k then [.site (cS x ct).2 (D.nought b)] else []),D.work k a b))
def qn(side:Sm)(r:Nat)(other:D.V)(s:D.St):D.St:=match s with
 | none=>M
 | some s=>(match side with
  | .name k=>(match D.bound r (oE D s k) other with
   | some v=>Y (hY D s k v)
   | none=>M)
  | _=>Y s)
def fH(r:Nat)(x y:Sm)(a b:D.V)(s:D.Env):D.St :=
 if D.may r a b then qn D y (dO r) a (qn D x r b (Y s)) else M
def dq(k:Nat)(x y:Sm)(ct:Ct):D.St->List (eU D.V) × D.St × D.St
 | none=>([],M,M)
 | some s=>(match dt D x ct s with
  | (e,M)=>(e,M,M)
  | (e,Y a)=>(match dt D y (cS x ct) s with
   | (e',M)=>(e ++ e',M,M)
   | (e',Y b)=>(e ++ e',fH D k x y a b s,fH D (xE k) x y a b s)))
def jP(cond:D.St->List (eU D.V) × D.St × D.St)(body:D.St->ve D)(s i:D.St):D.St:=jn D s (body (cond i).2.1).2
def jH(cond:D.St->List (eU D.V) × D.St × D.St)(body:D.St->ve D)(p:Int):Nat->D.St->D.St->List (eU D.V) × D.St × D.St
 | 0,out,s=>([],out,s)
 | n+1,out,s =>(pI D p s ++ (cond s).1 ++ (body (cond s).2.1).1 ++ (jH cond body p n (jn D out (cond s).2.2) (body (cond s).2.1).2).1,(jH cond body p n (jn D out (cond s).2.2) (body (cond s).2.1).2).2)
def fixF(next:D.St->D.St)(al:Nat):Nat->Nat->D.St->D.St
 | 0,_,i=>i
 | f+1,k,i=>if FQ D (jn D i (next i)) i=true then i else fixF next al f (k+1) (if al<k then nT D D.widen i (jn D i (next i)) else jn D i (next i))
def JI(next:D.St->D.St):Nat->D.St->D.St
 | 0,i=>i
 | n+1,i=>JI next n (nT D D.narrow i (next i))
def ma(P:zB)(cond:D.St->List (eU D.V) × D.St × D.St)(body:D.St->ve D)(s:D.St):D.St :=
 JI D (jP D cond body s) P.narrow (fixF D (jP D cond body s) P.al D.fuel 1 s)
def rS(P:zB)(cond:D.St->List (eU D.V) × D.St × D.St)(body:D.St->ve D)(p:Int)(s:D.St):ve D :=
 let u:=jH D cond body p P.ai M s
 let i:=ma D P cond body u.2.2
 (u.1 ++ pI D p i ++ (cond i).1 ++ (body (cond i).2.1).1,jn D u.2.1 (cond i).2.2)
def fV(r:ve D)(f:D.St->ve D):ve D:=(r.1 ++ (f r.2).1,(f r.2).2)
def Oo(p:Int)(f:D.Env->ve D):D.St->ve D
 | none=>([],M)
 | some s=>(.ay p s :: (f s).1,(f s).2)
def oI(k:Nat)(x:Sm)(ct:Ct)(s:D.Env):ve D:=((dt D x ct s).1,(dt D x ct s).2.map fun v=>hY D s k v)
def Lk(k:Nat)(s:D.Env):ve D:=([],Y (hY D s k D.whole))
def Cd(site:Int)(k:Nat)(x y:Sm)(ct:Ct)(s:D.Env):ve D:=((dq D k x y ct (Y s)).1 ++ [.site site (dq D k x y ct (Y s)).2.2.isSome],(dq D k x y ct (Y s)).2.1)
def wu(cond:D.St->List (eU D.V) × D.St × D.St)(f g:D.St->ve D)(s:D.Env):ve D :=
 ((cond (Y s)).1 ++ (f (cond (Y s)).2.1).1 ++ (g (cond (Y s)).2.2).1,jn D (f (cond (Y s)).2.1).2 (g (cond (Y s)).2.2).2)
def cD(P:zB):Bl->Ct->D.St->ve D
 | .nil,_,s=>([],s)
 | .assign k x t,ct,s=>fV D (Oo D ct.1 (oI D k x (aA ct)) s) (cD P t (cS x (aA ct)))
 | .read k t,ct,s=>fV D (Oo D ct.1 (Lk D k) s) (cD P t (aA ct))
 | .assert k x y t,ct,s=>fV D (Oo D ct.1 (Cd D ct.2 k x y (aJ (aA ct))) s) (cD P t (cS y (cS x (aJ (aA ct)))))
 | .ite k x y xs true ys t,ct,s=>fV D (Oo D ct.1 (wu D (dq D k x y (aA ct)) (cD P xs (cS y (cS x (aA ct)))) (cD P ys (cB xs (cS y (cS x (aA ct)))))) s) (cD P t (cB ys (cB xs (cS y (cS x (aA ct))))))
 | .ite k x y xs false _ t,ct,s=>fV D (Oo D ct.1 (wu D (dq D k x y (aA ct)) (cD P xs (cS y (cS x (aA ct)))) (fun s=>([],s))) s) (cD P t (cB xs (cS y (cS x (aA ct)))))
 | .loop k x y xs t,ct,s=>fV D (Oo D ct.1 (fun s=>rS D P (dq D k x y (aA ct)) (cD P xs (cS y (cS x (aA ct)))) ct.1 (Y s)) s) (cD P t (cB xs (cS y (cS x (aA ct)))))
abbrev Found:=List (D.St) × List Nat
def cP(F:Found D):eU D.V->Found D
 | .ay p s=>(F.1.modify p.toNat (fun f=>jn D f (Y s)),F.2)
 | .site q bad=>(F.1,F.2.modify q.toNat (fun n=>max n (if bad then 2 else 1)))
def tell(F:Found D)(es:List (eU D.V)):Found D:=es.foldl (cP D) F
def cE(P:zB)(t:Bl):Found D :=
 let r:=cD D P t (0,0) (Y fun _=>D.num 0)
 tell D (List.replicate ((cB t (0,0)).1+1).toNat M,List.replicate (cB t (0,0)).2.toNat 0) (r.1 ++ pI D (cB t (0,0)).1 r.2)
end
structure Iv where
 a:Int
 b:Int
deriving DecidableEq
def vd:Iv:=⟨-32768,32767⟩
def ub(a b:Int):Iv:=if a < -32768∨32767<b then vd else⟨a,b⟩
def U4:List Int->Int
 | []=>0
 | x :: xs=>xs.foldl min x
def U7:List Int->Int
 | []=>0
 | x :: xs=>xs.foldl max x
def MK(l:List Int):Iv:=ub (U4 l) (U7 l)
def Ha(y:Iv):List Int:=(if y.a<0 then [y.a,min y.b (-1)] else []) ++ (if 0<y.b then [max y.a 1,y.b] else [])
def Dx(x y:Iv):Option Iv:=if Ha y=[] then M else Y (MK ((Ha y).flatMap fun q=>[x.a.tdiv q,x.b.tdiv q]))
def MD(x y:Iv):Option Iv:=if max (-y.a) y.b - 1<0 then M else Y (ub (min (max x.a (-(max (-y.a) y.b - 1))) 0) (max (min x.b (max (-y.a) y.b - 1)) 0))
def AM(k:Nat)(x y:Iv):Option Iv :=
 if k=0 then Y (ub (x.a+y.a) (x.b+y.b)) else if k=1 then Y (ub (x.a - y.b) (x.b - y.a))
 else if k=2 then Y (MK [x.a*y.a,x.a*y.b,x.b*y.a,x.b*y.b])
 else if k=3 then Dx x y else MD x y
def ku(x y:Iv):Option Iv:=if max x.a y.a<=min x.b y.b then Y ⟨max x.a y.a,min x.b y.b⟩ else M
def GS(r:Nat)(x y:Iv):Bool :=
 if r=0 then decide (x.a<y.b) else if r=1 then decide (x.a<=y.b) else if r=2 then(ku x y).isSome
 else if r=3 then !(decide (x=y) && decide (x.a=x.b)) else if r=4 then decide (y.a<=x.b) else decide (y.a<x.b)
def nD(x:Iv)(n:Int):Option Iv:=if n=-32768 then M else ku x ⟨-32768,n - 1⟩
def nF(x:Iv)(n:Int):Option Iv:=if n=32767 then M else ku x ⟨n+1,32767⟩
def rH(x right:Iv):Option Iv:=if right.a≠right.b then Y x else if x.a=right.a then nF x right.a else if x.b=right.b then nD x right.b else Y x
def rG(r:Nat)(x right:Iv):Option Iv :=
 if r=0 then nD x right.b else if r=1 then ku x ⟨-32768,right.b⟩ else if r=2 then ku x right else if r=3 then rH x right
 else if r=4 then ku x ⟨right.a,32767⟩ else nF x right.a
def mr(steps:List Int)(n:Int):Int:=steps.foldl (fun st s=>if s<=n then max st s else st) (-32768)
def gW(steps:List Int)(n:Int):Int:=steps.foldl (fun st s=>if n<=s then min st s else st) 32767
def dQ(steps:List Int)(x y:Iv):Iv:=⟨if y.a<x.a then mr steps y.a else x.a,if x.b<y.b then gW steps y.b else x.b⟩
def Dj(x y:Iv):Iv:=⟨if x.a=-32768 then y.a else x.a,if x.b=32767 then y.b else x.b⟩
def Vl(steps:List Int):pX where
 V:=Iv
 dec:=inferInstance
 num n:=⟨n,n⟩
 whole:=vd
 neg x:=ub (-x.b) (-x.a)
 work:=AM
 nought x:=decide (x.a<=0) && decide (0<=x.b)
 join x y:=⟨min x.a y.a,max x.b y.b⟩
 may:=GS
 bound:=rG
 widen:=dQ steps
 narrow:=Dj
 fuel:=1100000
def sh:Sm->List Int
 | .num n=>[(n:Int)]
 | .name _=>[]
 | .neg x=>sh x
 | .bin _ x y=>sh x ++ sh y
def iy:Bl->List Int
 | .nil=>[]
 | .assign _ x rest=>sh x ++ iy rest
 | .read _ rest=>iy rest
 | .assert _ x y rest=>sh x ++ sh y ++ iy rest
 | .ite _ x y xs _ ys rest=>sh x ++ sh y ++ iy xs ++ iy ys ++ iy rest
 | .loop _ x y xs rest=>sh x ++ sh y ++ iy xs ++ iy rest
def fG(Gq:Bool)(t:Bl):List Int:=[-32768,32767] ++ (if Gq then(iy t).flatMap fun n=>[n,-n] else [])
end Sp
end
section
namespace Sp
def oh(n:Int):Prop:=-32768<=n/\n<=32767
structure Rk(D:pX) where
 wf:D.V->Prop
 rk:D.V->Nat
 top:Nat
 le:∀x,wf x->rk x<=top
 wnum:∀n,oh n->wf (D.num n)
 wwhole:wf D.whole
 wneg:∀x,wf x->wf (D.neg x)
 wwork:∀k x y v,wf x->wf y->D.work k x y=Y v->wf v
 wjoin:∀x y,wf x->wf y->wf (D.join x y)
 wbound:∀r x y v,wf x->wf y->D.bound r x y=Y v->wf v
 wwiden:∀x y,wf x->wf y->wf (D.widen x y)
 sub:D.V->D.V->Prop
 sub_refl:∀x,sub x x
 sub_trans:∀x y z,sub x y->sub y z->sub x z
 sub_joinl:∀x y,sub x (D.join x y)
 sub_joinr:∀x y,sub y (D.join x y)
 sub_narrow:∀x y z,sub z x->sub z y->sub z (D.narrow x y)
 wnarrow:∀x y z,wf x->wf y->wf z->sub z x->sub z y->wf (D.narrow x y)
 join_lt:∀x y,wf x->wf y->D.join x y≠x->rk x<rk (D.join x y)
 widen_le:∀x y,wf x->wf y->rk (D.join x y)<=rk (D.widen x (D.join x y))
 fuel:8*top<D.fuel
section
variable {D : pX}(K : Rk D)
def Wf(s:D.St):Prop:=∀e,s=Y e->∀k,K.wf (e k)
variable {K}
section
variable{r k m:Nat}
variable{P:zB}
theorem dY:Wf K M:=fun _ h=>by cases h
theorem Wf.some{e:D.Env}(h:∀k,K.wf (e k)):Wf K (Y e):=fun e' h'=>by cases h';exact h
theorem LU{e:D.Env}(h:∀k,K.wf (e k))(k:Nat):K.wf (oE D e k):=by
 unfold oE;split
 ·exact h _
 ·exact K.wwhole
theorem wf_set{e:D.Env}(h:∀k,K.wf (e k))(k:Nat){v:D.V}(hv:K.wf v):∀j,K.wf (hY D e k v j):=by
 intro j;unfold hY;split
 ·exact hv
 ·exact h j
theorem lA{s t:D.St}(hs:Wf K s)(ht:Wf K t):Wf K (jn D s t):=by
 cases s with
 | none=>exact ht
 | some s =>
  cases t with
  | none=>exact hs
  | some t=>exact Wf.some fun k=>K.wjoin _ _ (hs _ rfl k) (ht _ rfl k)
def wK(x:Sm):Prop:=∀n∈sh x,oh n
def tG(t:Bl):Prop:=∀n∈iy t,oh n
theorem jz:∀(x:Sm) (_:wK x) (ct:Ct) (e:D.Env) (_:∀k,K.wf (e k)) (v:D.V),(dt D x ct e).2=Y v->K.wf v
 | .num n,hn,_,_,_,v,h=>by cases h;exact K.wnum _ (hn _ (by simp[sh]))
 | .name k,_,_,e,he,v,h=>by cases h;exact LU he k
 | .neg x,hn,ct,e,he,v,h=>by
  have h':(dt D x ct e).2.map D.neg=Y v:=h;cases hx:(dt D x ct e).2 with
  | none=>rw[hx]at h';cases h'
  | some u =>
   rw[hx]at h';cases h'
   exact K.wneg _ (jz x hn ct e he u hx)
 | .bin k x y,hn,ct,e,he,v,h=>by
  unfold dt at h;have eO:wK x:=fun n h=>hn n (by simp[sh,h])
  have hny:wK y:=fun n h=>hn n (by simp[sh,h])
  split at h
  ·cases h
  ·next e1 a h1 =>
   split at h
   ·cases h
   ·next e2 b h2 =>
    exact K.wwork k a b v (jz x eO ct e he a (by rw[h1])) (jz y hny _ e he b (by rw[h2])) h
theorem vm{side:Sm}{other:D.V}{s:D.St}(hs:Wf K s)(ho:K.wf other):Wf K (qn D side r other s):=by
 cases s with
 | none=>exact dY
 | some s =>
  unfold qn;simp only;split
  ·split
   ·next v hv=>exact Wf.some (wf_set (hs _ rfl) _ (K.wbound _ _ _ _ (LU (hs _ rfl) _) ho hv))
   ·exact dY
  ·exact hs
theorem xH{x y:Sm}{a b:D.V}{e:D.Env}(he:∀k,K.wf (e k))(ha:K.wf a)(hb:K.wf b):Wf K (fH D r x y a b e):=by
 unfold fH;split
 ·exact vm (vm (Wf.some he) hb) ha
 ·exact dY
theorem lF{x y:Sm}(hx:wK x)(hy:wK y){ct:Ct}{s:D.St}(hs:Wf K s):Wf K (dq D k x y ct s).2.1/\Wf K (dq D k x y ct s).2.2:=by
 cases s with
 | none=>exact⟨dY,dY⟩
 | some e =>
  unfold dq;simp only;split
  ·exact⟨dY,dY⟩
  ·next e1 a h1 =>
   split
   ·exact⟨dY,dY⟩
   ·next e2 b h2 =>
    have ha:=jz x hx ct e (hs _ rfl) a (by rw[h1]);have hb:=jz y hy _ e (hs _ rfl) b (by rw[h2]);exact⟨xH (hs _ rfl) ha hb,xH (hs _ rfl) ha hb⟩
abbrev fQ(D:pX):=D.St->List (eU D.V) × D.St × D.St
abbrev gw(D:pX):=D.St->ve D
def fS(K:Rk D)(cond:fQ D):Prop:=∀s,Wf K s->Wf K (cond s).2.1/\Wf K (cond s).2.2
def eV(K:Rk D)(body:gw D):Prop:=∀s,Wf K s->Wf K (body s).2
theorem wU{cond:fQ D}{body:gw D}(hc:fS K cond)(hb:eV K body){s i:D.St}(hs:Wf K s)(hi:Wf K i):Wf K (jP D cond body s i):=lA hs (hb _ (hc _ hi).1)
theorem Pw{f:D.V->D.V->D.V}(hf:∀x y,K.wf x->K.wf y->K.wf (f x y)){s t:D.St}(hs:Wf K s)(ht:Wf K t):Wf K (nT D f s t):=by
 cases s with
 | none=>exact dY
 | some s =>
  cases t with
  | none=>exact dY
  | some t=>exact Wf.some fun k=>hf _ _ (hs _ rfl k) (ht _ rfl k)
theorem AS{next:D.St->D.St}(hn:∀i,Wf K i->Wf K (next i))(d:Nat):∀(f k:Nat) (i:D.St),Wf K i->Wf K (fixF D next d f k i)
 | 0,_,_,h=>h
 | f+1,k,i,h=>by
  unfold fixF;split
  ·exact h
  ·refine AS hn d f (k+1) _ ?_
   split
   ·exact Pw K.wwiden h (lA h (hn _ h))
   ·exact lA h (hn _ h)
def uO:Nat->(Nat->Nat)->Nat
 | 0,_=>0
 | n+1,f=>uO n f+f n
theorem GQ{f g:Nat->Nat}:∀(n:Nat),(∀k,k<n->f k<=g k)->uO n f<=uO n g
 | 0,_=>Nat.le_refl _
 | n+1,h=>by have:=GQ n (fun k hk=>h k (by omega));have:=h n (by omega);show uO n f+f n<=uO n g+g n;omega
theorem Hh{f g:Nat->Nat}:∀(n:Nat),(∀k,k<n->f k<=g k)->(∃k,k<n/\f k<g k)->uO n f<uO n g
 | 0,_,⟨_,h,_⟩=>absurd h (by omega)
 | n+1,h,⟨k,hk,cR⟩=>by
  show uO n f+f n<uO n g+g n;have h1:=h n (by omega);by_cases e:k=n
  ·subst e
   have:=GQ k (fun k hk=>h k (by omega));omega
  ·have:=Hh n (fun k hk=>h k (by omega)) ⟨k,by omega,cR⟩
   omega
theorem Cr{f:Nat->Nat}:∀(n:Nat),(∀k,k<n->f k<=m)->uO n f<=n*m
 | 0,_=>Nat.zero_le _
 | n+1,h=>by have:=Cr n (fun k hk=>h k (by omega));have:=h n (by omega);show uO n f+f n<=(n+1)*m;rw[Nat.add_mul];omega
variable (K) in
def XX(e:D.Env)(k:Nat):Nat:=if h:k<8 then K.rk (e ⟨k,h⟩) else 0
variable (K) in
def Pf(e:D.Env):Nat:=uO 8 (XX K e)
theorem LZ{e:D.Env}(h:∀k,K.wf (e k)):Pf K e<=8*K.top:=by refine Cr 8 (fun k hk=>?_);unfold XX;rw[dif_pos hk];exact K.le _ (h _)
theorem Su{e g:D.Env}(h:∀k,K.rk (e k)<=K.rk (g k))(dF:∃k,K.rk (e k)<K.rk (g k)):Pf K e<Pf K g:=by
 refine Hh 8 (fun k hk=>?_) ?_
 ·unfold XX
  rw[dif_pos hk,dif_pos hk];exact h _
 ·obtain⟨k,hk⟩:=dF
  exact⟨k.val,k.isLt,by unfold XX;rw[dif_pos k.isLt,dif_pos k.isLt];exact hk⟩
theorem zC{e n:D.Env}(he:∀k,K.wf (e k))(hn:∀k,K.wf (n k))(dF:¬ (fun k=>D.join (e k) (n k))=e):∀g:D.Env,(∀k,K.rk (D.join (e k) (n k))<=K.rk (g k))->Pf K e<Pf K g:=by
 intro g hg;have h1:∀k,K.rk (e k)<=K.rk (D.join (e k) (n k)):=fun k=>by
  have hd:=D.dec (D.join (e k) (n k)) (e k);by_cases h:D.join (e k) (n k)=e k
  ·rw[h];exact Nat.le_refl _
  ·exact Nat.le_of_lt (K.join_lt _ _ (he k) (hn k) h)
 refine Su (fun k=>Nat.le_trans (h1 k) (hg k)) ?_;refine Classical.byContradiction fun Oa=>dF (funext fun k=>?_)
 refine Classical.byContradiction fun h=>Oa ⟨k,Nat.lt_of_lt_of_le (K.join_lt _ _ (he k) (hn k) h) (hg k)⟩
def oZ(D:pX)(next:D.St->D.St)(d k:Nat)(i:D.St):D.St:=if d<k then nT D D.widen i (jn D i (next i)) else jn D i (next i)
theorem px(D:pX)(next:D.St->D.St)(d f k:Nat)(i:D.St):fixF D next d (f+1) k i=if FQ D (jn D i (next i)) i=true then i else fixF D next d f (k+1) (oZ D next d k i):=rfl
theorem zI{next:D.St->D.St}{e:D.Env}(he:∀k,K.wf (e k))(hn:Wf K (next (Y e)))(d k:Nat)(dF:¬ jn D (Y e) (next (Y e))=Y e):∃g:D.Env,oZ D next d k (Y e)=Y g/\(∀k,K.wf (g k))/\Pf K e<Pf K g:=by
 cases hx:next (Y e) with
 | none=>rw[hx]at dF;exact absurd rfl dF
 | some n =>
  rw[hx]at dF hn;have hn:=hn n rfl;have D3:¬ (fun k=>D.join (e k) (n k))=e:=fun h=>dF (by show Y _=Y e;rw[h])
  unfold oZ;rw[hx];by_cases hk:d<k
  ·rw[if_pos hk]
   exact⟨_,rfl,fun k=>K.wwiden _ _ (he k) (K.wjoin _ _ (he k) (hn k)),zC he hn D3 _ (fun k=>K.widen_le _ _ (he k) (hn k))⟩
  ·rw[if_neg hk]
   exact⟨_,rfl,fun k=>K.wjoin _ _ (he k) (hn k),zC he hn D3 _ (fun k=>Nat.le_refl _)⟩
theorem wR{next:D.St->D.St}(hn:∀i,Wf K i->Wf K (next i))(d:Nat):∀(f k:Nat) (e:D.Env),(∀k,K.wf (e k))->8*K.top<Pf K e+f->∃g:D.Env,fixF D next d f k (Y e)=Y g/\jn D (Y g) (next (Y g))=Y g
 | 0,_,e,he,hf=>by have:=LZ he;omega
 | f+1,k,e,he,hf=>by
  rw[px];by_cases h:FQ D (jn D (Y e) (next (Y e))) (Y e)=true
  ·rw[if_pos h]
   exact⟨e,rfl,(mU D _ _).1 h⟩
  ·rw[if_neg h]
   obtain⟨g,h1,h2,h3⟩:=zI he (hn _ (Wf.some he)) d k (fun h'=>h ((mU D _ _).2 h'));rw[h1];exact wR hn d f (k+1) g h2 (by omega)
theorem zM{next:D.St->D.St}(hn:next M=M)(d:Nat):∀(f k:Nat),fixF D next d f k M=M
 | 0,_=>rfl
 | f+1,k=>by rw[px,hn];exact if_pos rfl
variable (K) in
def qu(s i:D.St):Prop:=∀e,s=Y e->∃g,i=Y g/\∀k,K.sub (e k) (g k)
theorem xz{s t u:D.St}(h:qu K s t)(k:qu K t u):qu K s u:=fun e he=>by obtain⟨g,hg,h1⟩:=h e he;obtain⟨q,hq,h2⟩:=k g hg;exact⟨q,hq,fun k=>K.sub_trans _ _ _ (h1 k) (h2 k)⟩
theorem wE(s t:D.St):qu K s (jn D s t):=fun e he=>by
 subst he;cases t with
 | none=>exact⟨e,rfl,fun _=>K.sub_refl _⟩
 | some t=>exact⟨_,rfl,fun _=>K.sub_joinl _ _⟩
theorem Nf(s t:D.St):qu K t (jn D s t):=fun e he=>by
 subst he;cases s with
 | none=>exact⟨e,rfl,fun _=>K.sub_refl _⟩
 | some s=>exact⟨_,rfl,fun _=>K.sub_joinr _ _⟩
theorem zR{e:D.Env}(we:∀k,K.wf (e k)){i n:D.St}(wi:Wf K i)(wn:Wf K n)(hi:qu K (Y e) i)(hn:qu K (Y e) n):Wf K (nT D D.narrow i n)/\qu K (Y e) (nT D D.narrow i n):=by obtain⟨g,rfl,h1⟩:=hi e rfl;obtain⟨q,rfl,h2⟩:=hn e rfl;exact⟨Wf.some fun k=>K.wnarrow _ _ _ (wi _ rfl k) (wn _ rfl k) (we k) (h1 k) (h2 k),fun e' x9=>by cases x9;exact⟨_,rfl,fun k=>K.sub_narrow _ _ _ (h1 k) (h2 k)⟩⟩
theorem Ho{cond:fQ D}{body:gw D}(hc:fS K cond)(hb:eV K body){e:D.Env}(we:∀k,K.wf (e k)):∀(n:Nat) (i:D.St),Wf K i->qu K (Y e) i->Wf K (JI D (jP D cond body (Y e)) n i)/\qu K (Y e) (JI D (jP D cond body (Y e)) n i)
 | 0,_,h,k=>⟨h,k⟩
 | n+1,i,h,k=>by obtain⟨h1,h2⟩:=zR we h (wU hc hb (Wf.some we) h) k (wE _ _);exact Ho hc hb we n _ h1 h2
theorem y4{next:D.St->D.St}:∀(n:Nat),JI D next n M=M
 | 0=>rfl
 | n+1=>y4 n
def sP(cond:fQ D):Prop:=cond M=([],M,M)
def qC(body:gw D):Prop:=body M=([],M)
theorem JP{cond:fQ D}{body:gw D}(hc:sP cond)(hb:qC body):ma D P cond body M=M:=by
 unfold ma;have hn:jP D cond body M M=M:=by unfold jP;rw[hc,hb];rfl
 rw[zM hn,y4]
theorem Hz{cond:fQ D}{body:gw D}{s i:D.St}(h:jn D i (jP D cond body s i)=i):qu K s i:=by
 have h1:=xz (K:=K) (wE s _) (Nf i (jP D cond body s i))
 rwa [h]at h1
theorem tu{cond:fQ D}{body:gw D}(hc:fS K cond)(hb:eV K body){e:D.Env}(we:∀k,K.wf (e k)):Wf K (ma D P cond body (Y e))/\qu K (Y e) (ma D P cond body (Y e)):=by
 have hn:∀i,Wf K i->Wf K (jP D cond body (Y e) i):=fun i hi=>wU hc hb (Wf.some we) hi
 obtain⟨i,h1,h2⟩:=wR hn P.al D.fuel 1 e we (by have:=K.fuel;omega);have wi:=AS hn P.al D.fuel 1 (Y e) (Wf.some we);unfold ma;rw[h1]at wi ⊢;exact Ho hc hb we _ _ wi (Hz h2)
theorem GK{cond:fQ D}{body:gw D}(hc:fS K cond)(hb:eV K body)(nc:sP cond)(nb:qC body){s:D.St}(hs:Wf K s):Wf K (ma D P cond body s):=by
 cases s with
 | none=>rw[JP nc nb];exact dY
 | some e=>exact(tu hc hb (hs _ rfl)).1
theorem Hk{cond:fQ D}{body:gw D}(hc:fS K cond)(hb:eV K body)(p:Int):∀(n:Nat) (out s:D.St),Wf K out->Wf K s->Wf K (jH D cond body p n out s).2.1/\Wf K (jH D cond body p n out s).2.2
 | 0,_,_,ho,hs=>⟨ho,hs⟩
 | n+1,_,_,ho,hs=>Hk hc hb p n _ _ (lA ho (hc _ hs).2) (hb _ (hc _ hs).1)
theorem FN{cond:fQ D}{body:gw D}(hc:fS K cond)(hb:eV K body)(nc:sP cond)(nb:qC body)(p:Int){s:D.St}(hs:Wf K s):Wf K (rS D P cond body p s).2:=by obtain⟨h1,h2⟩:=Hk hc hb p P.ai M s dY hs;exact lA h1 (hc _ (GK hc hb nc nb h2)).2
theorem sQ{p:Int}{f:D.Env->ve D}(hf:∀e,(∀k,K.wf (e k))->Wf K (f e).2){s:D.St}(hs:Wf K s):Wf K (Oo D p f s).2:=by
 cases s with
 | none=>exact dY
 | some e=>exact hf e (hs _ rfl)
theorem ig(P:zB):∀(t:Bl) (ct:Ct),cD D P t ct M=([],M)
 | .nil,_=>rfl
 | .assign k x t,ct=>by show fV D ([],M) (cD D P t _)=_;unfold fV;rw[ig P t];rfl
 | .read k t,ct=>by show fV D ([],M) (cD D P t _)=_;unfold fV;rw[ig P t];rfl
 | .assert k x y t,ct=>by show fV D ([],M) (cD D P t _)=_;unfold fV;rw[ig P t];rfl
 | .ite k x y xs true ys t,ct=>by show fV D ([],M) (cD D P t _)=_;unfold fV;rw[ig P t];rfl
 | .ite k x y xs false ys t,ct=>by show fV D ([],M) (cD D P t _)=_;unfold fV;rw[ig P t];rfl
 | .loop k x y xs t,ct=>by show fV D ([],M) (cD D P t _)=_;unfold fV;rw[ig P t];rfl
theorem fX(P:zB):∀(t:Bl) (_:tG t) (ct:Ct) (s:D.St),Wf K s->Wf K (cD D P t ct s).2
 | .nil,_,_,_,hs=>hs
 | .assign k x t,hn,ct,s,hs=>fX P t (fun n h=>hn n (by simp[iy,h])) _ _ (sQ (fun e he=>by
   unfold oI;intro e' h';cases hv:(dt D x (aA ct) e).2 with
   | none=>simp[hv]at h'
   | some v =>simp[hv]at h';subst h';exact wf_set he k (jz x (fun n h=>hn n (by simp[iy,h])) _ e he v hv)) hs)
 | .read k t,hn,ct,s,hs=>fX P t (fun n h=>hn n (by simp[iy,h])) _ _ (sQ (fun e he=>Wf.some (wf_set he k K.wwhole)) hs)
 | .assert k x y t,hn,ct,s,hs=>fX P t (fun n h=>hn n (by simp[iy,h])) _ _ (sQ (fun e he=>(lF (fun n h=>hn n (by simp[iy,h])) (fun n h=>hn n (by simp[iy,h])) (Wf.some he)).1) hs)
 | .ite k x y xs true ys t,hn,ct,s,hs=>fX P t (fun n h=>hn n (by simp[iy,h])) _ _ (sQ (fun e he=>by have hc:=lF (k:=k) (ct:=aA ct) (K:=K) (x:=x) (y:=y) (fun n h=>hn n (by simp[iy,h])) (fun n h=>hn n (by simp[iy,h])) (Wf.some he);exact lA (fX P xs (fun n h=>hn n (by simp[iy,h])) _ _ hc.1) (fX P ys (fun n h=>hn n (by simp[iy,h])) _ _ hc.2)) hs)
 | .ite k x y xs false ys t,hn,ct,s,hs=>fX P t (fun n h=>hn n (by simp[iy,h])) _ _ (sQ (fun e he=>by have hc:=lF (k:=k) (ct:=aA ct) (K:=K) (x:=x) (y:=y) (fun n h=>hn n (by simp[iy,h])) (fun n h=>hn n (by simp[iy,h])) (Wf.some he);exact lA (fX P xs (fun n h=>hn n (by simp[iy,h])) _ _ hc.1) hc.2) hs)
 | .loop k x y xs t,hn,ct,s,hs=>fX P t (fun n h=>hn n (by simp[iy,h])) _ _ (sQ (fun e he =>FN (fun s hs=>lF (fun n h=>hn n (by simp[iy,h])) (fun n h=>hn n (by simp[iy,h])) hs) (fun s hs=>fX P xs (fun n h=>hn n (by simp[iy,h])) _ s hs) rfl (ig P xs _) _ (Wf.some he)) hs)
end
end
end Sp
end
section
namespace Sp
section
variable {D : pX}(K : Rk D)
structure Ab:Prop where
 bF:∀x y,K.wf x->K.sub y x->D.join x y=x
def Vr:eU D.V->Prop
 | .ay _ s=>∀k,K.wf (s k)
 | .site _ _=>True
variable {K}
theorem Fq{k:Nat}{x:Sm}(hx:wK x)(ct:Ct)(e:D.Env)(he:∀k,K.wf (e k)):Wf K (oI D k x ct e).2:=by
 unfold oI;intro e' h';cases hv:(dt D x ct e).2 with
 | none=>rw[hv]at h';cases h'
 | some v =>
  rw[hv]at h';cases h'
  exact wf_set he k (jz x hx ct e he v hv)
theorem KN{cond:fQ D}{f g:D.St->ve D}(hc:fS K cond)(hf:eV K f)(hg:eV K g)(e:D.Env)(he:∀k,K.wf (e k)):Wf K (wu D cond f g e).2 :=
 lA (hf _ (hc _ (Wf.some he)).1) (hg _ (hc _ (Wf.some he)).2)
variable (K)
def SS(F:Found D):Prop:=∀s∈F.1,Wf K s
def Told(F:Found D):eU D.V->Prop
 | .ay p s=>∀f,F.1[p.toNat]?=Y f->qu K (Y s) f
 | .site q bad=>∀n,F.2[q.toNat]?=Y n->(if bad then 2 else 1)<=n
def iU(F:Found D)(es:List (eU D.V)):Prop:=∀ev∈es,Told K F ev
variable {K}
theorem iE{α:Type}{l:List α}{p i:Nat}{f:α->α}{y:α}(h:(l.modify p f)[i]?=Y y):∃x,l[i]?=Y x/\y=if p=i then f x else x:=by
 rw[List.getElem?_modify]at h;cases hx:l[i]? with
 | none=>rw[hx]at h;simp at h
 | some x =>
  rw[hx]at h;refine⟨x,rfl,?_⟩;by_cases hp:p=i
  ·rw[if_pos hp];simpa [hp] using h.symm
  ·rw[if_neg hp];simpa [hp] using h.symm
theorem IX{F:Found D}{x:eU D.V}(h:Told K F x)(y:eU D.V):Told K (cP D F y) x:=by
 cases x with
 | ay p s =>
  cases y with
  | site q b=>exact h
  | ay q t =>
   intro f hf;obtain⟨g,hg,rfl⟩:=iE hf;split
   ·exact xz (h g hg) (wE g _)
   ·exact h g hg
 | site q b =>
  cases y with
  | ay p t=>exact h
  | site q' b' =>
   intro n hn;obtain⟨m,hm,rfl⟩:=iE hn;have:=h m hm;by_cases hq:q'.toNat=q.toNat
   ·rw[if_pos hq];exact Nat.le_trans this (Nat.le_max_left _ _)
   ·rw[if_neg hq];exact this
theorem qh{F:Found D}{x:eU D.V}:∀(es:List (eU D.V)) {F:Found D},Told K F x->Told K (tell D F es) x
 | [],_,h=>h
 | y :: es,_,h=>qh (F:=F) es (IX h y)
theorem iU.grow{F:Found D}{es:List (eU D.V)}(h:iU K F es)(es':List (eU D.V)):iU K (tell D F es') es:=fun ev hv=>qh (F:=F) es' (h ev hv)
theorem wF(F:Found D)(x:eU D.V):Told K (cP D F x) x:=by
 cases x with
 | ay p s =>intro f hf;obtain⟨g,_,rfl⟩:=iE hf;rw[if_pos rfl];exact Nf g _
 | site q b =>intro n hn;obtain⟨m,_,rfl⟩:=iE hn;rw[if_pos rfl];omega
theorem tH:∀(es:List (eU D.V)) (F:Found D),iU K (tell D F es) es
 | [],_=>fun _ h=>by cases h
 | x :: es,F=>fun ev hv=>by
  rcases List.mem_cons.1 hv with rfl | hv
  ·exact qh (F:=F) es (wF F ev)
  ·exact tH es (cP D F x) ev hv
theorem OY(A:Ab K){f:D.St}{s:D.Env}(hf:Wf K f)(h:qu K (Y s) f):jn D f (Y s)=f:=by obtain⟨g,rfl,hg⟩:=h s rfl;show Y (fun k=>D.join (g k) (s k))=Y g;congr 1;funext k;exact A.bF _ _ (hf _ rfl k) (hg k)
theorem FG(A:Ab K){F:Found D}(hF:SS K F){x:eU D.V}(h:Told K F x):cP D F x=F:=by
 obtain⟨fs,ns⟩:=F;cases x with
 | ay p s =>
  show(fs.modify p.toNat (fun f=>jn D f (Y s)),ns)=(fs,ns);congr 1;refine List.ext_getElem? fun i=>?_
  rw[List.getElem?_modify];cases hi:fs[i]? with
  | none=>rfl
  | some f =>
   by_cases hp:p.toNat=i
   ·subst hp
    simp only[if_true,Option.map_eq_map,Option.map_some];rw[OY A (hF f (List.mem_of_getElem? hi)) (h f hi)]
   ·simp[hp]
 | site q b =>
  show(fs,ns.modify q.toNat (fun n=>max n (if b then 2 else 1)))=(fs,ns);congr 1;refine List.ext_getElem? fun i=>?_
  rw[List.getElem?_modify];cases hi:ns[i]? with
  | none=>rfl
  | some n =>
   by_cases hp:q.toNat=i
   ·subst hp
    have:=h n hi;simp only[if_true,Option.map_eq_map,Option.map_some];rw[Nat.max_eq_left this]
   ·simp[hp]
theorem zO(A:Ab K){F:Found D}(hF:SS K F):∀{es:List (eU D.V)},iU K F es->tell D F es=F
 | [],_=>rfl
 | x :: es,h=>by show tell D (cP D F x) es=F;rw[FG A hF (h x (List.mem_cons_self ..))];exact zO A hF fun ev hv=>h ev (List.mem_cons_of_mem _ hv)
theorem zg{F:Found D}(hF:SS K F){x:eU D.V}(h:Vr K x):SS K (cP D F x):=by
 cases x with
 | site q b=>exact hF
 | ay p s =>
  intro f hf;obtain⟨i,hi⟩:=List.getElem?_of_mem hf;obtain⟨g,hg,rfl⟩:=iE hi;have hw:=hF g (List.mem_of_getElem? hg);split
  ·exact lA hw (Wf.some h)
  ·exact hw
end
end Sp
end
namespace Sp
section
variable{v n:Int}
theorem sK(n:Int):oh (tX n):=by
 unfold oh tX IntKind.wrap;have h:(2 ^ IntKind.i16.bits:Int)=65536:=rfl;have h2:(2 ^ (IntKind.i16.bits - 1):Int)=32768:=rfl;simp only[h,h2];show -32768<=(if(true && decide (n % 65536 >= 32768))=true then n % 65536 - 65536 else n % 65536)/\(if(true && decide (n % 65536 >= 32768))=true then n % 65536 - 65536 else n % 65536)<=32767;by_cases hc:n % 65536 >= 32768
 ·rw[if_pos (by simp;exact hc)];omega
 ·rw[if_neg (by simp;omega)];omega
theorem GY{k:Nat}{a b c:Int}(ha:oh a)(h:work k a b=Y c):oh c:=by
 unfold work at h;split at h
 ·cases h;exact sK _
 ·split at h
  ·cases h;exact sK _
  ·split at h
   ·cases h;exact sK _
   ·split at h
    ·cases h
    ·split at h
     ·cases h;exact sK _
     ·cases h
      next Qz _ =>
      unfold oh at *;have h2:(a.tmod b).natAbs<=a.natAbs:=by rw[Int.natAbs_tmod];exact Nat.mod_le _ _
      have h3:a.tmod b<=a.natAbs:=by omega
      by_cases h0:0<=a
      ·have:=Int.tmod_nonneg b h0
       omega
      ·have h4:=Int.tmod_nonneg b (a:=-a) (by omega)
       rw[Int.neg_tmod]at h4;omega
structure Cg where
 m:Nat
 r:Int
deriving DecidableEq
def bA(x:Cg)(n:Int):Prop:=if x.m=0 then n=x.r else(n - x.r) % (x.m:Int)=0
instance (x:Cg) (n:Int):Decidable (bA x n):=by unfold bA;infer_instance
def Ah:Cg:=⟨1,0⟩
def dL(k:Nat)(v:Int):Cg:=⟨Nat.gcd k 65536,v % (Nat.gcd k 65536:Nat)⟩
def jX(g:Nat)(v:Int):Cg:=⟨g,v % (g:Int)⟩
def jl(x:Cg):Cg:=if x.m=0 then⟨0,tX (-x.r)⟩ else dL x.m (-x.r)
def bt(k:Nat)(x y:Cg):Option Cg :=
 if x.m=0/\y.m=0 then(work k x.r y.r).map fun n=>⟨0,n⟩
 else if 3<=k/\y.m=0/\y.r=0 then M
 else if k=0 then Y (dL (Nat.gcd x.m y.m) (x.r+y.r))
 else if k=1 then Y (dL (Nat.gcd x.m y.m) (x.r - y.r))
 else if k=2 then(if(x.m=0/\x.r=0)∨(y.m=0/\y.r=0) then Y ⟨0,0⟩ else Y (dL (Nat.gcd (Nat.gcd (x.m*y.m) ((x.m:Int)*y.r).natAbs) ((y.m:Int)*x.r).natAbs) (x.r*y.r)))
 else if k=3 then Y Ah
 else Y (jX (Nat.gcd (Nat.gcd x.m y.m) y.r.natAbs) x.r)
def cp(x y:Cg):Cg:=if Nat.gcd (Nat.gcd x.m y.m) (x.r - y.r).natAbs=0 then x else jX (Nat.gcd (Nat.gcd x.m y.m) (x.r - y.r).natAbs) x.r
theorem mem_iff(x:Cg)(n:Int):bA x n↔(x.m:Int) ∣ (n - x.r):=by
 unfold bA;by_cases h:x.m=0
 ·rw[if_pos h,h]
  simp;omega
 ·rw[if_neg h]
  exact Int.dvd_iff_emod_eq_zero.symm
theorem EZ{g:Nat}(h:(g:Int) ∣ n - v):bA (jX g v) n:=by
 rw[mem_iff];show(g:Int) ∣ n - v % (g:Int);have e:n - v % (g:Int)=(n - v)+(g:Int)*(v / (g:Int)):=by have:=Int.emod_add_mul_ediv v g;omega
 rw[e];exact Int.dvd_add h (Int.dvd_mul_right _ _)
theorem zh(x y:Cg)(n:Int)(h:bA x n):bA (cp x y) n:=by
 unfold cp;by_cases hg:Nat.gcd (Nat.gcd x.m y.m) (x.r - y.r).natAbs=0
 ·rw[if_pos hg];exact h
 ·rw[if_neg hg]
  rw[mem_iff]at h;exact EZ (Int.dvd_trans (Int.natCast_dvd_natCast.2 (Nat.dvd_trans (Nat.gcd_dvd_left _ _) (Nat.gcd_dvd_left _ _))) h)
theorem y8(x y:Cg)(n:Int)(h:bA y n):bA (cp x y) n:=by
 unfold cp;rw[mem_iff]at h;by_cases hg:Nat.gcd (Nat.gcd x.m y.m) (x.r - y.r).natAbs=0
 ·rw[if_pos hg,mem_iff]
  obtain⟨h1,h2⟩:=Nat.gcd_eq_zero_iff.1 hg;obtain⟨h3,h4⟩:=Nat.gcd_eq_zero_iff.1 h1;rw[h4]at h;rw[h3];simp at h ⊢;omega
 ·rw[if_neg hg]
  refine EZ ?_;have d1:((Nat.gcd (Nat.gcd x.m y.m) (x.r - y.r).natAbs:Nat):Int) ∣ (y.m:Int):=Int.natCast_dvd_natCast.2 (Nat.dvd_trans (Nat.gcd_dvd_left _ _) (Nat.gcd_dvd_right _ _));have d2:((Nat.gcd (Nat.gcd x.m y.m) (x.r - y.r).natAbs:Nat):Int) ∣ x.r - y.r:=Int.ofNat_dvd_left.2 (Nat.gcd_dvd_right _ _);rw[show n - x.r=(n - y.r) - (x.r - y.r) by omega];exact Int.dvd_sub (Int.dvd_trans d1 h) d2
def fg(p:Int->Bool):Nat->Int->Option Int
 | 0,_=>M
 | f+1,n=>if p n then Y n else fg p f (n+1)
theorem fj{p:Int->Bool}:∀{f:Nat} {n g:Int},fg p f n=Y g->p g=true/\n<=g/\g<n+f/\∀k,n<=k->k<g->p k=false
 | 0,_,_,h=>by cases h
 | f+1,n,g,h=>by
  unfold fg at h;by_cases hp:p n=true
  ·rw[if_pos hp]at h
   cases h
   exact⟨hp,Int.le_refl _,by omega,fun k h1 h2=>by omega⟩
  ·rw[if_neg hp]at h
   obtain⟨h1,h2,h3,h4⟩:=fj h;refine⟨h1,by omega,by omega,fun k k1 k2=>?_⟩;by_cases e:k=n
   ·subst e;simpa using hp
   ·exact h4 k (by omega) k2
theorem jO{p:Int->Bool}:∀{f:Nat} {n:Int},fg p f n=M->∀k,n<=k->k<n+f->p k=false
 | 0,_,_,k,h1,h2=>by omega
 | f+1,n,h,k,h1,h2=>by
  unfold fg at h;by_cases hp:p n=true
  ·rw[if_pos hp]at h;cases h
  ·rw[if_neg hp]at h
   by_cases e:k=n
   ·subst e;simpa using hp
   ·exact jO h k (by omega) (by omega)
def bI(x y:Cg)(n:Int):Bool:=decide (bA x n) && decide (bA y n)
def bf(x y:Cg):Option Cg:=match fg (bI x y) 65536 (-32768) with
 | none=>M
 | some f=>Y (match fg (bI x y) (32767 - f).toNat (f+1) with
  | none=>⟨0,f⟩
  | some g=>jX (g - f).toNat f)
theorem lP{x y:Cg}:bI x y n=true↔((x.m:Int) ∣ n - x.r)/\((y.m:Int) ∣ n - y.r):=by unfold bI;rw[Bool.and_eq_true,decide_eq_true_eq,decide_eq_true_eq,mem_iff,mem_iff]
theorem uX{x y:Cg}(hn:oh n)(hx:bA x n)(hy:bA y n):∃v,bf x y=Y v/\bA v n:=by
 have hb:bI x y n=true:=by unfold bI;simp[hx,hy]
 unfold oh at hn;unfold bf;cases hf:fg (bI x y) 65536 (-32768) with
 | none =>have:=jO hf n (by omega) (by omega);rw[this]at hb;cases hb
 | some f =>
  obtain⟨f1,f2,f3,f4⟩:=fj hf;have hfn:f<=n:=by
   rcases Int.lt_or_le n f with h | h
   ·have:=f4 n (by omega) h
    rw[this]at hb;cases hb
   ·exact h
  refine⟨_,rfl,?_⟩;cases hg:fg (bI x y) (32767 - f).toNat (f+1) with
  | none =>
   have:n=f:=by
    rcases Int.lt_or_le f n with h | h
    ·have:=jO hg n (by omega) (by omega)
     rw[this]at hb;cases hb
    ·omega
   rw[this,mem_iff];simp
  | some g =>
   obtain⟨g1,g2,g3,g4⟩:=fj hg;refine EZ ?_;have hD:(((g - f).toNat:Nat):Int)=g - f:=by omega
   rw[hD];obtain⟨fx,fy⟩:=lP.1 f1;obtain⟨gx,gy⟩:=lP.1 g1;obtain⟨nx,ny⟩:=lP.1 hb;have dx:(x.m:Int) ∣ g - f:=by rw[show g - f=(g - x.r) - (f - x.r) by omega];exact Int.dvd_sub gx fx
   have dy:(y.m:Int) ∣ g - f:=by rw[show g - f=(g - y.r) - (f - y.r) by omega];exact Int.dvd_sub gy fy
   have yI:0<g - f:=by omega
   have e:=Int.emod_add_mul_ediv (n - f) (g - f);have t1:=Int.emod_nonneg (n - f) (b:=g - f) (by omega);have t2:=Int.emod_lt_of_pos (n - f) yI;rw[Int.dvd_iff_emod_eq_zero]
   rcases Int.lt_or_le 0 ((n - f) % (g - f)) with ht | ht
   ·have hc:bI x y (f+(n - f) % (g - f))=true:=by
     rw[lP];constructor
     ·rw[show f+(n - f) % (g - f) - x.r=(n - x.r) - (g - f)*((n - f) / (g - f)) by omega]
      exact Int.dvd_sub nx (Int.dvd_trans dx (Int.dvd_mul_right _ _))
     ·rw[show f+(n - f) % (g - f) - y.r=(n - y.r) - (g - f)*((n - f) / (g - f)) by omega]
      exact Int.dvd_sub ny (Int.dvd_trans dy (Int.dvd_mul_right _ _))
    have:=g4 (f+(n - f) % (g - f)) (by omega) (by omega);rw[this]at hc;cases hc
   ·omega
def rF(r:Nat)(x y:Cg):Bool:=!(decide (x.m=0) && decide (y.m=0) && !holds r x.r y.r) && !(decide (r=2) && (bf x y).isNone)
def lq(r:Nat)(x y:Cg):Option Cg:=if r=2 then bf x y else Y x
def Vn:pX where
 V:=Cg
 dec:=inferInstance
 num n:=⟨0,n⟩
 whole:=Ah
 neg:=jl
 work:=bt
 nought x:=decide (bA x 0)
 join:=cp
 may:=rF
 bound:=lq
 widen _ y:=y
 narrow x _:=x
 fuel:=1100000
def cr(x:Cg):Prop:=(x.m=0/\oh x.r)∨(1<=x.m/\x.m<=65536/\0<=x.r/\x.r<x.m)
theorem GZ{g:Nat}(h1:1<=g)(h2:g<=65536)(v:Int):cr (jX g v) :=
 .inr ⟨h1,h2,Int.emod_nonneg _ (by show(g:Int)≠0;omega),Int.emod_lt_of_pos _ (by show(0:Int)<g;omega)⟩
theorem Bv(k:Nat)(v:Int):cr (dL k v) :=
 GZ (Nat.gcd_pos_of_pos_right k (by omega)) (Nat.gcd_le_right k (by omega)) v
theorem wV(h:oh n):cr ⟨0,n⟩:=.inl ⟨rfl,h⟩
theorem Fz{x:Cg}(h:cr x):x.m<=65536:=by
 rcases h with h | h
 ·omega
 ·exact h.2.1
theorem MY(k:Nat)(x y v:Cg)(hx:cr x)(hy:cr y)(h:bt k x y=Y v):cr v:=by
 unfold bt at h;split at h
 ·next h0 =>
  rcases hx with⟨_,hx⟩ | hx
  ·cases hw:work k x.r y.r with
   | none=>rw[hw]at h;cases h
   | some n =>
    rw[hw]at h;cases h
    exact wV (GY hx hw)
  ·omega
 ·next h0 =>
  split at h
  ·cases h
  ·split at h
   ·cases h;exact Bv _ _
   ·split at h
    ·cases h;exact Bv _ _
    ·split at h
     ·split at h
      ·cases h;exact wV (by unfold oh;omega)
      ·cases h;exact Bv _ _
     ·split at h
      ·cases h;exact .inr ⟨by decide,by decide,by decide,by decide⟩
      ·cases h
       have mx:=Fz hx;have my:=Fz hy;have hg:0<Nat.gcd x.m y.m:=by
        by_cases e:x.m=0
        ·exact Nat.gcd_pos_of_pos_right _ (by have:y.m≠0:=fun e2=>h0 ⟨e,e2⟩;omega)
        ·exact Nat.gcd_pos_of_pos_left _ (by omega)
       have hle:Nat.gcd x.m y.m<=65536:=by
        by_cases e:x.m=0
        ·have:y.m≠0:=fun e2=>h0 ⟨e,e2⟩
         exact Nat.le_trans (Nat.gcd_le_right _ (by omega)) my
        ·exact Nat.le_trans (Nat.gcd_le_left _ (by omega)) mx
       exact GZ (Nat.gcd_pos_of_pos_left _ hg) (Nat.le_trans (Nat.gcd_le_left _ hg) hle) _
theorem DF(x y:Cg)(hx:cr x)(hy:cr y):cr (cp x y):=by
 unfold cp;by_cases hg:Nat.gcd (Nat.gcd x.m y.m) (x.r - y.r).natAbs=0
 ·rw[if_pos hg];exact hx
 ·rw[if_neg hg]
  have mx:=Fz hx;have my:=Fz hy;refine GZ (by omega) ?_ _;by_cases e:Nat.gcd x.m y.m=0
  ·obtain⟨e1,e2⟩:=Nat.gcd_eq_zero_iff.1 e
   rw[e,Nat.gcd_zero_left]
   rcases hx with⟨_,hx⟩ | hx
   ·rcases hy with⟨_,hy⟩ | hy
    ·unfold oh at *;omega
    ·omega
   ·omega
  ·refine Nat.le_trans (Nat.gcd_le_left _ (by omega)) ?_
   by_cases e1:x.m=0
   ·rw[e1,Nat.gcd_zero_left];exact my
   ·exact Nat.le_trans (Nat.gcd_le_left _ (by omega)) mx
theorem I5(r:Nat)(x y v:Cg)(hx:cr x)(_:cr y)(h:lq r x y=Y v):cr v:=by
 unfold lq at h;split at h
 ·unfold bf at h
  cases hf:fg (bI x y) 65536 (-32768) with
  | none=>rw[hf]at h;cases h
  | some f =>
   rw[hf]at h;simp only at h;obtain⟨_,f2,f3,_⟩:=fj hf;cases hg:fg (bI x y) (32767 - f).toNat (f+1) with
   | none =>
    rw[hg]at h;cases h
    exact wV (by unfold oh;omega)
   | some g =>
    rw[hg]at h;obtain⟨_,g2,g3,_⟩:=fj hg;cases h
    exact GZ (by omega) (by omega) _
 ·cases h;exact hx
def ti(x:Cg):Nat:=if x.m=0 then 0 else 65537 - x.m
theorem EA(x y:Cg)(hx:cr x)(hy:cr y)(h:cp x y≠x):ti x<ti (cp x y):=by
 have hw:=DF x y hx hy;unfold cp at *;by_cases hg:Nat.gcd (Nat.gcd x.m y.m) (x.r - y.r).natAbs=0
 ·rw[if_pos hg]at h;exact absurd rfl h
 ·rw[if_neg hg]at h hw ⊢
  have mx:=Fz hx;have hgm:=Fz hw;unfold ti;show(if x.m=0 then 0 else 65537 - x.m)<(if Nat.gcd (Nat.gcd x.m y.m) (x.r - y.r).natAbs=0 then 0 else 65537 - Nat.gcd (Nat.gcd x.m y.m) (x.r - y.r).natAbs);rw[if_neg hg];have hgm:Nat.gcd (Nat.gcd x.m y.m) (x.r - y.r).natAbs<=65536:=hgm;by_cases hm:x.m=0
  ·rw[if_pos hm];omega
  ·rw[if_neg hm]
   have hd:Nat.gcd (Nat.gcd x.m y.m) (x.r - y.r).natAbs ∣ x.m:=Nat.dvd_trans (Nat.gcd_dvd_left _ _) (Nat.gcd_dvd_left _ _);have hle:=Nat.le_of_dvd (by omega) hd;have dF:Nat.gcd (Nat.gcd x.m y.m) (x.r - y.r).natAbs≠x.m:=fun e=>by
    apply h;rw[e]
    rcases hx with⟨hx,_⟩ | ⟨_,_,h3,h4⟩
    ·exact absurd hx hm
    ·unfold jX
     rw[Int.emod_eq_of_lt h3 h4]
   omega
def Aq:Rk Vn where
 wf:=cr
 rk:=ti
 top:=65536
 le x h:=by unfold ti;split<;>omega
 wnum _ h:=wV h
 wwhole:=.inr ⟨by decide,by decide,by decide,by decide⟩
 wneg x _:=by
  show cr (jl x);unfold jl;split
  ·exact wV (sK _)
  ·exact Bv _ _
 wwork:=MY
 wjoin:=DF
 wbound:=I5
 wwiden _ _ _ h:=h
 sub x y:=∀n,bA x n->bA y n
 sub_refl _ _ h:=h
 sub_trans _ _ _ h k n hn:=k n (h n hn)
 sub_joinl:=zh
 sub_joinr x y:=y8 x y
 sub_narrow _ _ _ h _:=h
 wnarrow _ _ _ h _ _ _ _:=h
 join_lt:=EA
 widen_le _ _ _ _:=Nat.le_refl _
 fuel:=by decide
end
end Sp
end Go.Proofs.YtiopfihjmkfdmaaGreatDoor
