import Derived.Test.YtiopfihjmkfdmabGreatDoorC10
namespace Go.Proofs.YtiopfihjmkfdmabGreatDoor
open Option renaming none->M,some->Y
open Go.Proofs.Tryz Sp
section
namespace Sp
def cS:Sm->Ct->Ct
 |.num _,ct=>ct
 |.name _,ct=>ct
 |.neg x,ct=>cS x ct
 |.bin k x y,ct=>cS y (if 3<=k then aL (cS x ct) else cS x ct)
def cB:Bl->Ct->Ct
 |.nil,ct=>ct
 |.assign _ x t,ct=>cB t (cS x (aD ct))
 |.read _ t,ct=>cB t (aD ct)
 |.assert _ x y t,ct=>cB t (cS y (cS x (aL (aD ct))))
 |.ite _ x y xs els ys t,ct=>cB t (if els then cB ys (cB xs (cS y (cS x (aD ct)))) else cB xs (cS y (cS x (aD ct))))
 |.loop _ x y xs t,ct=>cB t (cB xs (cS y (cS x (aD ct))))
structure rv where
 V:Type
 dec:DecidableEq V
 num:Int->V
 whole:V
 neg:V->V
 work:Nat->V->V->Option V
 nought:V->Bool
 join:V->V->V
 may:Nat->V->V->Bool
 bound:Nat->V->V->Option V
 widen:V->V->V
 narrow:V->V->V
 fuel:Nat
abbrev rv.Env(D:rv):=Fin 8->D.V
abbrev rv.St(D:rv):=Option D.Env
inductive fG (V:Type) where
 |aA (p:Int) (s:Fin 8->V)
 |site (q:Int) (bad:Bool)
structure z7 where
 ao:Nat
 narrow:Nat
 aj:Nat
section
variable (D: rv)
def jn:D.St->D.St->D.St
 |none,t=>t
 |some s,M=>Y s
 |some s,Y t=>Y λk=>D.join (s k) (t k)
def o6(f:D.V->D.V->D.V):D.St->D.St->D.St
 |some s,Y t=>Y λk=>f (s k) (t k)
 |_,_=>M
def IG(s t:D.St):Bool:=match s,t with
 |none,M=>true
 |some s,Y t=>@decide (∀k,s k=t k) (@Nat.decidableForallFin 8 (λk=>s k=t k) (λk=>D.dec (s k) (t k)))
 |_,_=>false
theorem oL(s t:D.St):IG D s t=true↔s=t:=by
 cases s with
 |none=>cases t<;>simp[IG]
 |some s=>
  cases t with
  |none=>simp[IG]
  |some t=>unfold IG;simp only[Õ,Option.some.injEq];exact⟨λh=>funext h,λh k=>by rw[h]⟩
def pV(s:D.Env)(k:Nat):D.V:=if h:k<8 then s ⟨k,h⟩ else D.whole
def iK(s:D.Env)(k:Nat)(v:D.V):D.Env:=λj=>if j.val=k then v else s j
def qW(p:Int):D.St->List (fG D.V)
 |none=>[]
 |some s=>[.aA p s]
abbrev xK:=List (fG D.V)×D.St
def eh(r:Nat):Nat:=match r with
 |0=>5|1=>4|2=>2|3=>3|4=>1|_=>0
def yZ(r:Nat):Nat:=match r with
 |0=>4|1=>5|2=>3|3=>2|4=>0|_=>1
def dJ:Sm->Ct->D.Env->List (fG D.V)×Option D.V
 |.num n,_,_=>([],Y (D.num (n:Int)))
 |.name k,_,s=>([],Y (pV D s k))
 |.neg x,ct,s=>((dJ x ct s).1,(dJ x ct s).2.map D.neg)
 |.bin k x y,ct,s=>match dJ x ct s with
  |(e,M)=>(e,M)
  |(e,Y a)=>(match dJ y (if 3<=k then aL (cS x ct) else cS x ct) s with
   |(e',M)=>(e++e',M)
   |(e',Y b)=>(e++e'++(if 3<=k then [.site (cS x ct).2 (D.nought b)] else []),D.work k a b))
def sd(side:Sm)(r:Nat)(other:D.V)(s:D.St):D.St:=match s with
 |none=>M
 |some s=>(match side with
  |.name k=>(match D.bound r (pV D s k) other with
   |some v=>Y (iK D s k v)
   |none=>M)
  |_=>Y s)
def gk(r:Nat)(x y:Sm)(a b:D.V)(s:D.Env):D.St:=
 if D.may r a b then sd D y (eh r) a (sd D x r b (Y s)) else M
def dK(k:Nat)(x y:Sm)(ct:Ct):D.St->List (fG D.V)×D.St×D.St
 |none=>([],M,M)
 |some s=>(match dJ D x ct s with
  |(e,M)=>(e,M,M)
  |(e,Y a)=>(match dJ D y (cS x ct) s with
   |(e',M)=>(e++e',M,M)
   |(e',Y b)=>(e++e',gk D k x y a b s,gk D (yZ k) x y a b s)))
def kK(cond:D.St->List (fG D.V)×D.St×D.St)(body:D.St->xK D)(s i:D.St):D.St:=jn D s (body (cond i).2.1).2
def kG(cond:D.St->List (fG D.V)×D.St×D.St)(body:D.St->xK D)(p:Int):Nat->D.St->D.St->List (fG D.V)×D.St×D.St
 |0,out,s=>([],out,s)
 |n+1,out,s=>(qW D p s++(cond s).1++(body (cond s).2.1).1++(kG cond body p n (jn D out (cond s).2.2) (body (cond s).2.1).2).1,(kG cond body p n (jn D out (cond s).2.2) (body (cond s).2.1).2).2)
def fixF(next:D.St->D.St)(ao:Nat):Nat->Nat->D.St->D.St
 |0,_,i=>i
 |f+1,k,i=>if IG D (jn D i (next i)) i=true then i else fixF next ao f (k+1) (if ao<k then o6 D D.widen i (jn D i (next i)) else jn D i (next i))
def KM(next:D.St->D.St):Nat->D.St->D.St
 |0,i=>i
 |n+1,i=>KM next n (o6 D D.narrow i (next i))
def mU(P:z7)(cond:D.St->List (fG D.V)×D.St×D.St)(body:D.St->xK D)(s:D.St):D.St:=
 KM D (kK D cond body s) P.narrow (fixF D (kK D cond body s) P.ao D.fuel 1 s)
def tz(P:z7)(cond:D.St->List (fG D.V)×D.St×D.St)(body:D.St->xK D)(p:Int)(s:D.St):xK D:=
 let u:=kG D cond body p P.aj M s
 let i:=mU D P cond body u.2.2
 (u.1++qW D p i++(cond i).1++(body (cond i).2.1).1,jn D u.2.1 (cond i).2.2)
def gJ(r:xK D)(f:D.St->xK D):xK D:=(r.1++(f r.2).1,(f r.2).2)
def QV(p:Int)(f:D.Env->xK D):D.St->xK D
 |none=>([],M)
 |some s=>(.aA p s::(f s).1,(f s).2)
def pF(k:Nat)(x:Sm)(ct:Ct)(s:D.Env):xK D:=((dJ D x ct s).1,(dJ D x ct s).2.map λv=>iK D s k v)
def Pf(k:Nat)(s:D.Env):xK D:=([],Y (iK D s k D.whole))
def Ef(site:Int)(k:Nat)(x y:Sm)(ct:Ct)(s:D.Env):xK D:=((dK D k x y ct (Y s)).1++[.site site (dK D k x y ct (Y s)).2.2.isSome],(dK D k x y ct (Y s)).2.1)
def yr(cond:D.St->List (fG D.V)×D.St×D.St)(f g:D.St->xK D)(s:D.Env):xK D:=
 ((cond (Y s)).1++(f (cond (Y s)).2.1).1++(g (cond (Y s)).2.2).1,jn D (f (cond (Y s)).2.1).2 (g (cond (Y s)).2.2).2)
def cJ(P:z7):Bl->Ct->D.St->xK D
 |.nil,_,s=>([],s)
 |.assign k x t,ct,s=>gJ D (QV D ct.1 (pF D k x (aD ct)) s) (cJ P t (cS x (aD ct)))
 |.read k t,ct,s=>gJ D (QV D ct.1 (Pf D k) s) (cJ P t (aD ct))
 |.assert k x y t,ct,s=>gJ D (QV D ct.1 (Ef D ct.2 k x y (aL (aD ct))) s) (cJ P t (cS y (cS x (aL (aD ct)))))
 |.ite k x y xs true ys t,ct,s=>gJ D (QV D ct.1 (yr D (dK D k x y (aD ct)) (cJ P xs (cS y (cS x (aD ct)))) (cJ P ys (cB xs (cS y (cS x (aD ct)))))) s) (cJ P t (cB ys (cB xs (cS y (cS x (aD ct))))))
 |.ite k x y xs false _ t,ct,s=>gJ D (QV D ct.1 (yr D (dK D k x y (aD ct)) (cJ P xs (cS y (cS x (aD ct)))) (λs=>([],s))) s) (cJ P t (cB xs (cS y (cS x (aD ct)))))
 |.loop k x y xs t,ct,s=>gJ D (QV D ct.1 (λs=>tz D P (dK D k x y (aD ct)) (cJ P xs (cS y (cS x (aD ct)))) ct.1 (Y s)) s) (cJ P t (cB xs (cS y (cS x (aD ct)))))
abbrev Found:=List (D.St)×List Nat
def cY(F:Found D):fG D.V->Found D
 |.aA p s=>(F.1.modify p.toNat (λf=>jn D f (Y s)),F.2)
 |.site q bad=>(F.1,F.2.modify q.toNat (λn=>max n (if bad then 2 else 1)))
def tell(F:Found D)(es:List (fG D.V)):Found D:=es.foldl (cY D) F
def bU(P:z7)(t:Bl):Found D:=
 let r:=cJ D P t (0,0) (Y λ_=>D.num 0)
 tell D (List.replicate ((cB t (0,0)).1+1).toNat M,List.replicate (cB t (0,0)).2.toNat 0) (r.1++qW D (cB t (0,0)).1 r.2)
end
structure Iv where
 a:Int
 b:Int
deriving DecidableEq
def xA:Iv:=⟨-32768,32767⟩
def dE(a b:Int):Iv:=if a < -32768∨32767<b then xA else⟨a,b⟩
def pq:List Int->Int
 |[]=>0
 |x::xs=>xs.foldl min x
def pj:List Int->Int
 |[]=>0
 |x::xs=>xs.foldl max x
def cZ(l:List Int):Iv:=dE (pq l) (pj l)
def dz(y:Iv):List Int:=(if y.a<0 then [y.a,min y.b (-1)] else [])++(if 0<y.b then [max y.a 1,y.b] else [])
def ig(x y:Iv):Option Iv:=if dz y=[] then M else Y (cZ ((dz y).flatMap λq=>[x.a.tdiv q,x.b.tdiv q]))
def lO(x y:Iv):Option Iv:=if max (-y.a) y.b-1<0 then M else Y (dE (min (max x.a (-(max (-y.a) y.b-1))) 0) (max (min x.b (max (-y.a) y.b-1)) 0))
def nP(k:Nat)(x y:Iv):Option Iv:=
 if k=0 then Y (dE (x.a+y.a) (x.b+y.b)) else if k=1 then Y (dE (x.a-y.b) (x.b-y.a))
 else if k=2 then Y (cZ [x.a*y.a,x.a*y.b,x.b*y.a,x.b*y.b])
 else if k=3 then ig x y else lO x y
def dB(x y:Iv):Option Iv:=if max x.a y.a<=min x.b y.b then Y ⟨max x.a y.a,min x.b y.b⟩ else M
def dO(r:Nat)(x y:Iv):Bool:=
 if r=0 then decide (x.a<y.b) else if r=1 then decide (x.a<=y.b) else if r=2 then(dB x y).isSome
 else if r=3 then !(decide (x=y)&&decide (x.a=x.b)) else if r=4 then decide (y.a<=x.b) else decide (y.a<x.b)
def fh(x:Iv)(n:Int):Option Iv:=if n=-32768 then M else dB x ⟨-32768,n-1⟩
def fj(x:Iv)(n:Int):Option Iv:=if n=32767 then M else dB x ⟨n+1,32767⟩
def fw(x right:Iv):Option Iv:=if right.a≠right.b then Y x else if x.a=right.a then fj x right.a else if x.b=right.b then fh x right.b else Y x
def nY(r:Nat)(x right:Iv):Option Iv:=
 if r=0 then fh x right.b else if r=1 then dB x ⟨-32768,right.b⟩ else if r=2 then dB x right else if r=3 then fw x right
 else if r=4 then dB x ⟨right.a,32767⟩ else fj x right.a
def cM(steps:List Int)(n:Int):Int:=steps.foldl (λst s=>if s<=n then max st s else st) (-32768)
def cm(steps:List Int)(n:Int):Int:=steps.foldl (λst s=>if n<=s then min st s else st) 32767
def bY(steps:List Int)(x y:Iv):Iv:=⟨if y.a<x.a then cM steps y.a else x.a,if x.b<y.b then cm steps y.b else x.b⟩
def eO(x y:Iv):Iv:=⟨if x.a=-32768 then y.a else x.a,if x.b=32767 then y.b else x.b⟩
def YJ(steps:List Int):rv where
 V:=Iv
 dec:=inferInstance
 num n:=⟨n,n⟩
 whole:=xA
 neg x:=dE (-x.b) (-x.a)
 work:=nP
 nought x:=decide (x.a<=0)&&decide (0<=x.b)
 join x y:=⟨min x.a y.a,max x.b y.b⟩
 may:=dO
 bound:=nY
 widen:=bY steps
 narrow:=eO
 fuel:=1100000
def tX:Sm->List Int
 |.num n=>[(n:Int)]
 |.name _=>[]
 |.neg x=>tX x
 |.bin _ x y=>tX x++tX y
def jb:Bl->List Int
 |.nil=>[]
 |.assign _ x rest=>tX x++jb rest
 |.read _ rest=>jb rest
 |.assert _ x y rest=>tX x++tX y++jb rest
 |.ite _ x y xs _ ys rest=>tX x++tX y++jb xs++jb ys++jb rest
 |.loop _ x y xs rest=>tX x++tX y++jb xs++jb rest
def fm(I7:Bool)(t:Bl):List Int:=[-32768,32767]++(if I7 then(jb t).flatMap λn=>[n,-n] else [])
end Sp
end
section
namespace Sp
def pr(n:Int):Prop:=-32768<=n/\n<=32767
structure Rk(D:rv) where
 wf:D.V->Prop
 rk:D.V->Nat
 top:Nat
 le:∀x,wf x->rk x<=top
 wnum:∀n,pr n->wf (D.num n)
 wwhole:wf D.whole
 wneg:∀x,wf x->wf (D.neg x)
 wwork:∀k x y v,wf x->wf y->D.work k x y=Y v->wf v
 wjoin:∀x y,wf x->wf y->wf (D.join x y)
 wbound:∀r x y v,wf x->wf y->D.bound r x y=Y v->wf v
 wwiden:∀x y,wf x->wf y->wf (D.widen x y)
 sub:D.V->D.V->Prop
 sub_refl:∀x,sub x x
 sub_trans:∀x y z,sub x y->sub y z->sub x z
 sub_joinl:∀x y,sub x (D.join x y)
 sub_joinr:∀x y,sub y (D.join x y)
 sub_narrow:∀x y z,sub z x->sub z y->sub z (D.narrow x y)
 wnarrow:∀x y z,wf x->wf y->wf z->sub z x->sub z y->wf (D.narrow x y)
 join_lt:∀x y,wf x->wf y->D.join x y≠x->rk x<rk (D.join x y)
 widen_le:∀x y,wf x->wf y->rk (D.join x y)<=rk (D.widen x (D.join x y))
 fuel:8*top<D.fuel
section
variable {D: rv}(K: Rk D)
def Wf(s:D.St):Prop:=∀e,s=Y e->∀k,K.wf (e k)
variable {K}
section
variable{r k m:Nat}
variable{P:z7}
theorem eL:Wf K M:=λ_ h=>by cases h
theorem Wf.some{e:D.Env}(h:∀k,K.wf (e k)):Wf K (Y e):=λe' h'=>by cases h';exact h
theorem PL{e:D.Env}(h:∀k,K.wf (e k))(k:Nat):K.wf (pV D e k):=by
 unfold pV;split
 .exact h _
 .exact K.wwhole
theorem wf_set{e:D.Env}(h:∀k,K.wf (e k))(k:Nat){v:D.V}(hv:K.wf v):∀j,K.wf (iK D e k v j):=by
 intro j;unfold iK;split
 .exact hv
 .exact h j
theorem mr{s t:D.St}(hs:Wf K s)(ht:Wf K t):Wf K (jn D s t):=by
 cases s with
 |none=>exact ht
 |some s=>
  cases t with
  |none=>exact hs
  |some t=>exact Wf.some λk=>K.wjoin _ _ (hs _ rfl k) (ht _ rfl k)
def yd(x:Sm):Prop:=∀n∈tX x,pr n
def vJ(t:Bl):Prop:=∀n∈jb t,pr n
theorem j6:∀(x:Sm) (_:yd x) (ct:Ct) (e:D.Env) (_:∀k,K.wf (e k)) (v:D.V),(dJ D x ct e).2=Y v->K.wf v
 |.num n,hn,_,_,_,v,h=>by cases h;exact K.wnum _ (hn _ (by simp[tX]))
 |.name k,_,_,e,he,v,h=>by cases h;exact PL he k
 |.neg x,hn,ct,e,he,v,h=>by
  have h':(dJ D x ct e).2.map D.neg=Y v:=h;cases hx:(dJ D x ct e).2 with
  |none=>rw[hx]at h';cases h'
  |some u=>
   rw[hx]at h';cases h'
   exact K.wneg _ (j6 x hn ct e he u hx)
 |.bin k x y,hn,ct,e,he,v,h=>by
  unfold dJ at h;have fD:yd x:=λn h=>hn n (by simp[tX,h])
  have hny:yd y:=λn h=>hn n (by simp[tX,h])
  split at h
  .cases h
  .next e1 a h1=>
   split at h
   .cases h
   .next e2 b h2=>
    exact K.wwork k a b v (j6 x fD ct e he a (by rw[h1])) (j6 y hny _ e he b (by rw[h2])) h
theorem xN{side:Sm}{other:D.V}{s:D.St}(hs:Wf K s)(ho:K.wf other):Wf K (sd D side r other s):=by
 cases s with
 |none=>exact eL
 |some s=>
  unfold sd;simp only;split
  .split
   .next v hv=>exact Wf.some (wf_set (hs _ rfl) _ (K.wbound _ _ _ _ (PL (hs _ rfl) _) ho hv))
   .exact eL
  .exact hs
theorem y6{x y:Sm}{a b:D.V}{e:D.Env}(he:∀k,K.wf (e k))(ha:K.wf a)(hb:K.wf b):Wf K (gk D r x y a b e):=by
 unfold gk;split
 .exact xN (xN (Wf.some he) hb) ha
 .exact eL
theorem mw{x y:Sm}(hx:yd x)(hy:yd y){ct:Ct}{s:D.St}(hs:Wf K s):Wf K (dK D k x y ct s).2.1/\Wf K (dK D k x y ct s).2.2:=by
 cases s with
 |none=>exact⟨eL,eL⟩
 |some e=>
  unfold dK;simp only;split
  .exact⟨eL,eL⟩
  .next e1 a h1=>
   split
   .exact⟨eL,eL⟩
   .next e2 b h2=>
    have ha:=j6 x hx ct e (hs _ rfl) a (by rw[h1]);have hb:=j6 y hy _ e (hs _ rfl) b (by rw[h2]);exact⟨y6 (hs _ rfl) ha hb,y6 (hs _ rfl) ha hb⟩
abbrev gr(D:rv):=D.St->List (fG D.V)×D.St×D.St
abbrev gZ(D:rv):=D.St->xK D
def gB(K:Rk D)(cond:gr D):Prop:=∀s,Wf K s->Wf K (cond s).2.1/\Wf K (cond s).2.2
def fJ(K:Rk D)(body:gZ D):Prop:=∀s,Wf K s->Wf K (body s).2
theorem zg{cond:gr D}{body:gZ D}(hc:gB K cond)(hb:fJ K body){s i:D.St}(hs:Wf K s)(hi:Wf K i):Wf K (kK D cond body s i):=mr hs (hb _ (hc _ hi).1)
theorem Rz{f:D.V->D.V->D.V}(hf:∀x y,K.wf x->K.wf y->K.wf (f x y)){s t:D.St}(hs:Wf K s)(ht:Wf K t):Wf K (o6 D f s t):=by
 cases s with
 |none=>exact eL
 |some s=>
  cases t with
  |none=>exact eL
  |some t=>exact Wf.some λk=>hf _ _ (hs _ rfl k) (ht _ rfl k)
theorem Ce{next:D.St->D.St}(hn:∀i,Wf K i->Wf K (next i))(d:Nat):∀(f k:Nat) (i:D.St),Wf K i->Wf K (fixF D next d f k i)
 |0,_,_,h=>h
 |f+1,k,i,h=>by
  unfold fixF;split
  .exact h
  .refine Ce hn d f (k+1) _ ?_
   split
   .exact Rz K.wwiden h (mr h (hn _ h))
   .exact mr h (hn _ h)
def wS:Nat->(Nat->Nat)->Nat
 |0,_=>0
 |n+1,f=>wS n f+f n
theorem Kg{f g:Nat->Nat}:∀(n:Nat),(∀k,k<n->f k<=g k)->wS n f<=wS n g
 |0,_=>È
 |n+1,h=>by have:=Kg n (λk hk=>h k À);have:=h n À;show wS n f+f n<=wS n g+g n;omega
theorem JY{f g:Nat->Nat}:∀(n:Nat),(∀k,k<n->f k<=g k)->(∃k,k<n/\f k<g k)->wS n f<wS n g
 |0,_,⟨_,h,_⟩=>absurd h À
 |n+1,h,⟨k,hk,df⟩=>by
  show wS n f+f n<wS n g+g n;have h1:=h n À;by_cases e:k=n
  .subst e
   have:=Kg k (λk hk=>h k À);omega
  .have:=JY n (λk hk=>h k À) ⟨k,À,df⟩
   omega
theorem Fo{f:Nat->Nat}:∀(n:Nat),(∀k,k<n->f k<=m)->wS n f<=n*m
 |0,_=>Ì
 |n+1,h=>by have:=Fo n (λk hk=>h k À);have:=h n À;show wS n f+f n<=(n+1)*m;rw[Nat.add_mul];omega
variable (K) in
def ù(e:D.Env)(k:Nat):Nat:=if h:k<8 then K.rk (e ⟨k,h⟩) else 0
variable (K) in
def RX(e:D.Env):Nat:=wS 8 (ù K e)
theorem NN{e:D.Env}(h:∀k,K.wf (e k)):RX K e<=8*K.top:=by refine Fo 8 (λk hk=>?_);unfold ù;rw[dif_pos hk];exact K.le _ (h _)
theorem Wi{e g:D.Env}(h:∀k,K.rk (e k)<=K.rk (g k))(db:∃k,K.rk (e k)<K.rk (g k)):RX K e<RX K g:=by
 refine JY 8 (λk hk=>?_) ?_
 .unfold ù
  rw[dif_pos hk,dif_pos hk];exact h _
 .obtain⟨k,hk⟩:=db
  exact⟨k.val,k.isLt,by unfold ù;rw[dif_pos k.isLt,dif_pos k.isLt];exact hk⟩
theorem Bo{e n:D.Env}(he:∀k,K.wf (e k))(hn:∀k,K.wf (n k))(db:¬(λk=>D.join (e k) (n k))=e):∀g:D.Env,(∀k,K.rk (D.join (e k) (n k))<=K.rk (g k))->RX K e<RX K g:=by
 intro g hg;have h1:∀k,K.rk (e k)<=K.rk (D.join (e k) (n k)):=λk=>by
  have hd:=D.dec (D.join (e k) (n k)) (e k);by_cases h:D.join (e k) (n k)=e k
  .rw[h];exact È
  .exact Nat.le_of_lt (K.join_lt _ _ (he k) (hn k) h)
 refine Wi (λk=>Nat.le_trans (h1 k) (hg k)) ?_;refine Classical.byContradiction λQo=>db (funext λk=>?_)
 refine Classical.byContradiction λh=>Qo ⟨k,Nat.lt_of_lt_of_le (K.join_lt _ _ (he k) (hn k) h) (hg k)⟩
def pH(D:rv)(next:D.St->D.St)(d k:Nat)(i:D.St):D.St:=if d<k then o6 D D.widen i (jn D i (next i)) else jn D i (next i)
theorem qx(D:rv)(next:D.St->D.St)(d f k:Nat)(i:D.St):fixF D next d (f+1) k i=if IG D (jn D i (next i)) i=true then i else fixF D next d f (k+1) (pH D next d k i):=rfl
theorem AR{next:D.St->D.St}{e:D.Env}(he:∀k,K.wf (e k))(hn:Wf K (next (Y e)))(d k:Nat)(db:¬jn D (Y e) (next (Y e))=Y e):∃g:D.Env,pH D next d k (Y e)=Y g/\(∀k,K.wf (g k))/\RX K e<RX K g:=by
 cases hx:next (Y e) with
 |none=>rw[hx]at db;exact absurd rfl db
 |some n=>
  rw[hx]at db hn;have hn:=hn n rfl;have F6:¬(λk=>D.join (e k) (n k))=e:=λh=>db (by show Y _=Y e;rw[h])
  unfold pH;rw[hx];by_cases hk:d<k
  .rw[Á hk]
   exact⟨_,rfl,λk=>K.wwiden _ _ (he k) (K.wjoin _ _ (he k) (hn k)),Bo he hn F6 _ (λk=>K.widen_le _ _ (he k) (hn k))⟩
  .rw[Â hk]
   exact⟨_,rfl,λk=>K.wjoin _ _ (he k) (hn k),Bo he hn F6 _ (λk=>È)⟩
theorem yJ{next:D.St->D.St}(hn:∀i,Wf K i->Wf K (next i))(d:Nat):∀(f k:Nat) (e:D.Env),(∀k,K.wf (e k))->8*K.top<RX K e+f->∃g:D.Env,fixF D next d f k (Y e)=Y g/\jn D (Y g) (next (Y g))=Y g
 |0,_,e,he,hf=>by have:=NN he;omega
 |f+1,k,e,he,hf=>by
  rw[qx];by_cases h:IG D (jn D (Y e) (next (Y e))) (Y e)=true
  .rw[Á h]
   exact⟨e,rfl,(oL D _ _).1 h⟩
  .rw[Â h]
   obtain⟨g,h1,h2,h3⟩:=AR he (hn _ (Wf.some he)) d k (λh'=>h ((oL D _ _).2 h'));rw[h1];exact yJ hn d f (k+1) g h2 À
theorem BD{next:D.St->D.St}(hn:next M=M)(d:Nat):∀(f k:Nat),fixF D next d f k M=M
 |0,_=>rfl
 |f+1,k=>by rw[qx,hn];exact Á rfl
variable (K) in
def sk(s i:D.St):Prop:=∀e,s=Y e->∃g,i=Y g/\∀k,K.sub (e k) (g k)
theorem x8{s t u:D.St}(h:sk K s t)(k:sk K t u):sk K s u:=λe he=>by obtain⟨g,hg,h1⟩:=h e he;obtain⟨q,hq,h2⟩:=k g hg;exact⟨q,hq,λk=>K.sub_trans _ _ _ (h1 k) (h2 k)⟩
theorem yw(s t:D.St):sk K s (jn D s t):=λe he=>by
 subst he;cases t with
 |none=>exact⟨e,rfl,λ_=>K.sub_refl _⟩
 |some t=>exact⟨_,rfl,λ_=>K.sub_joinl _ _⟩
theorem Od(s t:D.St):sk K t (jn D s t):=λe he=>by
 subst he;cases s with
 |none=>exact⟨e,rfl,λ_=>K.sub_refl _⟩
 |some s=>exact⟨_,rfl,λ_=>K.sub_joinr _ _⟩
theorem AM{e:D.Env}(we:∀k,K.wf (e k)){i n:D.St}(wi:Wf K i)(wn:Wf K n)(hi:sk K (Y e) i)(hn:sk K (Y e) n):Wf K (o6 D D.narrow i n)/\sk K (Y e) (o6 D D.narrow i n):=by obtain⟨g,rfl,h1⟩:=hi e rfl;obtain⟨q,rfl,h2⟩:=hn e rfl;exact⟨Wf.some λk=>K.wnarrow _ _ _ (wi _ rfl k) (wn _ rfl k) (we k) (h1 k) (h2 k),λe' Ad=>by cases Ad;exact⟨_,rfl,λk=>K.sub_narrow _ _ _ (h1 k) (h2 k)⟩⟩
theorem JZ{cond:gr D}{body:gZ D}(hc:gB K cond)(hb:fJ K body){e:D.Env}(we:∀k,K.wf (e k)):∀(n:Nat) (i:D.St),Wf K i->sk K (Y e) i->Wf K (KM D (kK D cond body (Y e)) n i)/\sk K (Y e) (KM D (kK D cond body (Y e)) n i)
 |0,_,h,k=>⟨h,k⟩
 |n+1,i,h,k=>by obtain⟨h1,h2⟩:=AM we h (zg hc hb (Wf.some we) h) k (yw _ _);exact JZ hc hb we n _ h1 h2
theorem Bx{next:D.St->D.St}:∀(n:Nat),KM D next n M=M
 |0=>rfl
 |n+1=>Bx n
def uG(cond:gr D):Prop:=cond M=([],M,M)
def rT(body:gZ D):Prop:=body M=([],M)
theorem Mq{cond:gr D}{body:gZ D}(hc:uG cond)(hb:rT body):mU D P cond body M=M:=by
 unfold mU;have hn:kK D cond body M M=M:=by unfold kK;rw[hc,hb];rfl
 rw[BD hn,Bx]
theorem J4{cond:gr D}{body:gZ D}{s i:D.St}(h:jn D i (kK D cond body s i)=i):sk K s i:=by
 have h1:=x8 (K:=K) (yw s _) (Od i (kK D cond body s i))
 rwa[h]at h1
theorem ux{cond:gr D}{body:gZ D}(hc:gB K cond)(hb:fJ K body){e:D.Env}(we:∀k,K.wf (e k)):Wf K (mU D P cond body (Y e))/\sk K (Y e) (mU D P cond body (Y e)):=by
 have hn:∀i,Wf K i->Wf K (kK D cond body (Y e) i):=λi hi=>zg hc hb (Wf.some we) hi
 obtain⟨i,h1,h2⟩:=yJ hn P.ao D.fuel 1 e we (by have:=K.fuel;omega);have wi:=Ce hn P.ao D.fuel 1 (Y e) (Wf.some we);unfold mU;rw[h1]at wi⊢;exact JZ hc hb we _ _ wi (J4 h2)
theorem JA{cond:gr D}{body:gZ D}(hc:gB K cond)(hb:fJ K body)(nc:uG cond)(nb:rT body){s:D.St}(hs:Wf K s):Wf K (mU D P cond body s):=by
 cases s with
 |none=>rw[Mq nc nb];exact eL
 |some e=>exact(ux hc hb (hs _ rfl)).1
theorem JJ{cond:gr D}{body:gZ D}(hc:gB K cond)(hb:fJ K body)(p:Int):∀(n:Nat) (out s:D.St),Wf K out->Wf K s->Wf K (kG D cond body p n out s).2.1/\Wf K (kG D cond body p n out s).2.2
 |0,_,_,ho,hs=>⟨ho,hs⟩
 |n+1,_,_,ho,hs=>JJ hc hb p n _ _ (mr ho (hc _ hs).2) (hb _ (hc _ hs).1)
theorem He{cond:gr D}{body:gZ D}(hc:gB K cond)(hb:fJ K body)(nc:uG cond)(nb:rT body)(p:Int){s:D.St}(hs:Wf K s):Wf K (tz D P cond body p s).2:=by obtain⟨h1,h2⟩:=JJ hc hb p P.aj M s eL hs;exact mr h1 (hc _ (JA hc hb nc nb h2)).2
theorem uP{p:Int}{f:D.Env->xK D}(hf:∀e,(∀k,K.wf (e k))->Wf K (f e).2){s:D.St}(hs:Wf K s):Wf K (QV D p f s).2:=by
 cases s with
 |none=>exact eL
 |some e=>exact hf e (hs _ rfl)
theorem jc(P:z7):∀(t:Bl) (ct:Ct),cJ D P t ct M=([],M)
 |.nil,_=>rfl
 |.assign k x t,ct=>by show gJ D ([],M) (cJ D P t _)=_;unfold gJ;rw[jc P t];rfl
 |.read k t,ct=>by show gJ D ([],M) (cJ D P t _)=_;unfold gJ;rw[jc P t];rfl
 |.assert k x y t,ct=>by show gJ D ([],M) (cJ D P t _)=_;unfold gJ;rw[jc P t];rfl
 |.ite k x y xs true ys t,ct=>by show gJ D ([],M) (cJ D P t _)=_;unfold gJ;rw[jc P t];rfl
 |.ite k x y xs false ys t,ct=>by show gJ D ([],M) (cJ D P t _)=_;unfold gJ;rw[jc P t];rfl
 |.loop k x y xs t,ct=>by show gJ D ([],M) (cJ D P t _)=_;unfold gJ;rw[jc P t];rfl
theorem gH(P:z7):∀(t:Bl) (_:vJ t) (ct:Ct) (s:D.St),Wf K s->Wf K (cJ D P t ct s).2
 |.nil,_,_,_,hs=>hs
 | .assign k x t,hn,ct,s,hs=>gH P t (λn h=>hn n (by simp[jb,h])) _ _ (uP (λe he=>by
   unfold pF;intro e' h';cases hv:(dJ D x (aD ct) e).2 with
   |none=>simp[hv]at h'
   |some v=>simp[hv]at h';subst h';exact wf_set he k (j6 x (λn h=>hn n (by simp[jb,h])) _ e he v hv)) hs)
 |.read k t,hn,ct,s,hs=>gH P t (λn h=>hn n (by simp[jb,h])) _ _ (uP (λe he=>Wf.some (wf_set he k K.wwhole)) hs)
 |.assert k x y t,hn,ct,s,hs=>gH P t (λn h=>hn n (by simp[jb,h])) _ _ (uP (λe he=>(mw (λn h=>hn n (by simp[jb,h])) (λn h=>hn n (by simp[jb,h])) (Wf.some he)).1) hs)
 |.ite k x y xs true ys t,hn,ct,s,hs=>gH P t (λn h=>hn n (by simp[jb,h])) _ _ (uP (λe he=>by have hc:=mw (k:=k) (ct:=aD ct) (K:=K) (x:=x) (y:=y) (λn h=>hn n (by simp[jb,h])) (λn h=>hn n (by simp[jb,h])) (Wf.some he);exact mr (gH P xs (λn h=>hn n (by simp[jb,h])) _ _ hc.1) (gH P ys (λn h=>hn n (by simp[jb,h])) _ _ hc.2)) hs)
 |.ite k x y xs false ys t,hn,ct,s,hs=>gH P t (λn h=>hn n (by simp[jb,h])) _ _ (uP (λe he=>by have hc:=mw (k:=k) (ct:=aD ct) (K:=K) (x:=x) (y:=y) (λn h=>hn n (by simp[jb,h])) (λn h=>hn n (by simp[jb,h])) (Wf.some he);exact mr (gH P xs (λn h=>hn n (by simp[jb,h])) _ _ hc.1) hc.2) hs)
 |.loop k x y xs t,hn,ct,s,hs=>gH P t (λn h=>hn n (by simp[jb,h])) _ _ (uP (λe he=>He (λs hs=>mw (λn h=>hn n (by simp[jb,h])) (λn h=>hn n (by simp[jb,h])) hs) (λs hs=>gH P xs (λn h=>hn n (by simp[jb,h])) _ s hs) rfl (jc P xs _) _ (Wf.some he)) hs)
end
end
end Sp
end
namespace Sp
theorem yt(D:rv)(k:Nat)(x y:Sm)(ct:Ct)(s:D.Env)(es:List (fG D.V))(h:dJ D x ct s=(es,M)):dJ D (.bin k x y) ct s=(es,M):=by unfold dJ;rw[h]
theorem uA(D:rv)(k:Nat)(x y:Sm)(ct:Ct)(s:D.Env)(es:List (fG D.V))(a:D.V)(dU:List (fG D.V))(h:dJ D x ct s=(es,Y a))(h2:dJ D y (if 3<=k then aL (cS x ct) else cS x ct) s=(dU,M)):dJ D (.bin k x y) ct s=(es++dU,M):=by unfold dJ;rw[h];simp only;rw[h2]
theorem Qb(D:rv)(k:Nat)(x y:Sm)(ct:Ct)(s:D.Env)(es:List (fG D.V))(a:D.V)(dU:List (fG D.V))(c:D.V)(h:dJ D x ct s=(es,Y a))(h2:dJ D y (if 3<=k then aL (cS x ct) else cS x ct) s=(dU,Y c))(h3:3<=k):dJ D (.bin k x y) ct s=(es++dU++[.site (cS x ct).2 (D.nought c)],D.work k a c):=by unfold dJ;rw[h];simp only;rw[h2];simp only;rw[Á h3]
theorem NU(D:rv)(k:Nat)(x y:Sm)(ct:Ct)(s:D.Env)(es:List (fG D.V))(a:D.V)(dU:List (fG D.V))(c:D.V)(h:dJ D x ct s=(es,Y a))(h2:dJ D y (if 3<=k then aL (cS x ct) else cS x ct) s=(dU,Y c))(h3:¬3<=k):dJ D (.bin k x y) ct s=(es++dU,D.work k a c):=by unfold dJ;rw[h];simp only;rw[h2];simp only;rw[Â h3,List.append_nil]
theorem y5(D:rv)(k r:Nat)(y:D.V)(e:D.Env)(h:D.bound r (pV D e k) y=M):sd D (.name k) r y (Y e)=M:=by unfold sd;simp only;rw[h]
theorem sT(D:rv)(k r:Nat)(y:D.V)(e:D.Env)(v:D.V)(h:D.bound r (pV D e k) y=Y v):sd D (.name k) r y (Y e)=Y (iK D e k v):=by unfold sd;simp only;rw[h]
theorem wA(D:rv)(r:Nat)(x y:Sm)(a b:D.V)(e:D.Env)(h:D.may r a b=false):gk D r x y a b e=M:=by unfold gk;rw[Â (by rw[h];simp)]
theorem FF(D:rv)(r:Nat)(x y:Sm)(a b:D.V)(e:D.Env)(h:D.may r a b=true):gk D r x y a b e=sd D y (eh r) a (sd D x r b (Y e)):=by unfold gk;rw[Á h]
theorem U6(D:rv)(k:Nat)(x y:Sm)(ct:Ct)(e:D.Env)(es:List (fG D.V))(h:dJ D x ct e=(es,M)):dK D k x y ct (Y e)=(es,M,M):=by unfold dK;simp only;rw[h]
theorem Wh(D:rv)(k:Nat)(x y:Sm)(ct:Ct)(e:D.Env)(es:List (fG D.V))(a:D.V)(dU:List (fG D.V))(h:dJ D x ct e=(es,Y a))(h2:dJ D y (cS x ct) e=(dU,M)):dK D k x y ct (Y e)=(es++dU,M,M):=by unfold dK;simp only;rw[h];simp only;rw[h2]
theorem Vr(D:rv)(k:Nat)(x y:Sm)(ct:Ct)(e:D.Env)(es:List (fG D.V))(a:D.V)(dU:List (fG D.V))(c:D.V)(h:dJ D x ct e=(es,Y a))(h2:dJ D y (cS x ct) e=(dU,Y c)):dK D k x y ct (Y e)=(es++dU,gk D k x y a c e,gk D (yZ k) x y a c e):=by unfold dK;simp only;rw[h];simp only;rw[h2]
end Sp
section
namespace Sp
def nS:Sm->Nat
 |.num _=>0
 |.name _=>0
 |.neg x=>nS x
 |.bin k x y=>nS x+(if 3<=k then 1 else 0)+nS y
def pB:Bl->Nat
 |.nil=>0
 |.assign _ _ t=>1+pB t
 |.read _ t=>1+pB t
 |.assert _ _ _ t=>1+pB t
 |.ite _ _ _ xs els ys t=>1+pB xs+(if els then pB ys else 0)+pB t
 |.loop _ _ _ xs t=>1+pB xs+pB t
def qB:Bl->Nat
 |.nil=>0
 |.assign _ x t=>nS x+qB t
 |.read _ t=>qB t
 |.assert _ x y t=>1+nS x+nS y+qB t
 |.ite _ x y xs els ys t=>nS x+nS y+qB xs+(if els then qB ys else 0)+qB t
 |.loop _ x y xs t=>nS x+nS y+qB xs+qB t
theorem ep{ct:Ct}(h:0<=ct.1)(h':ct.1<=1000000):aD ct=(ct.1+1,ct.2):=by unfold aD RowKit.wrap64;simp;omega
theorem mV{ct:Ct}(h:0<=ct.2)(h':ct.2<=1000000):aL ct=(ct.1,ct.2+1):=by unfold aL RowKit.wrap64;simp;omega
theorem dS:∀(x:Sm) (ct:Ct),0<=ct.2->ct.2+nS x<=1000000->cS x ct=(ct.1,ct.2+nS x)
 |.num _,ct,_,_=>by simp[cS,nS]
 |.name _,ct,_,_=>by simp[cS,nS]
 |.neg x,ct,h,h'=>dS x ct h h'
 |.bin k x y,ct,h,h'=>by
  have h'':ct.2+((nS x+(if 3<=k then 1 else 0)+nS y:Nat):Int)<=1000000:=h';show cS y (if 3<=k then aL (cS x ct) else cS x ct)=(ct.1,ct.2+((nS x+(if 3<=k then 1 else 0)+nS y:Nat):Int));rw[dS x ct h (by split at h''<;>omega)];by_cases h3:3<=k
  .rw[Á h3,Á h3]at*
   rw[mV (by simp;omega) (by simp;omega)];rw[dS y _ (by simp;omega) (by simp;omega)];simp;omega
  .rw[Â h3,Â h3]at*
   rw[dS y _ (by simp;omega) (by simp;omega)];simp;omega
def Small(ct:Ct)(n m:Nat):Prop:=0<=ct.1/\0<=ct.2/\ct.1+n<=1000000/\ct.2+m<=1000000
theorem gp:∀(t:Bl) (ct:Ct),Small ct (pB t) (qB t)->cB t ct=(ct.1+pB t,ct.2+qB t)
 |.nil,ct,_=>by simp[cB,pB,qB]
 |.assign _ x t,ct,⟨h1,h2,h3,h4⟩=>by simp only[pB,qB]at h3 h4;show cB t (cS x (aD ct))=_;rw[ep h1 À,dS x (ct.1+1,ct.2) h2 (by simp;omega),gp t _ ⟨by simp;omega,by simp;omega,by simp;omega,by simp;omega⟩];simp[pB,qB];omega
 |.read _ t,ct,⟨h1,h2,h3,h4⟩=>by simp only[pB,qB]at h3 h4;show cB t (aD ct)=_;rw[ep h1 À,gp t _ ⟨by simp;omega,by simp;omega,by simp;omega,by simp;omega⟩];simp[pB,qB];omega
 |.assert _ x y t,ct,⟨h1,h2,h3,h4⟩=>by simp only[pB,qB]at h3 h4;show cB t (cS y (cS x (aL (aD ct))))=_;rw[ep h1 À,mV (by simp;omega) (by simp;omega),dS x _ (by simp;omega) (by simp;omega),dS y _ (by simp;omega) (by simp;omega),gp t _ ⟨by simp;omega,by simp;omega,by simp;omega,by simp;omega⟩];simp[pB,qB];omega
 |.ite _ x y xs true ys t,ct,⟨h1,h2,h3,h4⟩=>by simp only[pB,qB,if_true]at h3 h4;show cB t (cB ys (cB xs (cS y (cS x (aD ct)))))=_;rw[ep h1 À,dS x _ (by simp;omega) (by simp;omega),dS y _ (by simp;omega) (by simp;omega),gp xs _ ⟨by simp;omega,by simp;omega,by simp;omega,by simp;omega⟩,gp ys _ ⟨by simp;omega,by simp;omega,by simp;omega,by simp;omega⟩,gp t _ ⟨by simp;omega,by simp;omega,by simp;omega,by simp;omega⟩];simp[pB,qB];omega
 |.ite _ x y xs false ys t,ct,⟨h1,h2,h3,h4⟩=>by simp only[pB,qB]at h3 h4;show cB t (cB xs (cS y (cS x (aD ct))))=_;simp at h3 h4;rw[ep h1 À,dS x _ (by simp;omega) (by simp;omega),dS y _ (by simp;omega) (by simp;omega),gp xs _ ⟨by simp;omega,by simp;omega,by simp;omega,by simp;omega⟩,gp t _ ⟨by simp;omega,by simp;omega,by simp;omega,by simp;omega⟩];simp[pB,qB];omega
 |.loop _ x y xs t,ct,⟨h1,h2,h3,h4⟩=>by simp only[pB,qB]at h3 h4;show cB t (cB xs (cS y (cS x (aD ct))))=_;rw[ep h1 À,dS x _ (by simp;omega) (by simp;omega),dS y _ (by simp;omega) (by simp;omega),gp xs _ ⟨by simp;omega,by simp;omega,by simp;omega,by simp;omega⟩,gp t _ ⟨by simp;omega,by simp;omega,by simp;omega,by simp;omega⟩];simp[pB,qB];omega
section
variable {D: rv}
section
variable{p:Int}
def jN(lo hi:Ct):fG D.V->Prop
 |.aA p _=>lo.1<=p/\p<hi.1
 |.site q _=>lo.2<=q/\q<hi.2
theorem jN.mono{lo hi Dx pw:Ct}{x:fG D.V}(h:jN lo hi x)(h1:Dx.1<=lo.1)(h2:Dx.2<=lo.2)(h3:hi.1<=pw.1)(h4:hi.2<=pw.2):jN Dx pw x:=by
 cases x with
 |aA p s=>exact⟨Int.le_trans h1 h.1,Int.lt_of_lt_of_le h.2 h3⟩
 |site q b=>exact⟨Int.le_trans h2 h.1,Int.lt_of_lt_of_le h.2 h4⟩
theorem rL:∀(x:Sm) (ct:Ct) (e:D.Env),0<=ct.2->ct.2+nS x<=1000000->∀ev∈(dJ D x ct e).1,jN ct (ct.1,ct.2+nS x) ev
 |.num _,_,_,_,_,ev,h=>by cases h
 |.name _,_,_,_,_,ev,h=>by cases h
 |.neg x,ct,e,h1,h2,ev,h=>rL x ct e h1 h2 ev h
 |.bin k x y,ct,e,h1,h2,ev,h=>by
  have Gq:ct.2+((nS x+(if 3<=k then 1 else 0)+nS y:Nat):Int)<=1000000:=h2;have hx:=rL x ct e h1 (by split at Gq<;>omega);have ec:=dS x ct h1 (by split at Gq<;>omega);have tZ:∀ev∈(dJ D x ct e).1,jN ct (ct.1,ct.2+(nS (.bin k x y):Nat)) ev:=λev h=>(hx ev h).mono Ò Ò Ò (by show ct.2+(nS x:Int)<=ct.2+((nS x+(if 3<=k then 1 else 0)+nS y:Nat):Int);omega)
  have Xh:∀ev∈(dJ D y (if 3<=k then aL (cS x ct) else cS x ct) e).1,jN ct (ct.1,ct.2+(nS (.bin k x y):Nat)) ev:=by
   rw[ec];intro ev h;by_cases h3:3<=k
   .rw[Á h3]at h Gq
    rw[mV (by simp;omega) (by simp;omega)]at h;refine(rL y _ e (by simp;omega) (by simp;omega) ev h).mono Ò (by simp;omega) Ò ?_;simp[nS,h3];omega
   .rw[Â h3]at h Gq
    refine(rL y _ e (by simp;omega) (by simp;omega) ev h).mono Ò (by simp;omega) Ò ?_;simp[nS,h3];omega
  unfold dJ at h;split at h
  .next e1 k1=>exact tZ ev (by rw[k1];exact h)
  .next e1 a k1=>
   split at h
   .next e2 k2=>
    rcases List.mem_append.1 h with h|h
    .exact tZ ev (by rw[k1];exact h)
    .exact Xh ev (by rw[k2];exact h)
   .next e2 b k2=>
    rcases List.mem_append.1 h with h|h
    .rcases List.mem_append.1 h with h|h
     .exact tZ ev (by rw[k1];exact h)
     .exact Xh ev (by rw[k2];exact h)
    .by_cases h3:3<=k
     .rw[Á h3]at h
      have:=Ö.1 h;subst this;rw[ec];simp[jN,nS,h3];omega
     .rw[Â h3]at h
      cases h
theorem CU(k:Nat)(x y:Sm)(ct:Ct)(s:D.St)(h1:0<=ct.2)(h2:ct.2+nS x+nS y<=1000000):∀ev∈(dK D k x y ct s).1,jN ct (ct.1,ct.2+nS x+nS y) ev:=by
 intro ev h;have ec:=dS x ct h1 À;cases s with
 |none=>cases h
 |some e=>
  have tZ:∀ev∈(dJ D x ct e).1,jN ct (ct.1,ct.2+nS x+nS y) ev:=λev h=>(rL x ct e h1 À ev h).mono Ò Ò Ò (by simp;omega)
  have Xh:∀ev∈(dJ D y (cS x ct) e).1,jN ct (ct.1,ct.2+nS x+nS y) ev:=λev h=>by rw[ec]at h;exact(rL y _ e (by simp;omega) (by simp;omega) ev h).mono Ò (by simp;omega) Ò Ä
  unfold dK at h;simp only at h;split at h
  .next e1 k1=>exact tZ ev (by rw[k1];exact h)
  .next e1 a k1=>
   split at h
   .next e2 k2=>
    rcases List.mem_append.1 h with h|h
    .exact tZ ev (by rw[k1];exact h)
    .exact Xh ev (by rw[k2];exact h)
   .next e2 b k2=>
    rcases List.mem_append.1 h with h|h
    .exact tZ ev (by rw[k1];exact h)
    .exact Xh ev (by rw[k2];exact h)
theorem Em{Q:fG D.V->Prop}{cond:gr D}{body:gZ D}(hp:∀e,Q (.aA p e))(hc:∀s,∀ev∈(cond s).1,Q ev)(hb:∀s,∀ev∈(body s).1,Q ev):∀(n:Nat) (out s:D.St),∀ev∈(kG D cond body p n out s).1,Q ev
 |0,_,_,ev,h=>by cases h
 |n+1,out,s,ev,h=>by
  have h:ev∈qW D p s++(cond s).1++(body (cond s).2.1).1++(kG D cond body p n (jn D out (cond s).2.2) (body (cond s).2.1).2).1:=h
  rcases List.mem_append.1 h with h|h
  .rcases List.mem_append.1 h with h|h
   .rcases List.mem_append.1 h with h|h
    .cases s with
     |none=>cases h
     |some e=>have:=Ö.1 h;subst this;exact hp e
    .exact hc _ ev h
   .exact hb _ ev h
  .exact Em hp hc hb n _ _ ev h
theorem Sc{Q:fG D.V->Prop}{P:z7}{cond:gr D}{body:gZ D}(hp:∀e,Q (.aA p e))(hc:∀s,∀ev∈(cond s).1,Q ev)(hb:∀s,∀ev∈(body s).1,Q ev)(s:D.St):∀ev∈(tz D P cond body p s).1,Q ev:=by
 intro ev h;have h:ev∈(kG D cond body p P.aj M s).1++qW D p (mU D P cond body (kG D cond body p P.aj M s).2.2)++(cond (mU D P cond body (kG D cond body p P.aj M s).2.2)).1++(body (cond (mU D P cond body (kG D cond body p P.aj M s).2.2)).2.1).1:=h
 rcases List.mem_append.1 h with h|h
 .rcases List.mem_append.1 h with h|h
  .rcases List.mem_append.1 h with h|h
   .exact Em hp hc hb _ _ _ ev h
   .cases hi:mU D P cond body (kG D cond body p P.aj M s).2.2 with
    |none=>rw[hi]at h;cases h
    |some e=>rw[hi]at h;have:=Ö.1 h;subst this;exact hp e
  .exact hc _ ev h
 .exact hb _ ev h
theorem qH{Q:fG D.V->Prop}{f:D.Env->xK D}(hp:∀e,Q (.aA p e))(hf:∀e,∀ev∈(f e).1,Q ev){g:D.St->xK D}(hg:∀s,∀ev∈(g s).1,Q ev)(s:D.St):∀ev∈(gJ D (QV D p f s) g).1,Q ev:=by
 intro ev h
 rcases List.mem_append.1 h with h|h
 .cases s with
  |none=>cases h
  |some e=>
   rcases List.mem_cons.1 h with rfl|h
   .exact hp e
   .exact hf e ev h
 .exact hg _ ev h
theorem j0(P:z7):∀(t:Bl) (ct:Ct) (_:Small ct (pB t) (qB t)) (s:D.St),∀ev∈(cJ D P t ct s).1,jN ct (ct.1+pB t,ct.2+qB t) ev
 |.nil,_,_,_,ev,h=>by cases h
 |.assign k x t,ct,⟨h1,h2,h3,h4⟩,s,ev,h=>by
  simp only[pB,qB]at h3 h4;have e0:=ep h1 À;have ec:=dS x (aD ct) (by rw[e0];exact h2) (by rw[e0];simp;omega);refine qH (Q:=jN ct (ct.1+pB (.assign k x t),ct.2+qB (.assign k x t))) (λe=>?_) (λe ev h=>?_) (λs ev h=>?_) s ev h
  .simp[jN,pB];omega
  .refine(rL x (aD ct) e (by rw[e0];exact h2) (by rw[e0];simp;omega) ev h).mono ?_ ?_ ?_ ?_<;>(rw[e0];simp[pB,qB];try omega)
  .rw[ec,e0]at h
   refine(j0 P t _ ⟨by simp;omega,by simp;omega,by simp;omega,by simp;omega⟩ s ev h).mono ?_ ?_ ?_ ?_<;>(simp[pB,qB];try omega)
 |.read k t,ct,⟨h1,h2,h3,h4⟩,s,ev,h=>by
  simp only[pB,qB]at h3 h4;have e0:=ep h1 À;refine qH (Q:=jN ct (ct.1+pB (.read k t),ct.2+qB (.read k t))) (λe=>?_) (λe ev h=>?_) (λs ev h=>?_) s ev h
  .simp[jN,pB];omega
  .cases h
  .rw[e0]at h
   refine(j0 P t _ ⟨by simp;omega,by simp;omega,by simp;omega,by simp;omega⟩ s ev h).mono ?_ ?_ ?_ ?_<;>(simp[pB,qB];try omega)
 |.assert k x y t,ct,⟨h1,h2,h3,h4⟩,s,ev,h=>by
  simp only[pB,qB]at h3 h4;have e0:aL (aD ct)=(ct.1+1,ct.2+1):=by rw[ep h1 À,mV (by simp;omega) (by simp;omega)]
  have ec:cS y (cS x (aL (aD ct)))=(ct.1+1,ct.2+1+nS x+nS y):=by rw[e0,dS x _ (by simp;omega) (by simp;omega),dS y _ (by simp;omega) (by simp;omega)]
  refine qH (Q:=jN ct (ct.1+pB (.assert k x y t),ct.2+qB (.assert k x y t))) (λe=>?_) (λe ev h=>?_) (λs ev h=>?_) s ev h
  .simp[jN,pB];omega
  .rcases List.mem_append.1 h with h|h
   .refine(CU k x y _ (Y e) (by rw[e0];simp;omega) (by rw[e0];simp;omega) ev h).mono ?_ ?_ ?_ ?_<;>(rw[e0];simp[pB,qB];try omega)
   .have:=Ö.1 h
    subst this;simp[jN,qB];omega
  .rw[ec]at h
   refine(j0 P t _ ⟨by simp;omega,by simp;omega,by simp;omega,by simp;omega⟩ s ev h).mono ?_ ?_ ?_ ?_<;>(simp[pB,qB];try omega)
 |.ite k x y xs true ys t,ct,⟨h1,h2,h3,h4⟩,s,ev,h=>by
  simp only[pB,qB,if_true]at h3 h4;have e0:=ep h1 À;have ec:cS y (cS x (aD ct))=(ct.1+1,ct.2+nS x+nS y):=by rw[e0,dS x _ (by simp;omega) (by simp;omega),dS y _ (by simp;omega) (by simp;omega)]
  have ex:=gp xs (ct.1+1,ct.2+nS x+nS y) ⟨by simp;omega,by simp;omega,by simp;omega,by simp;omega⟩;refine qH (Q:=jN ct (ct.1+pB (.ite k x y xs true ys t),ct.2+qB (.ite k x y xs true ys t))) (λe=>?_) (λe ev h=>?_) (λs ev h=>?_) s ev h
  .simp[jN,pB];omega
  .rcases List.mem_append.1 h with h|h
   .rcases List.mem_append.1 h with h|h
    .refine(CU k x y _ (Y e) (by rw[e0];simp;omega) (by rw[e0];simp;omega) ev h).mono ?_ ?_ ?_ ?_<;>(rw[e0];simp[pB,qB];try omega)
    .rw[ec]at h
     refine(j0 P xs _ ⟨by simp;omega,by simp;omega,by simp;omega,by simp;omega⟩ _ ev h).mono ?_ ?_ ?_ ?_<;>(simp[pB,qB];try omega)
   .rw[ec,ex]at h
    refine(j0 P ys _ ⟨by simp;omega,by simp;omega,by simp;omega,by simp;omega⟩ _ ev h).mono ?_ ?_ ?_ ?_<;>(simp[pB,qB];try omega)
  .rw[ec,ex]at h
   rw[gp ys _ ⟨by simp;omega,by simp;omega,by simp;omega,by simp;omega⟩]at h;refine(j0 P t _ ⟨by simp;omega,by simp;omega,by simp;omega,by simp;omega⟩ s ev h).mono ?_ ?_ ?_ ?_<;>(simp[pB,qB];try omega)
 |.ite k x y xs false ys t,ct,⟨h1,h2,h3,h4⟩,s,ev,h=>by
  simp only[pB,qB]at h3 h4;simp at h3 h4;have e0:=ep h1 À;have ec:cS y (cS x (aD ct))=(ct.1+1,ct.2+nS x+nS y):=by rw[e0,dS x _ (by simp;omega) (by simp;omega),dS y _ (by simp;omega) (by simp;omega)]
  have ex:=gp xs (ct.1+1,ct.2+nS x+nS y) ⟨by simp;omega,by simp;omega,by simp;omega,by simp;omega⟩;refine qH (Q:=jN ct (ct.1+pB (.ite k x y xs false ys t),ct.2+qB (.ite k x y xs false ys t))) (λe=>?_) (λe ev h=>?_) (λs ev h=>?_) s ev h
  .simp[jN,pB];omega
  .rcases List.mem_append.1 h with h|h
   .rcases List.mem_append.1 h with h|h
    .refine(CU k x y _ (Y e) (by rw[e0];simp;omega) (by rw[e0];simp;omega) ev h).mono ?_ ?_ ?_ ?_<;>(rw[e0];simp[pB,qB];try omega)
    .rw[ec]at h
     refine(j0 P xs _ ⟨by simp;omega,by simp;omega,by simp;omega,by simp;omega⟩ _ ev h).mono ?_ ?_ ?_ ?_<;>(simp[pB,qB];try omega)
   .cases h
  .rw[ec,ex]at h
   refine(j0 P t _ ⟨by simp;omega,by simp;omega,by simp;omega,by simp;omega⟩ s ev h).mono ?_ ?_ ?_ ?_<;>(simp[pB,qB];try omega)
 |.loop k x y xs t,ct,⟨h1,h2,h3,h4⟩,s,ev,h=>by
  simp only[pB,qB]at h3 h4;have e0:=ep h1 À;have ec:cS y (cS x (aD ct))=(ct.1+1,ct.2+nS x+nS y):=by rw[e0,dS x _ (by simp;omega) (by simp;omega),dS y _ (by simp;omega) (by simp;omega)]
  have ex:=gp xs (ct.1+1,ct.2+nS x+nS y) ⟨by simp;omega,by simp;omega,by simp;omega,by simp;omega⟩;refine qH (Q:=jN ct (ct.1+pB (.loop k x y xs t),ct.2+qB (.loop k x y xs t))) (λe=>?_) (λe ev h=>?_) (λs ev h=>?_) s ev h
  .simp[jN,pB];omega
  .refine Sc (Q:=jN ct (ct.1+pB (.loop k x y xs t),ct.2+qB (.loop k x y xs t))) (λe=>?_) (λs ev h=>?_) (λs ev h=>?_) _ ev h
   .simp[jN,pB];omega
   .refine(CU k x y _ s (by rw[e0];simp;omega) (by rw[e0];simp;omega) ev h).mono ?_ ?_ ?_ ?_<;>(rw[e0];simp[pB,qB];try omega)
   .rw[ec]at h
    refine(j0 P xs _ ⟨by simp;omega,by simp;omega,by simp;omega,by simp;omega⟩ _ ev h).mono ?_ ?_ ?_ ?_<;>(simp[pB,qB];try omega)
  .rw[ec,ex]at h
   refine(j0 P t _ ⟨by simp;omega,by simp;omega,by simp;omega,by simp;omega⟩ s ev h).mono ?_ ?_ ?_ ?_<;>(simp[pB,qB];try omega)
end
end
def ĥ(n:Nat)(x:Sm):Prop:=nS x<=n/\yd x
def ď(n:Nat)(f:Bl->Bl):Prop:=∀rest,pB (f rest)<=n+pB rest/\qB (f rest)<=n+qB rest/\(vJ rest->vJ (f rest))
theorem XG:∀{n:Nat} {fs:List (Bl->Bl)},Pn.QL ď n fs->pB (aO fs)<=n/\qB (aO fs)<=n/\vJ (aO fs)
 |n,[],_=>⟨Ì,Ì,λ_ h=>by cases h⟩
 |n,f::fs,⟨a,b,hab,h1,h2⟩=>by obtain⟨d1,d2,d3⟩:=XG h2;obtain⟨e1,e2,e3⟩:=h1 (aO fs);exact⟨by show pB (f (aO fs))<=n;omega,by show qB (f (aO fs))<=n;omega,e3 d3⟩
theorem bX{l1 l2:List Int}(h1:∀n∈l1,pr n)(h2:∀n∈l2,pr n):∀n∈l1++l2,pr n:=λn h=>by
 rcases List.mem_append.1 h with h|h
 .exact h1 n h
 .exact h2 n h
theorem S4:Pn.Made Tr (λn (x:Sm)=>ĥ n x) (λn (f:Bl->Bl)=>ď n f) where
 pm n m x h hn:=⟨by have:=h.1;omega,h.2⟩
 qm n m x h hn:=λrest=>⟨by have:=(h rest).1;omega,by have:=(h rest).2.1;omega,(h rest).2.2⟩
 num v hv:=⟨Ì,λn h=>by have:=Ö.1 h;subst this;unfold pr;omega⟩
 name k _:=⟨Ì,λn h=>by cases h⟩
 neg n x h:=h
 bin k n m x y _ hx hy:=⟨by show nS x+(if 3<=k then 1 else 0)+nS y<=n+m+1;have:=hx.1;have:=hy.1;split<;>omega,bX hx.2 hy.2⟩
 assign k n x _ h:=λrest=>⟨by show 1+pB rest<=_;omega,by show nS x+qB rest<=_;have:=h.1;omega,λhr=>bX h.2 hr⟩
 read k _:=λrest=>⟨by show 1+pB rest<=_;omega,by show qB rest<=_;omega,λhr=>hr⟩
 assert k n m x y _ hx hy:=λrest=>⟨by show 1+pB rest<=_;omega,by show 1+nS x+nS y+qB rest<=_;have:=hx.1;have:=hy.1;omega,λhr=>bX (bX hx.2 hy.2) hr⟩
 ite k n m j x y xs _ hx hy Du:=λrest=>by obtain⟨d1,d2,d3⟩:=XG Du;refine⟨by show 1+pB (aO xs)+0+pB rest<=_;omega,by show nS x+nS y+qB (aO xs)+0+qB rest<=_;have:=hx.1;have:=hy.1;omega,λhr=>bX (bX (bX (bX hx.2 hy.2) d3) (λ_ h=>by cases h)) hr⟩
 iteElse k n m j i x y xs ys _ hx hy Du WZ:=λrest=>by obtain⟨d1,d2,d3⟩:=XG Du;obtain⟨g1,g2,g3⟩:=XG WZ;refine⟨by show 1+pB (aO xs)+pB (aO ys)+pB rest<=_;omega,by show nS x+nS y+qB (aO xs)+qB (aO ys)+qB rest<=_;have:=hx.1;have:=hy.1;omega,λhr=>bX (bX (bX (bX hx.2 hy.2) d3) g3) hr⟩
 loop k n m j x y xs _ hx hy Du:=λrest=>by obtain⟨d1,d2,d3⟩:=XG Du;refine⟨by show 1+pB (aO xs)+pB rest<=_;omega,by show nS x+nS y+qB (aO xs)+qB rest<=_;have:=hx.1;have:=hy.1;omega,λhr=>bX (bX (bX hx.2 hy.2) d3) hr⟩
theorem rQ{src:Bs}{t:Bl}(h:tree src=.ok t):pB t<=400/\qB t<=400/\vJ t:=by
 unfold tree at h;split at h
 .next fs hp=>
  cases h
  exact XG (Pn.Kd S4 hp).2
 .cases h
end Sp
end
section
namespace Sp
section
variable {D: rv}(K: Rk D)
structure Ab:Prop where
 bH:∀x y,K.wf x->K.sub y x->D.join x y=x
def YP:fG D.V->Prop
 |.aA _ s=>∀k,K.wf (s k)
 |.site _ _=>True
variable {K}
theorem Il{k:Nat}{x:Sm}(hx:yd x)(ct:Ct)(e:D.Env)(he:∀k,K.wf (e k)):Wf K (pF D k x ct e).2:=by
 unfold pF;intro e' h';cases hv:(dJ D x ct e).2 with
 |none=>rw[hv]at h';cases h'
 |some v=>
  rw[hv]at h';cases h'
  exact wf_set he k (j6 x hx ct e he v hv)
theorem NT{cond:gr D}{f g:D.St->xK D}(hc:gB K cond)(hf:fJ K f)(hg:fJ K g)(e:D.Env)(he:∀k,K.wf (e k)):Wf K (yr D cond f g e).2:=
 mr (hf _ (hc _ (Wf.some he)).1) (hg _ (hc _ (Wf.some he)).2)
variable (K)
def Wg(F:Found D):Prop:=∀s∈F.1,Wf K s
def Told(F:Found D):fG D.V->Prop
 |.aA p s=>∀f,F.1[p.toNat]?=Y f->sk K (Y s) f
 |.site q bad=>∀n,F.2[q.toNat]?=Y n->(if bad then 2 else 1)<=n
def jJ(F:Found D)(es:List (fG D.V)):Prop:=∀ev∈es,Told K F ev
variable {K}
theorem jw{α:Type}{l:List α}{p i:Nat}{f:α->α}{y:α}(h:(l.modify p f)[i]?=Y y):∃x,l[i]?=Y x/\y=if p=i then f x else x:=by
 rw[List.getElem?_modify]at h;cases hx:l[i]? with
 |none=>rw[hx]at h;simp at h
 |some x=>
  rw[hx]at h;refine⟨x,rfl,?_⟩;by_cases hp:p=i
  .rw[Á hp];simpa[hp] using h.symm
  .rw[Â hp];simpa[hp] using h.symm
theorem KQ{F:Found D}{x:fG D.V}(h:Told K F x)(y:fG D.V):Told K (cY D F y) x:=by
 cases x with
 |aA p s=>
  cases y with
  |site q b=>exact h
  |aA q t=>
   intro f hf;obtain⟨g,hg,rfl⟩:=jw hf;split
   .exact x8 (h g hg) (yw g _)
   .exact h g hg
 |site q b=>
  cases y with
  |aA p t=>exact h
  |site q' b'=>
   intro n hn;obtain⟨m,hm,rfl⟩:=jw hn;have:=h m hm;by_cases hq:q'.toNat=q.toNat
   .rw[Á hq];exact Nat.le_trans this (Nat.le_max_left _ _)
   .rw[Â hq];exact this
theorem sB{F:Found D}{x:fG D.V}:∀(es:List (fG D.V)) {F:Found D},Told K F x->Told K (tell D F es) x
 |[],_,h=>h
 |y::es,_,h=>sB (F:=F) es (KQ h y)
theorem jJ.grow{F:Found D}{es:List (fG D.V)}(h:jJ K F es)(es':List (fG D.V)):jJ K (tell D F es') es:=λev hv=>sB (F:=F) es' (h ev hv)
theorem yO(F:Found D)(x:fG D.V):Told K (cY D F x) x:=by
 cases x with
 |aA p s=>intro f hf;obtain⟨g,_,rfl⟩:=jw hf;rw[Á rfl];exact Od g _
 |site q b=>intro n hn;obtain⟨m,_,rfl⟩:=jw hn;rw[Á rfl];omega
theorem vS:∀(es:List (fG D.V)) (F:Found D),jJ K (tell D F es) es
 |[],_=>λ_ h=>by cases h
 |x::es,F=>λev hv=>by
  rcases List.mem_cons.1 hv with rfl|hv
  .exact sB (F:=F) es (yO F ev)
  .exact vS es (cY D F x) ev hv
theorem Rx(A:Ab K){f:D.St}{s:D.Env}(hf:Wf K f)(h:sk K (Y s) f):jn D f (Y s)=f:=by obtain⟨g,rfl,hg⟩:=h s rfl;show Y (λk=>D.join (g k) (s k))=Y g;congr 1;funext k;exact A.bH _ _ (hf _ rfl k) (hg k)
theorem Ii(A:Ab K){F:Found D}(hF:Wg K F){x:fG D.V}(h:Told K F x):cY D F x=F:=by
 obtain⟨fs,ns⟩:=F;cases x with
 |aA p s=>
  show(fs.modify p.toNat (λf=>jn D f (Y s)),ns)=(fs,ns);congr 1;refine List.ext_getElem? λi=>?_
  rw[List.getElem?_modify];cases hi:fs[i]? with
  |none=>rfl
  |some f=>
   by_cases hp:p.toNat=i
   .subst hp
    simp only[if_true,Option.map_eq_map,Option.map_some];rw[Rx A (hF f (Ù hi)) (h f hi)]
   .simp[hp]
 |site q b=>
  show(fs,ns.modify q.toNat (λn=>max n (if b then 2 else 1)))=(fs,ns);congr 1;refine List.ext_getElem? λi=>?_
  rw[List.getElem?_modify];cases hi:ns[i]? with
  |none=>rfl
  |some n=>
   by_cases hp:q.toNat=i
   .subst hp
    have:=h n hi;simp only[if_true,Option.map_eq_map,Option.map_some];rw[Nat.max_eq_left this]
   .simp[hp]
theorem BH(A:Ab K){F:Found D}(hF:Wg K F):∀{es:List (fG D.V)},jJ K F es->tell D F es=F
 |[],_=>rfl
 |x::es,h=>by show tell D (cY D F x) es=F;rw[Ii A hF (h x (List.mem_cons_self ..))];exact BH A hF λev hv=>h ev (List.mem_cons_of_mem _ hv)
theorem BI{F:Found D}(hF:Wg K F){x:fG D.V}(h:YP K x):Wg K (cY D F x):=by
 cases x with
 |site q b=>exact hF
 |aA p s=>
  intro f hf;obtain⟨i,hi⟩:=List.getElem?_of_mem hf;obtain⟨g,hg,rfl⟩:=jw hi;have hw:=hF g (Ù hg);split
  .exact mr hw (Wf.some h)
  .exact hw
end
end Sp
end
namespace Sp
theorem uC(n:Int):pr (wh n):=by
 unfold pr wh IntKind.wrap;have h:(2 ^ IntKind.i16.bits:Int)=65536:=rfl;have h2:(2 ^ (IntKind.i16.bits-1):Int)=32768:=rfl;simp only[h,h2];show -32768<=(if(true&&decide (n%65536 >= 32768))=true then n%65536-65536 else n%65536)/\(if(true&&decide (n%65536 >= 32768))=true then n%65536-65536 else n%65536)<=32767;by_cases hc:n%65536 >= 32768
 .rw[Á (by simp;exact hc)];omega
 .rw[Â (by simp;omega)];omega
theorem Jv{k:Nat}{a b c:Int}(ha:pr a)(h:work k a b=Y c):pr c:=by
 unfold work at h;split at h
 .cases h;exact uC _
 .split at h
  .cases h;exact uC _
  .split at h
   .cases h;exact uC _
   .split at h
    .cases h
    .split at h
     .cases h;exact uC _
     .cases h
      next Tj _=>
      unfold pr at*;have h2:(a.tmod b).natAbs<=a.natAbs:=by rw[Int.natAbs_tmod];exact Nat.mod_le _ _
      have h3:a.tmod b<=a.natAbs:=À;by_cases h0:0<=a
      .have:=Int.tmod_nonneg b h0
       omega
      .have h4:=Int.tmod_nonneg b (a:=-a) À
       rw[Int.neg_tmod]at h4;omega
end Sp
end Go.Proofs.YtiopfihjmkfdmabGreatDoor
