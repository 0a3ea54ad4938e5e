import Derived.Test.YtiopfihjmkfdmaaGreatDoorB5
namespace Go.Proofs.YtiopfihjmkfdmaaGreatDoor
open Go.Proofs.Tryz Sp
section
namespace Sp
def cS:Sm->Ct->Ct
 | .num _,ct=>ct
 | .name _,ct=>ct
 | .neg x,ct=>cS x ct
 | .bin k x y,ct=>cS y (if 3<=k then aL (cS x ct) else cS x ct)
def cB:Bl->Ct->Ct
 | .nil,ct=>ct
 | .assign _ x t,ct=>cB t (cS x (aD ct))
 | .read _ t,ct=>cB t (aD ct)
 | .assert _ x y t,ct=>cB t (cS y (cS x (aL (aD ct))))
 | .ite _ x y xs els ys t,ct=>cB t (if els then cB ys (cB xs (cS y (cS x (aD ct)))) else cB xs (cS y (cS x (aD ct))))
 | .loop _ x y xs t,ct=>cB t (cB xs (cS y (cS x (aD ct))))
structure pO where
 V:Type
 dec:DecidableEq V
 num:Int->V
 whole:V
 neg:V->V
 work:Nat->V->V->Option V
 nought:V->Bool
 join:V->V->V
 may:Nat->V->V->Bool
 bound:Nat->V->V->Option V
 widen:V->V->V
 narrow:V->V->V
 fuel:Nat
abbrev pO.Env(D:pO):=Fin 8->D.V
abbrev pO.St(D:pO):=Option D.Env
inductive gd (V:Type) where
 | aA (p:Int) (s:Fin 8->V)
 | site (q:Int) (bad:Bool)
structure yZ where
 ao:Nat
 narrow:Nat
 aj:Nat
section
variable (D : pO)
def jn:D.St->D.St->D.St
 | none,t=>t
 | some s,none=>some s
 | some s,some t=>some fun k=>D.join (s k) (t k)
def nE(f:D.V->D.V->D.V):D.St->D.St->D.St
 | some s,some t=>some fun k=>f (s k) (t k)
 | _,_=>none
def D3(s t:D.St):Bool:=match s,t with
 | none,none=>true
 | some s,some t=>@decide (∀k,s k=t k) (@Nat.decidableForallFin 8 (fun k=>s k=t k) (fun k=>D.dec (s k) (t k)))
 | _,_=>false
theorem nk(s t:D.St):D3 D s t=true↔s=t:=by
 cases s with
 | none=>cases t<;>simp[D3]
 | some s =>
  cases t with
  | none=>simp[D3]
  | some t =>unfold D3;simp only[decide_eq_true_eq,Option.some.injEq];exact⟨fun h=>funext h,fun h k=>by rw[h]⟩
def pE(s:D.Env)(k:Nat):D.V:=if h:k<8 then s ⟨k,h⟩ else D.whole
def gZ(s:D.Env)(k:Nat)(v:D.V):D.Env:=fun j=>if j.val=k then v else s j
def py(p:Int):D.St->List (gd D.V)
 | none=>[]
 | some s=>[.aA p s]
abbrev uI:=List (gd D.V) × D.St
def dT(r:Nat):Nat:=match r with
 | 0=>5 | 1=>4 | 2=>2 | 3=>3 | 4=>1 | _=>0
def wH(r:Nat):Nat:=match r with
 | 0=>4 | 1=>5 | 2=>3 | 3=>2 | 4=>0 | _=>1
def dA:Sm->Ct->D.Env->List (gd D.V) × Option D.V
 | .num n,_,_=>([],some (D.num (n:Int)))
 | .name k,_,s=>([],some (pE D s k))
 | .neg x,ct,s=>((dA x ct s).1,(dA x ct s).2.map D.neg)
 | .bin k x y,ct,s=>match dA x ct s with
  | (e,none)=>(e,none)
  | (e,some a)=>(match dA y (if 3<=k then aL (cS x ct) else cS x ct) s with
   | (e',none)=>(e ++ e',none)
   | (e',some b)=>(e ++ e' ++ (if 3<=k then [.site (cS x ct).2 (D.nought b)] else []),D.work k a b))
def qz(side:Sm)(r:Nat)(other:D.V)(s:D.St):D.St:=match s with
 | none=>none
 | some s=>(match side with
  | .name k=>(match D.bound r (pE D s k) other with
   | some v=>some (gZ D s k v)
   | none=>none)
  | _=>some s)
def fJ(r:Nat)(x y:Sm)(a b:D.V)(s:D.Env):D.St :=
 if D.may r a b then qz D y (dT r) a (qz D x r b (some s)) else none
def dC(k:Nat)(x y:Sm)(ct:Ct):D.St->List (gd D.V) × D.St × D.St
 | none=>([],none,none)
 | some s=>(match dA D x ct s with
  | (e,none)=>(e,none,none)
  | (e,some a)=>(match dA D y (cS x ct) s with
   | (e',none)=>(e ++ e',none,none)
   | (e',some b)=>(e ++ e',fJ D k x y a b s,fJ D (wH k) x y a b s)))
def jv(cond:D.St->List (gd D.V) × D.St × D.St)(body:D.St->uI D)(s i:D.St):D.St:=jn D s (body (cond i).2.1).2
def jC(cond:D.St->List (gd D.V) × D.St × D.St)(body:D.St->uI D)(p:Int):Nat->D.St->D.St->List (gd D.V) × D.St × D.St
 | 0,out,s=>([],out,s)
 | n+1,out,s =>(py D p s ++ (cond s).1 ++ (body (cond s).2.1).1 ++ (jC cond body p n (jn D out (cond s).2.2) (body (cond s).2.1).2).1,(jC cond body p n (jn D out (cond s).2.2) (body (cond s).2.1).2).2)
def fixF(next:D.St->D.St)(ao:Nat):Nat->Nat->D.St->D.St
 | 0,_,i=>i
 | f+1,k,i=>if D3 D (jn D i (next i)) i=true then i else fixF next ao f (k+1) (if ao<k then nE D D.widen i (jn D i (next i)) else jn D i (next i))
def I5(next:D.St->D.St):Nat->D.St->D.St
 | 0,i=>i
 | n+1,i=>I5 next n (nE D D.narrow i (next i))
def lL(P:yZ)(cond:D.St->List (gd D.V) × D.St × D.St)(body:D.St->uI D)(s:D.St):D.St :=
 I5 D (jv D cond body s) P.narrow (fixF D (jv D cond body s) P.ao D.fuel 1 s)
def rA(P:yZ)(cond:D.St->List (gd D.V) × D.St × D.St)(body:D.St->uI D)(p:Int)(s:D.St):uI D :=
 let u:=jC D cond body p P.aj none s
 let i:=lL D P cond body u.2.2
 (u.1 ++ py D p i ++ (cond i).1 ++ (body (cond i).2.1).1,jn D u.2.1 (cond i).2.2)
def gi(r:uI D)(f:D.St->uI D):uI D:=(r.1 ++ (f r.2).1,(f r.2).2)
def N3(p:Int)(f:D.Env->uI D):D.St->uI D
 | none=>([],none)
 | some s=>(.aA p s :: (f s).1,(f s).2)
def oI(k:Nat)(x:Sm)(ct:Ct)(s:D.Env):uI D:=((dA D x ct s).1,(dA D x ct s).2.map fun v=>gZ D s k v)
def MW(k:Nat)(s:D.Env):uI D:=([],some (gZ D s k D.whole))
def BZ(site:Int)(k:Nat)(x y:Sm)(ct:Ct)(s:D.Env):uI D:=((dC D k x y ct (some s)).1 ++ [.site site (dC D k x y ct (some s)).2.2.isSome],(dC D k x y ct (some s)).2.1)
def u9(cond:D.St->List (gd D.V) × D.St × D.St)(f g:D.St->uI D)(s:D.Env):uI D :=
 ((cond (some s)).1 ++ (f (cond (some s)).2.1).1 ++ (g (cond (some s)).2.2).1,jn D (f (cond (some s)).2.1).2 (g (cond (some s)).2.2).2)
def cF(P:yZ):Bl->Ct->D.St->uI D
 | .nil,_,s=>([],s)
 | .assign k x t,ct,s=>gi D (N3 D ct.1 (oI D k x (aD ct)) s) (cF P t (cS x (aD ct)))
 | .read k t,ct,s=>gi D (N3 D ct.1 (MW D k) s) (cF P t (aD ct))
 | .assert k x y t,ct,s=>gi D (N3 D ct.1 (BZ D ct.2 k x y (aL (aD ct))) s) (cF P t (cS y (cS x (aL (aD ct)))))
 | .ite k x y xs true ys t,ct,s=>gi D (N3 D ct.1 (u9 D (dC D k x y (aD ct)) (cF P xs (cS y (cS x (aD ct)))) (cF P ys (cB xs (cS y (cS x (aD ct)))))) s) (cF P t (cB ys (cB xs (cS y (cS x (aD ct))))))
 | .ite k x y xs false _ t,ct,s=>gi D (N3 D ct.1 (u9 D (dC D k x y (aD ct)) (cF P xs (cS y (cS x (aD ct)))) (fun s=>([],s))) s) (cF P t (cB xs (cS y (cS x (aD ct)))))
 | .loop k x y xs t,ct,s=>gi D (N3 D ct.1 (fun s=>rA D P (dC D k x y (aD ct)) (cF P xs (cS y (cS x (aD ct)))) ct.1 (some s)) s) (cF P t (cB xs (cS y (cS x (aD ct)))))
abbrev Found:=List (D.St) × List Nat
def cR(F:Found D):gd D.V->Found D
 | .aA p s=>(F.1.modify p.toNat (fun f=>jn D f (some s)),F.2)
 | .site q bad=>(F.1,F.2.modify q.toNat (fun n=>max n (if bad then 2 else 1)))
def tell(F:Found D)(es:List (gd D.V)):Found D:=es.foldl (cR D) F
def da(P:yZ)(t:Bl):Found D :=
 let r:=cF D P t (0,0) (some fun _=>D.num 0)
 tell D (List.replicate ((cB t (0,0)).1+1).toNat none,List.replicate (cB t (0,0)).2.toNat 0) (r.1 ++ py D (cB t (0,0)).1 r.2)
end
structure Iv where
 a:Int
 b:Int
deriving DecidableEq
def eF:Iv:=⟨-32768,32767⟩
def cJ(a b:Int):Iv:=if a < -32768∨32767<b then eF else⟨a,b⟩
def nP:List Int->Int
 | []=>0
 | x :: xs=>xs.foldl min x
def nT:List Int->Int
 | []=>0
 | x :: xs=>xs.foldl max x
def cu(l:List Int):Iv:=cJ (nP l) (nT l)
def dk(y:Iv):List Int:=(if y.a<0 then [y.a,min y.b (-1)] else []) ++ (if 0<y.b then [max y.a 1,y.b] else [])
def dO(x y:Iv):Option Iv:=if dk y=[] then none else some (cu ((dk y).flatMap fun q=>[x.a.tdiv q,x.b.tdiv q]))
def gz(x y:Iv):Option Iv:=if max (-y.a) y.b - 1<0 then none else some (cJ (min (max x.a (-(max (-y.a) y.b - 1))) 0) (max (min x.b (max (-y.a) y.b - 1)) 0))
def cp(k:Nat)(x y:Iv):Option Iv :=
 if k=0 then some (cJ (x.a+y.a) (x.b+y.b)) else if k=1 then some (cJ (x.a - y.b) (x.b - y.a))
 else if k=2 then some (cu [x.a*y.a,x.a*y.b,x.b*y.a,x.b*y.b])
 else if k=3 then dO x y else gz x y
def cV(x y:Iv):Option Iv:=if max x.a y.a<=min x.b y.b then some ⟨max x.a y.a,min x.b y.b⟩ else none
def cT(r:Nat)(x y:Iv):Bool :=
 if r=0 then decide (x.a<y.b) else if r=1 then decide (x.a<=y.b) else if r=2 then(cV x y).isSome
 else if r=3 then !(decide (x=y) && decide (x.a=x.b)) else if r=4 then decide (y.a<=x.b) else decide (y.a<x.b)
def dY(x:Iv)(n:Int):Option Iv:=if n=-32768 then none else cV x ⟨-32768,n - 1⟩
def ea(x:Iv)(n:Int):Option Iv:=if n=32767 then none else cV x ⟨n+1,32767⟩
def dS(x right:Iv):Option Iv:=if right.a≠right.b then some x else if x.a=right.a then ea x right.a else if x.b=right.b then dY x right.b else some x
def dy(r:Nat)(x right:Iv):Option Iv :=
 if r=0 then dY x right.b else if r=1 then cV x ⟨-32768,right.b⟩ else if r=2 then cV x right else if r=3 then dS x right
 else if r=4 then cV x ⟨right.a,32767⟩ else ea x right.a
def cd(steps:List Int)(n:Int):Int:=steps.foldl (fun st s=>if s<=n then max st s else st) (-32768)
def br(steps:List Int)(n:Int):Int:=steps.foldl (fun st s=>if n<=s then min st s else st) 32767
def bK(steps:List Int)(x y:Iv):Iv:=⟨if y.a<x.a then cd steps y.a else x.a,if x.b<y.b then br steps y.b else x.b⟩
def dG(x y:Iv):Iv:=⟨if x.a=-32768 then y.a else x.a,if x.b=32767 then y.b else x.b⟩
def oN(steps:List Int):pO where
 V:=Iv
 dec:=inferInstance
 num n:=⟨n,n⟩
 whole:=eF
 neg x:=cJ (-x.b) (-x.a)
 work:=cp
 nought x:=decide (x.a<=0) && decide (0<=x.b)
 join x y:=⟨min x.a y.a,max x.b y.b⟩
 may:=cT
 bound:=dy
 widen:=bK steps
 narrow:=dG
 fuel:=1100000
def rP:Sm->List Int
 | .num n=>[(n:Int)]
 | .name _=>[]
 | .neg x=>rP x
 | .bin _ x y=>rP x ++ rP y
def ig:Bl->List Int
 | .nil=>[]
 | .assign _ x rest=>rP x ++ ig rest
 | .read _ rest=>ig rest
 | .assert _ x y rest=>rP x ++ rP y ++ ig rest
 | .ite _ x y xs _ ys rest=>rP x ++ rP y ++ ig xs ++ ig ys ++ ig rest
 | .loop _ x y xs rest=>rP x ++ rP y ++ ig xs ++ ig rest
def pr(Gb:Bool)(t:Bl):List Int:=[-32768,32767] ++ (if Gb then(ig t).flatMap fun n=>[n,-n] else [])
end Sp
end
namespace Sp
section
variable{ns ms:List Nat}
variable{l a b t l1 l' src:Bs}
variable{o k lv v:Nat}
theorem jV.LQ(h:jV [] l ns):l=[]/\ns=[]:=by
 induction h with
 | nil=>exact⟨rfl,rfl⟩
 | step _ ih=>obtain⟨rfl,rfl⟩:=ih;exact⟨rfl,rfl⟩
theorem jV.head(h:jV a l ns):(l=a/\ns=[])∨∃ms,jV (next a) l ms/\ns=ld a ++ ms:=by
 induction h with
 | nil=>exact .inl ⟨rfl,rfl⟩
 | @step l ns h ih =>
  right
  rcases ih with⟨rfl,rfl⟩ | ⟨ms,h1,rfl⟩
  ·exact⟨[],.nil,by simp⟩
  ·exact⟨_,h1.step,by simp⟩
def bp:Sm->List Nat
 | .num n=>[n]
 | .name _=>[]
 | .neg x=>bp x
 | .bin _ x y=>bp x ++ bp y
def bu:Bl->List Nat
 | .nil=>[]
 | .assign _ x rest=>bp x ++ bu rest
 | .read _ rest=>bu rest
 | .assert _ x y rest=>bp x ++ bp y ++ bu rest
 | .ite _ x y xs _ ys rest=>bp x ++ bp y ++ bu xs ++ bu ys ++ bu rest
 | .loop _ x y xs rest=>bp x ++ bp y ++ bu xs ++ bu rest
theorem jL:∀x:Sm,rP x=(bp x).map fun n:Nat=>(n:Int)
 | .num _=>rfl
 | .name _=>rfl
 | .neg x=>jL x
 | .bin _ x y=>by show rP x ++ rP y=(bp x ++ bp y).map _;rw[jL x,jL y,List.map_append]
theorem fV:∀t:Bl,ig t=(bu t).map fun n:Nat=>(n:Int)
 | .nil=>rfl
 | .assign _ x t=>by show rP x ++ ig t=(bp x ++ bu t).map _;rw[jL x,fV t,List.map_append]
 | .read _ t=>fV t
 | .assert _ x y t=>by show rP x ++ rP y ++ ig t=(bp x ++ bp y ++ bu t).map _;simp only[jL,fV t,List.map_append]
 | .ite _ x y xs _ ys t=>by show rP x ++ rP y ++ ig xs ++ ig ys ++ ig t=(bp x ++ bp y ++ bu xs ++ bu ys ++ bu t).map _;simp only[jL,fV xs,fV ys,fV t,List.map_append]
 | .loop _ x y xs t=>by show rP x ++ rP y ++ ig xs ++ ig t=(bp x ++ bp y ++ bu xs ++ bu t).map _;simp only[jL,fV xs,fV t,List.map_append]
inductive Way (a:Bs):Bs->List Nat->Prop
 | nil:Way a a []
 | step {l:Bs} {ns:List Nat}:Way a l ns->0<bf l->Way a (next l) (ns ++ ld l)
theorem Way.trans{c:Bs}(h:Way a b ns)(k:Way b c ms):Way a c (ns ++ ms):=by
 induction k with
 | nil=>rw[List.append_nil];exact h
 | step _ hp ih=>rw[<-List.append_assoc];exact ih.step hp
theorem Way.YU(h:Way a l ns):jV a l ns:=by
 induction h with
 | nil=>exact .nil
 | step _ _ ih=>exact ih.step
theorem Way.head(h:Way a l ns):(l=a/\ns=[])∨∃ms,0<bf a/\Way (next a) l ms/\ns=ld a ++ ms:=by
 induction h with
 | nil=>exact .inl ⟨rfl,rfl⟩
 | @step l ns h hp ih =>
  right
  rcases ih with⟨rfl,rfl⟩ | ⟨ms,h0,h1,rfl⟩
  ·exact⟨[],hp,.nil,by simp⟩
  ·exact⟨_,h0,h1.step hp,by simp⟩
theorem Way.same:∀(n:Nat) {a:Bs} {ns ms:List Nat},a.length<=n->jV a [] ns->Way a [] ms->ns=ms
 | n,a,ns,ms,hn,h,k=>by
  by_cases ha:a=[]
  ·subst ha
   rw[h.LQ.2,k.YU.LQ.2]
  ·rcases h.head with⟨e,_⟩ | ⟨qM,h1,rfl⟩
   ·exact absurd e.symm ha
   ·rcases k.head with⟨e,_⟩ | ⟨ms',hp,k1,rfl⟩
    ·exact absurd e.symm ha
    ·have dj:=fL hp
     match n,hn with
     | 0,hn=>omega
     | n+1,hn=>rw[Way.same n (by omega) h1 k1]
theorem dJ(h:tok l=t)(ht:t≠[])(hd:t.head?.any bq=false):Way l (next l) []:=by
 have hp:0<bf l:=by rw[<-dR,h];exact List.length_pos_iff.2 ht
 have:=(Way.nil (a:=l)).step hp
 rwa [ld,if_neg (oM h hd)]at this
theorem Ml(h:aC l=2):Way l (next l) []:=by
 have:=(Way.nil (a:=l)).step (dc (.inl h))
 rwa [ld,if_neg (by omega)]at this
theorem Pc(h:aC l=3):Way l (next l) [bk (tok l)]:=by
 have:=(Way.nil (a:=l)).step (dc (.inr (.inl h)))
 rwa [ld,if_pos h]at this
theorem Way.more(h:Way a l ns)(k:Way l b []):Way a b ns:=by
 have:=h.trans k
 rwa [List.append_nil]at this
theorem Way.less(h:Way a l [])(k:Way l b ns):Way a b ns:=h.trans k
theorem lH(h:take t l=.ok l1)(ht:t≠[])(hd:t.head?.any bq=false):Way l l1 []:=by obtain⟨h1,rfl⟩:=bU h;exact dJ h1 ht hd
theorem rX(h:enter t o l=.ok l1)(ht:t≠[])(hd:t.head?.any bq=false):Way l l1 []:=by obtain⟨h1,_,rfl⟩:=cE h;exact dJ h1 ht hd
theorem J0(h5:aR l=some k):aC l=2:=by
 unfold aR at h5;split at h5
 ·split at h5
  ·next hc=>exact hc.1
  ·cases h5
 ·cases h5
theorem wA(h:dE l=.ok (k,l1)):Way l l1 []:=by obtain⟨h5,rfl⟩:=gm h;exact Ml (J0 h5)
theorem SX(h:eb (tok l)=some k):Way l (next l) []:=by
 unfold eb at h;split at h
 ·next e=>exact dJ e (by simp) rfl
 ·split at h
  ·next e=>exact dJ e (by simp) rfl
  ·split at h
   ·next e=>exact dJ e (by simp) rfl
   ·split at h
    ·next e=>exact dJ e (by simp) rfl
    ·split at h
     ·next e=>exact dJ e (by simp) rfl
     ·cases h
theorem Pw(h:dQ (tok l)=some k):Way l (next l) []:=by
 unfold dQ at h;split at h
 ·next e=>exact dJ e (by simp) rfl
 ·split at h
  ·next e=>exact dJ e (by simp) rfl
  ·split at h
   ·next e=>exact dJ e (by simp) rfl
   ·split at h
    ·next e=>exact dJ e (by simp) rfl
    ·split at h
     ·next e=>exact dJ e (by simp) rfl
     ·split at h
      ·next e=>exact dJ e (by simp) rfl
      ·cases h
def JD(u:Bs->R Tr.S):Prop:=∀l (x:Sm) l',u l=.ok (x,l')->Way l l' (bp x)
theorem FG{u:Bs->R Tr.S}(hu:JD u):∀m (x:Sm) l (y:Sm) l',Way a l (bp x)->bC Tr lv u m x l=.ok (y,l')->Way a l' (bp y):=by
 intro m
 induction m with
 | zero=>intro x l y l' hx h;cases h;exact hx
 | succ m ih =>
  intro x l y l' hx h;rw[tG Tr lv u m x l]at h;split at h
  ·next k hk =>
   split at h
   ·split at h
    ·next z l1 hz=>exact ih _ _ _ _ ((hx.more (SX hk)).trans (hu _ _ _ hz)) h
    ·cases h
   ·cases h;exact hx
  ·cases h;exact hx
theorem yt{u:Bs->R Tr.S}(hu:JD u):JD (bL Tr lv u):=by
 intro l x l' h;unfold bL at h;split at h
 ·next y l1 hy=>exact FG hu _ _ _ _ _ (hu _ _ _ hy) h
 ·cases h
theorem Dn{u:Bs->R Tr.S}(hu:JD u):JD (mO Tr u):=yt (yt hu)
theorem FF(h:fE t=some v):v=bk t:=by
 unfold fE at h;split at h
 ·cases h
 ·split at h
  ·cases h;rfl
  ·cases h
theorem EA:∀n o,JD (bo Tr n o):=by
 intro n
 induction n with
 | zero=>intro o l x l' h;cases h
 | succ n ih =>
  intro o l x l' h;unfold bo at h;split at h
  ·next h3 =>
   split at h
   ·next v hv =>
    cases h
    rw[FF hv];exact Pc h3
   ·cases h
  ·split at h
   ·split at h
    ·next k l1 hk=>cases h;exact wA hk
    ·cases h
   ·split at h
    ·split at h
     ·next l1 he =>
      split at h
      ·next y l2 hy=>cases h;exact(rX he (by simp) rfl).less (show Way _ _ (bp y) from ih _ _ y _ hy)
      ·cases h
     ·cases h
    ·split at h
     ·next l1 he =>
      split at h
      ·next y l2 hy =>
       split at h
       ·next l3 PZ =>
        cases h
        exact((rX he (by simp) rfl).less (Dn (ih _) _ _ _ hy)).more (lH PZ (by simp) rfl)
       ·cases h
      ·cases h
     ·cases h
theorem Ez{x:Sm}(h:pS Tr o l=.ok (x,l')):Way l l' (bp x):=Dn (EA _ _) _ _ _ h
theorem o7{x y:Sm}(h:bn Tr o l=.ok ((k,x,y),l')):Way l l' (bp x ++ bp y):=by
 unfold bn at h;split at h
 ·next x1 l1 hx =>
  split at h
  ·next k1 hk =>
   split at h
   ·next y1 l2 hy=>cases h;exact((Ez hx).more (Pw hk)).trans (Ez hy)
   ·cases h
  ·cases h
 ·cases h
def nI(f:Bl->Bl):List Nat:=bu (f .nil)
def Ov(f:Bl->Bl):Prop:=∀t,bu (f t)=nI f ++ bu t
def Sq(st:Bs->R Tr.T):Prop:=∀l (f:Bl->Bl) l',st l=.ok (f,l')->Way l l' (nI f)/\Ov f
theorem qD:∀(fs:List (Bl->Bl)),(∀f∈fs,Ov f)->bu (aP fs)=(fs.map nI).flatten
 | [],_=>rfl
 | f :: fs,h=>by show bu (f (aP fs))=nI f ++ (fs.map nI).flatten;rw[h f (List.mem_cons_self ..),qD fs fun g hg=>h g (List.mem_cons_of_mem _ hg)]
theorem yv{st:Bs->R Tr.T}(hs:Sq st):∀m (acc:List (Bl->Bl)) l ys l',Way a l (acc.map nI).flatten->(∀f∈acc,Ov f)->cZ Tr st m acc l=.ok (ys,l')->Way a l' (ys.map nI).flatten/\∀f∈ys,Ov f:=by
 intro m
 induction m with
 | zero=>intro acc l ys l' hx ha h;cases h;exact⟨hx,ha⟩
 | succ m ih =>
  intro acc l ys l' hx ha h;rw[vQ Tr st m acc l]at h;split at h
  ·split at h
   ·next f l1 hf =>
    obtain⟨h1,h2⟩:=hs _ _ _ hf;refine ih _ _ _ _ ?_ (fun z hz=>?_) h
    ·have e:(List.map nI (@HAppend.hAppend (List (Bl->Bl)) (List (Bl->Bl)) _ _ acc [f])).flatten=(List.map nI acc).flatten ++ nI f:=by
      simp only[List.map_append,List.flatten_append];exact congrArg ((List.map nI acc).flatten ++ ·) (List.append_nil (nI f))
     exact Eq.mpr (congrArg (Way a l1) e) (hx.trans h1)
    ·rcases List.mem_append.1 hz with hz | hz
     ·exact ha z hz
     ·rw[List.mem_singleton.1 hz];exact h2
   ·cases h
  ·cases h;exact⟨hx,ha⟩
theorem qb{st:Bs->R Tr.T}(hs:Sq st){xs:List (Bl->Bl)}(h:aS Tr st o l=.ok (xs,l')):Way l l' (bu (aP xs)):=by
 unfold aS at h;split at h
 ·next l1 he =>
  split at h
  ·next ys l2 hm =>
   obtain⟨h1,h2⟩:=yv hs _ [] _ _ _ .nil (fun z hz=>by cases hz) hm;split at h
   ·next l3 PZ =>
    cases h
    rw[qD _ h2];exact((rX he (by simp) rfl).less h1).more (lH PZ (by simp) rfl)
   ·cases h
  ·cases h
 ·cases h
theorem Ie:∀n o,Sq (bH Tr n o):=by
 intro n
 induction n with
 | zero=>intro o l x l' h;cases h
 | succ n ih =>
  intro o l f l' h;unfold bH at h;split at h
  ·next ht =>
   unfold gx at h;split at h
   ·next k l1 hk =>
    split at h
    ·next l2 h2 =>
     cases h
     exact⟨(dJ ht (by decide) rfl).less ((wA hk).less (lH h2 (by simp) rfl)),fun t=>rfl⟩
    ·cases h
   ·cases h
  ·split at h
   ·next ht =>
    unfold cY at h;split at h
    ·next k x1 y1 l1 hc =>
     split at h
     ·next l2 h6 =>
      cases h
      refine⟨(dJ ht (by decide) rfl).less (Way.more (l:=l1) ?_ (lH h6 (by simp) rfl)),fun t=>?_⟩
      ·show Way _ _ (bp x1 ++ bp y1 ++ [])
       rw[List.append_nil];exact o7 hc
      ·show bp x1 ++ bp y1 ++ bu t=(bp x1 ++ bp y1 ++ []) ++ bu t
       rw[List.append_nil]
     ·cases h
    ·cases h
   ·split at h
    ·next ht =>
     unfold qF at h;split at h
     ·next k x1 y1 l1 hc =>
      split at h
      ·next xs l2 hb =>
       have Du:=qb (ih _) hb;split at h
       ·next Hh =>
        split at h
        ·next ys l3 xG =>
         have D0:=qb (ih _) xG;cases h
         refine⟨(dJ ht (by decide) rfl).less ?_,fun t=>?_⟩
         ·show Way _ _ (bp x1 ++ bp y1 ++ bu (aP xs) ++ bu (aP ys) ++ [])
          rw[List.append_nil];exact(((o7 hc).trans Du).more (dJ Hh (by decide) rfl)).trans D0
         ·show bp x1 ++ bp y1 ++ bu (aP xs) ++ bu (aP ys) ++ bu t=(bp x1 ++ bp y1 ++ bu (aP xs) ++ bu (aP ys) ++ []) ++ bu t
          rw[List.append_nil]
        ·cases h
       ·cases h
        refine⟨(dJ ht (by decide) rfl).less ?_,fun t=>?_⟩
        ·show Way _ _ (bp x1 ++ bp y1 ++ bu (aP xs) ++ [] ++ [])
         rw[List.append_nil,List.append_nil];exact(o7 hc).trans Du
        ·show bp x1 ++ bp y1 ++ bu (aP xs) ++ [] ++ bu t=(bp x1 ++ bp y1 ++ bu (aP xs) ++ [] ++ []) ++ bu t
         rw[List.append_nil,List.append_nil]
      ·cases h
     ·cases h
    ·split at h
     ·next ht =>
      unfold ef at h;split at h
      ·next k x1 y1 l1 hc =>
       split at h
       ·next xs l2 hb =>
        have Du:=qb (ih _) hb;cases h
        refine⟨(dJ ht (by decide) rfl).less ?_,fun t=>?_⟩
        ·show Way _ _ (bp x1 ++ bp y1 ++ bu (aP xs) ++ [])
         rw[List.append_nil];exact(o7 hc).trans Du
        ·show bp x1 ++ bp y1 ++ bu (aP xs) ++ bu t=(bp x1 ++ bp y1 ++ bu (aP xs) ++ []) ++ bu t
         rw[List.append_nil]
       ·cases h
      ·cases h
     ·unfold cy at h
      split at h
      ·next k l1 hk =>
       split at h
       ·next l2 h2 =>
        split at h
        ·next x1 l3 hx =>
         split at h
         ·next l4 hY =>
          cases h
          refine⟨(wA hk).less ((lH h2 (by simp) rfl).less (Way.more (l:=l3) ?_ (lH hY (by simp) rfl))),fun t=>?_⟩
          ·show Way _ _ (bp x1 ++ [])
           rw[List.append_nil];exact Ez hx
          ·show bp x1 ++ bu t=(bp x1 ++ []) ++ bu t
           rw[List.append_nil]
         ·cases h
        ·cases h
       ·cases h
      ·cases h
theorem Ju{t:Bl}(h:tree src=.ok t)(hn:jV (skip src) [] ns):bu t=ns:=by
 unfold tree at h;split at h
 ·next fs hp =>
  cases h
  unfold parse at hp;split at hp
  ·cases hp
  ·split at hp
   ·next ys hq =>
    cases hp
    unfold ou at hq;split at hq
    ·next zs l1 hm =>
     split at hq
     ·next he =>
      cases hq
      obtain⟨h1,h2⟩:=yv (Ie _ _) _ [] _ _ _ .nil (fun z hz=>by cases hz) hm;subst he;rw[qD _ h2];exact(Way.same _ (Nat.le_refl _) hn h1).symm
     ·cases hq
    ·cases hq
   ·cases hp
 ·cases h
end
end Sp
section
namespace Sp
def Qx(n:Int):Prop:=-32768<=n/\n<=32767
structure Rk(D:pO) where
 wf:D.V->Prop
 rk:D.V->Nat
 top:Nat
 le:∀x,wf x->rk x<=top
 wnum:∀n,Qx n->wf (D.num n)
 wwhole:wf D.whole
 wneg:∀x,wf x->wf (D.neg x)
 wwork:∀k x y v,wf x->wf y->D.work k x y=some v->wf v
 wjoin:∀x y,wf x->wf y->wf (D.join x y)
 wbound:∀r x y v,wf x->wf y->D.bound r x y=some v->wf v
 wwiden:∀x y,wf x->wf y->wf (D.widen x y)
 sub:D.V->D.V->Prop
 sub_refl:∀x,sub x x
 sub_trans:∀x y z,sub x y->sub y z->sub x z
 sub_joinl:∀x y,sub x (D.join x y)
 sub_joinr:∀x y,sub y (D.join x y)
 sub_narrow:∀x y z,sub z x->sub z y->sub z (D.narrow x y)
 wnarrow:∀x y z,wf x->wf y->wf z->sub z x->sub z y->wf (D.narrow x y)
 join_lt:∀x y,wf x->wf y->D.join x y≠x->rk x<rk (D.join x y)
 widen_le:∀x y,wf x->wf y->rk (D.join x y)<=rk (D.widen x (D.join x y))
 fuel:8*top<D.fuel
section
variable {D : pO}(K : Rk D)
def Wf(s:D.St):Prop:=∀e,s=some e->∀k,K.wf (e k)
variable {K}
section
variable{r k m:Nat}
variable{P:yZ}
theorem eG:Wf K none:=fun _ h=>by cases h
theorem Wf.some{e:D.Env}(h:∀k,K.wf (e k)):Wf K (some e):=fun e' h'=>by cases h';exact h
theorem Mo{e:D.Env}(h:∀k,K.wf (e k))(k:Nat):K.wf (pE D e k):=by
 unfold pE;split
 ·exact h _
 ·exact K.wwhole
theorem wf_set{e:D.Env}(h:∀k,K.wf (e k))(k:Nat){v:D.V}(hv:K.wf v):∀j,K.wf (gZ D e k v j):=by
 intro j;unfold gZ;split
 ·exact hv
 ·exact h j
theorem kK{s t:D.St}(hs:Wf K s)(ht:Wf K t):Wf K (jn D s t):=by
 cases s with
 | none=>exact ht
 | some s =>
  cases t with
  | none=>exact hs
  | some t=>exact Wf.some fun k=>K.wjoin _ _ (hs _ rfl k) (ht _ rfl k)
def xh(x:Sm):Prop:=∀n∈rP x,Qx n
def ti(t:Bl):Prop:=∀n∈ig t,Qx n
theorem jk:∀(x:Sm) (_:xh x) (ct:Ct) (e:D.Env) (_:∀k,K.wf (e k)) (v:D.V),(dA D x ct e).2=some v->K.wf v
 | .num n,hn,_,_,_,v,h=>by cases h;exact K.wnum _ (hn _ (by simp[rP]))
 | .name k,_,_,e,he,v,h=>by cases h;exact Mo he k
 | .neg x,hn,ct,e,he,v,h=>by
  have h':(dA D x ct e).2.map D.neg=some v:=h;cases hx:(dA D x ct e).2 with
  | none=>rw[hx]at h';cases h'
  | some u =>
   rw[hx]at h';cases h'
   exact K.wneg _ (jk x hn ct e he u hx)
 | .bin k x y,hn,ct,e,he,v,h=>by
  unfold dA at h;have eV:xh x:=fun n h=>hn n (by simp[rP,h])
  have hny:xh y:=fun n h=>hn n (by simp[rP,h])
  split at h
  ·cases h
  ·next e1 a h1 =>
   split at h
   ·cases h
   ·next e2 b h2 =>
    exact K.wwork k a b v (jk x eV ct e he a (by rw[h1])) (jk y hny _ e he b (by rw[h2])) h
theorem uL{side:Sm}{other:D.V}{s:D.St}(hs:Wf K s)(ho:K.wf other):Wf K (qz D side r other s):=by
 cases s with
 | none=>exact eG
 | some s =>
  unfold qz;simp only;split
  ·split
   ·next v hv=>exact Wf.some (wf_set (hs _ rfl) _ (K.wbound _ _ _ _ (Mo (hs _ rfl) _) ho hv))
   ·exact eG
  ·exact hs
theorem wP{x y:Sm}{a b:D.V}{e:D.Env}(he:∀k,K.wf (e k))(ha:K.wf a)(hb:K.wf b):Wf K (fJ D r x y a b e):=by
 unfold fJ;split
 ·exact uL (uL (Wf.some he) hb) ha
 ·exact eG
theorem lq{x y:Sm}(hx:xh x)(hy:xh y){ct:Ct}{s:D.St}(hs:Wf K s):Wf K (dC D k x y ct s).2.1/\Wf K (dC D k x y ct s).2.2:=by
 cases s with
 | none=>exact⟨eG,eG⟩
 | some e =>
  unfold dC;simp only;split
  ·exact⟨eG,eG⟩
  ·next e1 a h1 =>
   split
   ·exact⟨eG,eG⟩
   ·next e2 b h2 =>
    have ha:=jk x hx ct e (hs _ rfl) a (by rw[h1]);have hb:=jk y hy _ e (hs _ rfl) b (by rw[h2]);exact⟨wP (hs _ rfl) ha hb,wP (hs _ rfl) ha hb⟩
abbrev pQ(D:pO):=D.St->List (gd D.V) × D.St × D.St
abbrev qS(D:pO):=D.St->uI D
def fO(K:Rk D)(cond:pQ D):Prop:=∀s,Wf K s->Wf K (cond s).2.1/\Wf K (cond s).2.2
def fg(K:Rk D)(body:qS D):Prop:=∀s,Wf K s->Wf K (body s).2
theorem vh{cond:pQ D}{body:qS D}(hc:fO K cond)(hb:fg K body){s i:D.St}(hs:Wf K s)(hi:Wf K i):Wf K (jv D cond body s i):=kK hs (hb _ (hc _ hi).1)
theorem OW{f:D.V->D.V->D.V}(hf:∀x y,K.wf x->K.wf y->K.wf (f x y)){s t:D.St}(hs:Wf K s)(ht:Wf K t):Wf K (nE D f s t):=by
 cases s with
 | none=>exact eG
 | some s =>
  cases t with
  | none=>exact eG
  | some t=>exact Wf.some fun k=>hf _ _ (hs _ rfl k) (ht _ rfl k)
theorem z7{next:D.St->D.St}(hn:∀i,Wf K i->Wf K (next i))(d:Nat):∀(f k:Nat) (i:D.St),Wf K i->Wf K (fixF D next d f k i)
 | 0,_,_,h=>h
 | f+1,k,i,h=>by
  unfold fixF;split
  ·exact h
  ·refine z7 hn d f (k+1) _ ?_
   split
   ·exact OW K.wwiden h (kK h (hn _ h))
   ·exact kK h (hn _ h)
def tZ:Nat->(Nat->Nat)->Nat
 | 0,_=>0
 | n+1,f=>tZ n f+f n
theorem GS{f g:Nat->Nat}:∀(n:Nat),(∀k,k<n->f k<=g k)->tZ n f<=tZ n g
 | 0,_=>Nat.le_refl _
 | n+1,h=>by have:=GS n (fun k hk=>h k (by omega));have:=h n (by omega);show tZ n f+f n<=tZ n g+g n;omega
theorem GI{f g:Nat->Nat}:∀(n:Nat),(∀k,k<n->f k<=g k)->(∃k,k<n/\f k<g k)->tZ n f<tZ n g
 | 0,_,⟨_,h,_⟩=>absurd h (by omega)
 | n+1,h,⟨k,hk,dj⟩=>by
  show tZ n f+f n<tZ n g+g n;have h1:=h n (by omega);by_cases e:k=n
  ·subst e
   have:=GS k (fun k hk=>h k (by omega));omega
  ·have:=GI n (fun k hk=>h k (by omega)) ⟨k,by omega,dj⟩
   omega
theorem CV{f:Nat->Nat}:∀(n:Nat),(∀k,k<n->f k<=m)->tZ n f<=n*m
 | 0,_=>Nat.zero_le _
 | n+1,h=>by have:=CV n (fun k hk=>h k (by omega));have:=h n (by omega);show tZ n f+f n<=(n+1)*m;rw[Nat.add_mul];omega
variable (K) in
def XL(e:D.Env)(k:Nat):Nat:=if h:k<8 then K.rk (e ⟨k,h⟩) else 0
variable (K) in
def OE(e:D.Env):Nat:=tZ 8 (XL K e)
theorem Nc{e:D.Env}(h:∀k,K.wf (e k)):OE K e<=8*K.top:=by refine CV 8 (fun k hk=>?_);unfold XL;rw[dif_pos hk];exact K.le _ (h _)
theorem RO{e g:D.Env}(h:∀k,K.rk (e k)<=K.rk (g k))(db:∃k,K.rk (e k)<K.rk (g k)):OE K e<OE K g:=by
 refine GI 8 (fun k hk=>?_) ?_
 ·unfold XL
  rw[dif_pos hk,dif_pos hk];exact h _
 ·obtain⟨k,hk⟩:=db
  exact⟨k.val,k.isLt,by unfold XL;rw[dif_pos k.isLt,dif_pos k.isLt];exact hk⟩
theorem yV{e n:D.Env}(he:∀k,K.wf (e k))(hn:∀k,K.wf (n k))(db:¬ (fun k=>D.join (e k) (n k))=e):∀g:D.Env,(∀k,K.rk (D.join (e k) (n k))<=K.rk (g k))->OE K e<OE K g:=by
 intro g hg;have h1:∀k,K.rk (e k)<=K.rk (D.join (e k) (n k)):=fun k=>by
  have hd:=D.dec (D.join (e k) (n k)) (e k);by_cases h:D.join (e k) (n k)=e k
  ·rw[h];exact Nat.le_refl _
  ·exact Nat.le_of_lt (K.join_lt _ _ (he k) (hn k) h)
 refine RO (fun k=>Nat.le_trans (h1 k) (hg k)) ?_;refine Classical.byContradiction fun NI=>db (funext fun k=>?_)
 refine Classical.byContradiction fun h=>NI ⟨k,Nat.lt_of_lt_of_le (K.join_lt _ _ (he k) (hn k) h) (hg k)⟩
def om(D:pO)(next:D.St->D.St)(d k:Nat)(i:D.St):D.St:=if d<k then nE D D.widen i (jn D i (next i)) else jn D i (next i)
theorem oX(D:pO)(next:D.St->D.St)(d f k:Nat)(i:D.St):fixF D next d (f+1) k i=if D3 D (jn D i (next i)) i=true then i else fixF D next d f (k+1) (om D next d k i):=rfl
theorem yI{next:D.St->D.St}{e:D.Env}(he:∀k,K.wf (e k))(hn:Wf K (next (some e)))(d k:Nat)(db:¬ jn D (some e) (next (some e))=some e):∃g:D.Env,om D next d k (some e)=some g/\(∀k,K.wf (g k))/\OE K e<OE K g:=by
 cases hx:next (some e) with
 | none=>rw[hx]at db;exact absurd rfl db
 | some n =>
  rw[hx]at db hn;have hn:=hn n rfl;have Dw:¬ (fun k=>D.join (e k) (n k))=e:=fun h=>db (by show some _=some e;rw[h])
  unfold om;rw[hx];by_cases hk:d<k
  ·rw[if_pos hk]
   exact⟨_,rfl,fun k=>K.wwiden _ _ (he k) (K.wjoin _ _ (he k) (hn k)),yV he hn Dw _ (fun k=>K.widen_le _ _ (he k) (hn k))⟩
  ·rw[if_neg hk]
   exact⟨_,rfl,fun k=>K.wjoin _ _ (he k) (hn k),yV he hn Dw _ (fun k=>Nat.le_refl _)⟩
theorem u5{next:D.St->D.St}(hn:∀i,Wf K i->Wf K (next i))(d:Nat):∀(f k:Nat) (e:D.Env),(∀k,K.wf (e k))->8*K.top<OE K e+f->∃g:D.Env,fixF D next d f k (some e)=some g/\jn D (some g) (next (some g))=some g
 | 0,_,e,he,hf=>by have:=Nc he;omega
 | f+1,k,e,he,hf=>by
  rw[oX];by_cases h:D3 D (jn D (some e) (next (some e))) (some e)=true
  ·rw[if_pos h]
   exact⟨e,rfl,(nk D _ _).1 h⟩
  ·rw[if_neg h]
   obtain⟨g,h1,h2,h3⟩:=yI he (hn _ (Wf.some he)) d k (fun h'=>h ((nk D _ _).2 h'));rw[h1];exact u5 hn d f (k+1) g h2 (by omega)
theorem y7{next:D.St->D.St}(hn:next none=none)(d:Nat):∀(f k:Nat),fixF D next d f k none=none
 | 0,_=>rfl
 | f+1,k=>by rw[oX,hn];exact if_pos rfl
variable (K) in
def qw(s i:D.St):Prop:=∀e,s=some e->∃g,i=some g/\∀k,K.sub (e k) (g k)
theorem wC{s t u:D.St}(h:qw K s t)(k:qw K t u):qw K s u:=fun e he=>by obtain⟨g,hg,h1⟩:=h e he;obtain⟨q,hq,h2⟩:=k g hg;exact⟨q,hq,fun k=>K.sub_trans _ _ _ (h1 k) (h2 k)⟩
theorem vX(s t:D.St):qw K s (jn D s t):=fun e he=>by
 subst he;cases t with
 | none=>exact⟨e,rfl,fun _=>K.sub_refl _⟩
 | some t=>exact⟨_,rfl,fun _=>K.sub_joinl _ _⟩
theorem LS(s t:D.St):qw K t (jn D s t):=fun e he=>by
 subst he;cases s with
 | none=>exact⟨e,rfl,fun _=>K.sub_refl _⟩
 | some s=>exact⟨_,rfl,fun _=>K.sub_joinr _ _⟩
theorem yE{e:D.Env}(we:∀k,K.wf (e k)){i n:D.St}(wi:Wf K i)(wn:Wf K n)(hi:qw K (some e) i)(hn:qw K (some e) n):Wf K (nE D D.narrow i n)/\qw K (some e) (nE D D.narrow i n):=by obtain⟨g,rfl,h1⟩:=hi e rfl;obtain⟨q,rfl,h2⟩:=hn e rfl;exact⟨Wf.some fun k=>K.wnarrow _ _ _ (wi _ rfl k) (wn _ rfl k) (we k) (h1 k) (h2 k),fun e' xE=>by cases xE;exact⟨_,rfl,fun k=>K.sub_narrow _ _ _ (h1 k) (h2 k)⟩⟩
theorem GC{cond:pQ D}{body:qS D}(hc:fO K cond)(hb:fg K body){e:D.Env}(we:∀k,K.wf (e k)):∀(n:Nat) (i:D.St),Wf K i->qw K (some e) i->Wf K (I5 D (jv D cond body (some e)) n i)/\qw K (some e) (I5 D (jv D cond body (some e)) n i)
 | 0,_,h,k=>⟨h,k⟩
 | n+1,i,h,k=>by obtain⟨h1,h2⟩:=yE we h (vh hc hb (Wf.some we) h) k (vX _ _);exact GC hc hb we n _ h1 h2
theorem y5{next:D.St->D.St}:∀(n:Nat),I5 D next n none=none
 | 0=>rfl
 | n+1=>y5 n
def sE(cond:pQ D):Prop:=cond none=([],none,none)
def qe(body:qS D):Prop:=body none=([],none)
theorem Jk{cond:pQ D}{body:qS D}(hc:sE cond)(hb:qe body):lL D P cond body none=none:=by
 unfold lL;have hn:jv D cond body none none=none:=by unfold jv;rw[hc,hb];rfl
 rw[y7 hn,y5]
theorem Gn{cond:pQ D}{body:qS D}{s i:D.St}(h:jn D i (jv D cond body s i)=i):qw K s i:=by
 have h1:=wC (K:=K) (vX s _) (LS i (jv D cond body s i))
 rwa [h]at h1
theorem so{cond:pQ D}{body:qS D}(hc:fO K cond)(hb:fg K body){e:D.Env}(we:∀k,K.wf (e k)):Wf K (lL D P cond body (some e))/\qw K (some e) (lL D P cond body (some e)):=by
 have hn:∀i,Wf K i->Wf K (jv D cond body (some e) i):=fun i hi=>vh hc hb (Wf.some we) hi
 obtain⟨i,h1,h2⟩:=u5 hn P.ao D.fuel 1 e we (by have:=K.fuel;omega);have wi:=z7 hn P.ao D.fuel 1 (some e) (Wf.some we);unfold lL;rw[h1]at wi ⊢;exact GC hc hb we _ _ wi (Gn h2)
theorem Ge{cond:pQ D}{body:qS D}(hc:fO K cond)(hb:fg K body)(nc:sE cond)(nb:qe body){s:D.St}(hs:Wf K s):Wf K (lL D P cond body s):=by
 cases s with
 | none=>rw[Jk nc nb];exact eG
 | some e=>exact(so hc hb (hs _ rfl)).1
theorem GU{cond:pQ D}{body:qS D}(hc:fO K cond)(hb:fg K body)(p:Int):∀(n:Nat) (out s:D.St),Wf K out->Wf K s->Wf K (jC D cond body p n out s).2.1/\Wf K (jC D cond body p n out s).2.2
 | 0,_,_,ho,hs=>⟨ho,hs⟩
 | n+1,_,_,ho,hs=>GU hc hb p n _ _ (kK ho (hc _ hs).2) (hb _ (hc _ hs).1)
theorem Ee{cond:pQ D}{body:qS D}(hc:fO K cond)(hb:fg K body)(nc:sE cond)(nb:qe body)(p:Int){s:D.St}(hs:Wf K s):Wf K (rA D P cond body p s).2:=by obtain⟨h1,h2⟩:=GU hc hb p P.aj none s eG hs;exact kK h1 (hc _ (Ge hc hb nc nb h2)).2
theorem sd{p:Int}{f:D.Env->uI D}(hf:∀e,(∀k,K.wf (e k))->Wf K (f e).2){s:D.St}(hs:Wf K s):Wf K (N3 D p f s).2:=by
 cases s with
 | none=>exact eG
 | some e=>exact hf e (hs _ rfl)
theorem ie(P:yZ):∀(t:Bl) (ct:Ct),cF D P t ct none=([],none)
 | .nil,_=>rfl
 | .assign k x t,ct=>by show gi D ([],none) (cF D P t _)=_;unfold gi;rw[ie P t];rfl
 | .read k t,ct=>by show gi D ([],none) (cF D P t _)=_;unfold gi;rw[ie P t];rfl
 | .assert k x y t,ct=>by show gi D ([],none) (cF D P t _)=_;unfold gi;rw[ie P t];rfl
 | .ite k x y xs true ys t,ct=>by show gi D ([],none) (cF D P t _)=_;unfold gi;rw[ie P t];rfl
 | .ite k x y xs false ys t,ct=>by show gi D ([],none) (cF D P t _)=_;unfold gi;rw[ie P t];rfl
 | .loop k x y xs t,ct=>by show gi D ([],none) (cF D P t _)=_;unfold gi;rw[ie P t];rfl
theorem fS(P:yZ):∀(t:Bl) (_:ti t) (ct:Ct) (s:D.St),Wf K s->Wf K (cF D P t ct s).2
 | .nil,_,_,_,hs=>hs
 | .assign k x t,hn,ct,s,hs=>fS P t (fun n h=>hn n (by simp[ig,h])) _ _ (sd (fun e he=>by
   unfold oI;intro e' h';cases hv:(dA D x (aD ct) e).2 with
   | none=>simp[hv]at h'
   | some v =>simp[hv]at h';subst h';exact wf_set he k (jk x (fun n h=>hn n (by simp[ig,h])) _ e he v hv)) hs)
 | .read k t,hn,ct,s,hs=>fS P t (fun n h=>hn n (by simp[ig,h])) _ _ (sd (fun e he=>Wf.some (wf_set he k K.wwhole)) hs)
 | .assert k x y t,hn,ct,s,hs=>fS P t (fun n h=>hn n (by simp[ig,h])) _ _ (sd (fun e he=>(lq (fun n h=>hn n (by simp[ig,h])) (fun n h=>hn n (by simp[ig,h])) (Wf.some he)).1) hs)
 | .ite k x y xs true ys t,hn,ct,s,hs=>fS P t (fun n h=>hn n (by simp[ig,h])) _ _ (sd (fun e he=>by have hc:=lq (k:=k) (ct:=aD ct) (K:=K) (x:=x) (y:=y) (fun n h=>hn n (by simp[ig,h])) (fun n h=>hn n (by simp[ig,h])) (Wf.some he);exact kK (fS P xs (fun n h=>hn n (by simp[ig,h])) _ _ hc.1) (fS P ys (fun n h=>hn n (by simp[ig,h])) _ _ hc.2)) hs)
 | .ite k x y xs false ys t,hn,ct,s,hs=>fS P t (fun n h=>hn n (by simp[ig,h])) _ _ (sd (fun e he=>by have hc:=lq (k:=k) (ct:=aD ct) (K:=K) (x:=x) (y:=y) (fun n h=>hn n (by simp[ig,h])) (fun n h=>hn n (by simp[ig,h])) (Wf.some he);exact kK (fS P xs (fun n h=>hn n (by simp[ig,h])) _ _ hc.1) hc.2) hs)
 | .loop k x y xs t,hn,ct,s,hs=>fS P t (fun n h=>hn n (by simp[ig,h])) _ _ (sd (fun e he =>Ee (fun s hs=>lq (fun n h=>hn n (by simp[ig,h])) (fun n h=>hn n (by simp[ig,h])) hs) (fun s hs=>fS P xs (fun n h=>hn n (by simp[ig,h])) _ s hs) rfl (ie P xs _) _ (Wf.some he)) hs)
end
end
end Sp
end
section
namespace Sp
section
variable {D : pO}(K : Rk D)
structure Ab:Prop where
 bF:∀x y,K.wf x->K.sub y x->D.join x y=x
def UU:gd D.V->Prop
 | .aA _ s=>∀k,K.wf (s k)
 | .site _ _=>True
variable {K}
theorem EO{k:Nat}{x:Sm}(hx:xh x)(ct:Ct)(e:D.Env)(he:∀k,K.wf (e k)):Wf K (oI D k x ct e).2:=by
 unfold oI;intro e' h';cases hv:(dA D x ct e).2 with
 | none=>rw[hv]at h';cases h'
 | some v =>
  rw[hv]at h';cases h'
  exact wf_set he k (jk x hx ct e he v hv)
theorem ML{cond:pQ D}{f g:D.St->uI D}(hc:fO K cond)(hf:fg K f)(hg:fg K g)(e:D.Env)(he:∀k,K.wf (e k)):Wf K (u9 D cond f g e).2 :=
 kK (hf _ (hc _ (Wf.some he)).1) (hg _ (hc _ (Wf.some he)).2)
variable (K)
def SQ(F:Found D):Prop:=∀s∈F.1,Wf K s
def Told(F:Found D):gd D.V->Prop
 | .aA p s=>∀f,F.1[p.toNat]?=some f->qw K (some s) f
 | .site q bad=>∀n,F.2[q.toNat]?=some n->(if bad then 2 else 1)<=n
def iO(F:Found D)(es:List (gd D.V)):Prop:=∀ev∈es,Told K F ev
variable {K}
theorem iL{α:Type}{l:List α}{p i:Nat}{f:α->α}{y:α}(h:(l.modify p f)[i]?=some y):∃x,l[i]?=some x/\y=if p=i then f x else x:=by
 rw[List.getElem?_modify]at h;cases hx:l[i]? with
 | none=>rw[hx]at h;simp at h
 | some x =>
  rw[hx]at h;refine⟨x,rfl,?_⟩;by_cases hp:p=i
  ·rw[if_pos hp];simpa [hp] using h.symm
  ·rw[if_neg hp];simpa [hp] using h.symm
theorem JQ{F:Found D}{x:gd D.V}(h:Told K F x)(y:gd D.V):Told K (cR D F y) x:=by
 cases x with
 | aA p s =>
  cases y with
  | site q b=>exact h
  | aA q t =>
   intro f hf;obtain⟨g,hg,rfl⟩:=iL hf;split
   ·exact wC (h g hg) (vX g _)
   ·exact h g hg
 | site q b =>
  cases y with
  | aA p t=>exact h
  | site q' b' =>
   intro n hn;obtain⟨m,hm,rfl⟩:=iL hn;have:=h m hm;by_cases hq:q'.toNat=q.toNat
   ·rw[if_pos hq];exact Nat.le_trans this (Nat.le_max_left _ _)
   ·rw[if_neg hq];exact this
theorem qq{F:Found D}{x:gd D.V}:∀(es:List (gd D.V)) {F:Found D},Told K F x->Told K (tell D F es) x
 | [],_,h=>h
 | y :: es,_,h=>qq (F:=F) es (JQ h y)
theorem iO.grow{F:Found D}{es:List (gd D.V)}(h:iO K F es)(es':List (gd D.V)):iO K (tell D F es') es:=fun ev hv=>qq (F:=F) es' (h ev hv)
theorem wU(F:Found D)(x:gd D.V):Told K (cR D F x) x:=by
 cases x with
 | aA p s =>intro f hf;obtain⟨g,_,rfl⟩:=iL hf;rw[if_pos rfl];exact LS g _
 | site q b =>intro n hn;obtain⟨m,_,rfl⟩:=iL hn;rw[if_pos rfl];omega
theorem sY:∀(es:List (gd D.V)) (F:Found D),iO K (tell D F es) es
 | [],_=>fun _ h=>by cases h
 | x :: es,F=>fun ev hv=>by
  rcases List.mem_cons.1 hv with rfl | hv
  ·exact qq (F:=F) es (wU F ev)
  ·exact sY es (cR D F x) ev hv
theorem O9(A:Ab K){f:D.St}{s:D.Env}(hf:Wf K f)(h:qw K (some s) f):jn D f (some s)=f:=by obtain⟨g,rfl,hg⟩:=h s rfl;show some (fun k=>D.join (g k) (s k))=some g;congr 1;funext k;exact A.bF _ _ (hf _ rfl k) (hg k)
theorem Et(A:Ab K){F:Found D}(hF:SQ K F){x:gd D.V}(h:Told K F x):cR D F x=F:=by
 obtain⟨fs,ns⟩:=F;cases x with
 | aA p s =>
  show(fs.modify p.toNat (fun f=>jn D f (some s)),ns)=(fs,ns);congr 1;refine List.ext_getElem? fun i=>?_
  rw[List.getElem?_modify];cases hi:fs[i]? with
  | none=>rfl
  | some f =>
   by_cases hp:p.toNat=i
   ·subst hp
    simp only[if_true,Option.map_eq_map,Option.map_some];rw[O9 A (hF f (List.mem_of_getElem? hi)) (h f hi)]
   ·simp[hp]
 | site q b =>
  show(fs,ns.modify q.toNat (fun n=>max n (if b then 2 else 1)))=(fs,ns);congr 1;refine List.ext_getElem? fun i=>?_
  rw[List.getElem?_modify];cases hi:ns[i]? with
  | none=>rfl
  | some n =>
   by_cases hp:q.toNat=i
   ·subst hp
    have:=h n hi;simp only[if_true,Option.map_eq_map,Option.map_some];rw[Nat.max_eq_left this]
   ·simp[hp]
theorem y6(A:Ab K){F:Found D}(hF:SQ K F):∀{es:List (gd D.V)},iO K F es->tell D F es=F
 | [],_=>rfl
 | x :: es,h=>by show tell D (cR D F x) es=F;rw[Et A hF (h x (List.mem_cons_self ..))];exact y6 A hF fun ev hv=>h ev (List.mem_cons_of_mem _ hv)
theorem yG{F:Found D}(hF:SQ K F){x:gd D.V}(h:UU K x):SQ K (cR D F x):=by
 cases x with
 | site q b=>exact hF
 | aA p s =>
  intro f hf;obtain⟨i,hi⟩:=List.getElem?_of_mem hf;obtain⟨g,hg,rfl⟩:=iL hi;have hw:=hF g (List.mem_of_getElem? hg);split
  ·exact kK hw (Wf.some h)
  ·exact hw
end
end Sp
end
end Go.Proofs.YtiopfihjmkfdmaaGreatDoor
