import Derived.Test.YtiopfihjmkfdmaaGreatDoorX5
namespace Go.Proofs.YtiopfihjmkfdmaaGreatDoor
namespace Sp
def cS:Sm→Ct→Ct
 | .num _,ct=>ct
 | .name _,ct=>ct
 | .neg x,ct=>cS x ct
 | .bin k x y,ct=>cS y (if 3≤k then siteUp (cS x ct) else cS x ct)
def cB:Bl→Ct→Ct
 | .nil,ct=>ct
 | .assign _ x t,ct=>cB t (cS x (ptUp ct))
 | .read _ t,ct=>cB t (ptUp ct)
 | .assert _ x y t,ct=>cB t (cS y (cS x (siteUp (ptUp ct))))
 | .ite _ x y xs els ys t,ct=>cB t (if els then cB ys (cB xs (cS y (cS x (ptUp ct)))) else cB xs (cS y (cS x (ptUp ct))))
 | .loop _ x y xs t,ct=>cB t (cB xs (cS y (cS x (ptUp ct))))
structure Dom where
 V:Type
 dec:DecidableEq V
 num:Int→V
 whole:V
 neg:V→V
 work:Nat→V→V→Option V
 nought:V→Bool
 join:V→V→V
 may:Nat→V→V→Bool
 bound:Nat→V→V→Option V
 widen:V→V→V
 narrow:V→V→V
 fuel:Nat
abbrev Dom.Env (D:Dom):=Fin 8→D.V
abbrev Dom.St (D:Dom):=Option D.Env
inductive Tel (V:Type) where
 | point (p:Int) (s:Fin 8→V)
 | site (q:Int) (bad:Bool)
structure Pol where
 delay:Nat
 narrow:Nat
 unroll:Nat
section
variable (D : Dom)
def jn:D.St→D.St→D.St
 | none,t=>t
 | some s,none=>some s
 | some s,some t=>some fun k=>D.join (s k) (t k)
def eachV (f:D.V→D.V→D.V):D.St→D.St→D.St
 | some s,some t=>some fun k=>f (s k) (t k)
 | _,_=>none
def eqS (s t:D.St):Bool:=match s,t with
 | none,none=>true
 | some s,some t=>@decide (∀ k,s k=t k) (@Nat.decidableForallFin 8 (fun k=>s k=t k) (fun k=>D.dec (s k) (t k)))
 | _,_=>false
theorem eqS_iff (s t:D.St):eqS D s t=true ↔ s=t:=by
 cases s with
 | none=>cases t <;> simp [eqS]
 | some s =>
  cases t with
  | none=>simp [eqS]
  | some t =>
   unfold eqS
   simp only [decide_eq_true_eq,Option.some.injEq]
   exact ⟨fun h=>funext h,fun h k=>by rw [h]⟩
def getV (s:D.Env) (k:Nat):D.V:=if h:k<8 then s ⟨k,h⟩ else D.whole
def setV (s:D.Env) (k:Nat) (v:D.V):D.Env:=fun j=>if j.val=k then v else s j
def telP (p:Int):D.St→List (Tel D.V)
 | none=>[]
 | some s=>[.point p s]
abbrev Res:=List (Tel D.V) × D.St
def mirror (r:Nat):Nat:=match r with
 | 0=>5 | 1=>4 | 2=>2 | 3=>3 | 4=>1 | _=>0
def opp (r:Nat):Nat:=match r with
 | 0=>4 | 1=>5 | 2=>3 | 3=>2 | 4=>0 | _=>1
def anS:Sm→Ct→D.Env→List (Tel D.V) × Option D.V
 | .num n,_,_=>([],some (D.num (n:Int)))
 | .name k,_,s=>([],some (getV D s k))
 | .neg x,ct,s=>((anS x ct s).1,(anS x ct s).2.map D.neg)
 | .bin k x y,ct,s=>match anS x ct s with
  | (e,none)=>(e,none)
  | (e,some a)=>(match anS y (if 3≤k then siteUp (cS x ct) else cS x ct) s with
   | (e',none)=>(e ++ e',none)
   | (e',some b)=>(e ++ e' ++ (if 3≤k then [.site (cS x ct).2 (D.nought b)] else []),D.work k a b))
def bndV (side:Sm) (r:Nat) (other:D.V) (s:D.St):D.St:=match s with
 | none=>none
 | some s=>(match side with
  | .name k=>(match D.bound r (getV D s k) other with
   | some v=>some (setV D s k v)
   | none=>none)
  | _=>some s)
def behindV (r:Nat) (x y:Sm) (a b:D.V) (s:D.Env):D.St :=
 if D.may r a b then bndV D y (mirror r) a (bndV D x r b (some s)) else none
def anC (k:Nat) (x y:Sm) (ct:Ct):D.St→List (Tel D.V) × D.St × D.St
 | none=>([],none,none)
 | some s=>(match anS D x ct s with
  | (e,none)=>(e,none,none)
  | (e,some a)=>(match anS D y (cS x ct) s with
   | (e',none)=>(e ++ e',none,none)
   | (e',some b)=>(e ++ e',behindV D k x y a b s,behindV D (opp k) x y a b s)))
def nxtV (cond:D.St→List (Tel D.V) × D.St × D.St) (body:D.St→Res D) (s i:D.St):D.St:=jn D s (body (cond i).2.1).2
def unrF (cond:D.St→List (Tel D.V) × D.St × D.St) (body:D.St→Res D) (p:Int):Nat→D.St→D.St→List (Tel D.V) × D.St × D.St
 | 0,out,s=>([],out,s)
 | n + 1,out,s =>
  (telP D p s ++ (cond s).1 ++ (body (cond s).2.1).1 ++ (unrF cond body p n (jn D out (cond s).2.2) (body (cond s).2.1).2).1,(unrF cond body p n (jn D out (cond s).2.2) (body (cond s).2.1).2).2)
def fixF (next:D.St→D.St) (delay:Nat):Nat→Nat→D.St→D.St
 | 0,_,i=>i
 | f + 1,k,i=>if eqS D (jn D i (next i)) i=true then i else fixF next delay f (k + 1) (if delay<k then eachV D D.widen i (jn D i (next i)) else jn D i (next i))
def narF (next:D.St→D.St):Nat→D.St→D.St
 | 0,i=>i
 | n + 1,i=>narF next n (eachV D D.narrow i (next i))
def allV (P:Pol) (cond:D.St→List (Tel D.V) × D.St × D.St) (body:D.St→Res D) (s:D.St):D.St :=
 narF D (nxtV D cond body s) P.narrow (fixF D (nxtV D cond body s) P.delay D.fuel 1 s)
def anW (P:Pol) (cond:D.St→List (Tel D.V) × D.St × D.St) (body:D.St→Res D) (p:Int) (s:D.St):Res D :=
 let u:=unrF D cond body p P.unroll none s
 let i:=allV D P cond body u.2.2
 (u.1 ++ telP D p i ++ (cond i).1 ++ (body (cond i).2.1).1,jn D u.2.1 (cond i).2.2)
def thenR (r:Res D) (f:D.St→Res D):Res D:=(r.1 ++ (f r.2).1,(f r.2).2)
def stP (p:Int) (f:D.Env→Res D):D.St→Res D
 | none=>([],none)
 | some s=>(.point p s :: (f s).1,(f s).2)
def stAssign (k:Nat) (x:Sm) (ct:Ct) (s:D.Env):Res D:=((anS D x ct s).1,(anS D x ct s).2.map fun v=>setV D s k v)
def stRead (k:Nat) (s:D.Env):Res D:=([],some (setV D s k D.whole))
def stAssert (site:Int) (k:Nat) (x y:Sm) (ct:Ct) (s:D.Env):Res D:=((anC D k x y ct (some s)).1 ++ [.site site (anC D k x y ct (some s)).2.2.isSome],(anC D k x y ct (some s)).2.1)
def stIf (cond:D.St→List (Tel D.V) × D.St × D.St) (f g:D.St→Res D) (s:D.Env):Res D :=
 ((cond (some s)).1 ++ (f (cond (some s)).2.1).1 ++ (g (cond (some s)).2.2).1,jn D (f (cond (some s)).2.1).2 (g (cond (some s)).2.2).2)
def anB (P:Pol):Bl→Ct→D.St→Res D
 | .nil,_,s=>([],s)
 | .assign k x t,ct,s=>thenR D (stP D ct.1 (stAssign D k x (ptUp ct)) s) (anB P t (cS x (ptUp ct)))
 | .read k t,ct,s=>thenR D (stP D ct.1 (stRead D k) s) (anB P t (ptUp ct))
 | .assert k x y t,ct,s=>thenR D (stP D ct.1 (stAssert D ct.2 k x y (siteUp (ptUp ct))) s) (anB P t (cS y (cS x (siteUp (ptUp ct)))))
 | .ite k x y xs true ys t,ct,s=>thenR D (stP D ct.1 (stIf D (anC D k x y (ptUp ct)) (anB P xs (cS y (cS x (ptUp ct)))) (anB P ys (cB xs (cS y (cS x (ptUp ct)))))) s) (anB P t (cB ys (cB xs (cS y (cS x (ptUp ct))))))
 | .ite k x y xs false _ t,ct,s=>thenR D (stP D ct.1 (stIf D (anC D k x y (ptUp ct)) (anB P xs (cS y (cS x (ptUp ct)))) (fun s=>([],s))) s) (anB P t (cB xs (cS y (cS x (ptUp ct)))))
 | .loop k x y xs t,ct,s=>thenR D (stP D ct.1 (fun s=>anW D P (anC D k x y (ptUp ct)) (anB P xs (cS y (cS x (ptUp ct)))) ct.1 (some s)) s) (anB P t (cB xs (cS y (cS x (ptUp ct)))))
abbrev Found:=List (D.St) × List Nat
def tell1 (F:Found D):Tel D.V→Found D
 | .point p s=>(F.1.modify p.toNat (fun f=>jn D f (some s)),F.2)
 | .site q bad=>(F.1,F.2.modify q.toNat (fun n=>max n (if bad then 2 else 1)))
def tell (F:Found D) (es:List (Tel D.V)):Found D:=es.foldl (tell1 D) F
def reportOf (P:Pol) (t:Bl):Found D :=
 let r:=anB D P t (0,0) (some fun _=>D.num 0)
 tell D (List.replicate ((cB t (0,0)).1 + 1).toNat none,List.replicate (cB t (0,0)).2.toNat 0) (r.1 ++ telP D (cB t (0,0)).1 r.2)
end
structure Iv where
 a:Int
 b:Int
deriving DecidableEq
def ivMeet (x y:Iv):Option Iv:=if max x.a y.a≤min x.b y.b then some ⟨max x.a y.a,min x.b y.b⟩ else none
def nuS:Sm→List Int
 | .num n=>[(n:Int)]
 | .name _=>[]
 | .neg x=>nuS x
 | .bin _ x y=>nuS x ++ nuS y
def nuB:Bl→List Int
 | .nil=>[]
 | .assign _ x rest=>nuS x ++ nuB rest
 | .read _ rest=>nuB rest
 | .assert _ x y rest=>nuS x ++ nuS y ++ nuB rest
 | .ite _ x y xs _ ys rest=>nuS x ++ nuS y ++ nuB xs ++ nuB ys ++ nuB rest
 | .loop _ x y xs rest=>nuS x ++ nuS y ++ nuB xs ++ nuB rest
end Sp
end Go.Proofs.YtiopfihjmkfdmaaGreatDoor
namespace Go.Proofs.YtiopfihjmkfdmaaGreatDoor
namespace Sp
def I16 (n:Int):Prop:=-32768≤n∧n≤32767
structure Rk (D:Dom) where
 wf:D.V→Prop
 rk:D.V→Nat
 top:Nat
 le:∀ x,wf x→rk x≤top
 wnum:∀ n,I16 n→wf (D.num n)
 wwhole:wf D.whole
 wneg:∀ x,wf x→wf (D.neg x)
 wwork:∀ k x y v,wf x→wf y→D.work k x y=some v→wf v
 wjoin:∀ x y,wf x→wf y→wf (D.join x y)
 wbound:∀ r x y v,wf x→wf y→D.bound r x y=some v→wf v
 wwiden:∀ x y,wf x→wf y→wf (D.widen x y)
 sub:D.V→D.V→Prop
 sub_refl:∀ x,sub x x
 sub_trans:∀ x y z,sub x y→sub y z→sub x z
 sub_joinl:∀ x y,sub x (D.join x y)
 sub_joinr:∀ x y,sub y (D.join x y)
 sub_narrow:∀ x y z,sub z x→sub z y→sub z (D.narrow x y)
 wnarrow:∀ x y z,wf x→wf y→wf z→sub z x→sub z y→wf (D.narrow x y)
 join_lt:∀ x y,wf x→wf y→D.join x y ≠ x→rk x<rk (D.join x y)
 widen_le:∀ x y,wf x→wf y→rk (D.join x y)≤rk (D.widen x (D.join x y))
 fuel:8 * top<D.fuel
section
variable {D : Dom} (K : Rk D)
def Wf (s:D.St):Prop:=∀ e,s=some e→∀ k,K.wf (e k)
variable {K}
theorem wf_none:Wf K none:=fun _ h=>by cases h
theorem Wf.some {e:D.Env} (h:∀ k,K.wf (e k)):Wf K (some e):=fun e' h'=>by cases h'; exact h
theorem wf_get {e:D.Env} (h:∀ k,K.wf (e k)) (k:Nat):K.wf (getV D e k):=by
 unfold getV
 split
 ·exact h _
 ·exact K.wwhole
theorem wf_set {e:D.Env} (h:∀ k,K.wf (e k)) (k:Nat) {v:D.V} (hv:K.wf v):∀ j,K.wf (setV D e k v j):=by
 intro j
 unfold setV
 split
 ·exact hv
 ·exact h j
theorem wf_jn {s t:D.St} (hs:Wf K s) (ht:Wf K t):Wf K (jn D s t):=by
 cases s with
 | none=>exact ht
 | some s =>
  cases t with
  | none=>exact hs
  | some t=>exact Wf.some fun k=>K.wjoin _ _ (hs _ rfl k) (ht _ rfl k)
def OkS (x:Sm):Prop:=∀ n ∈ nuS x,I16 n
def OkB (t:Bl):Prop:=∀ n ∈ nuB t,I16 n
theorem anS_wf:∀ (x:Sm) (_:OkS x) (ct:Ct) (e:D.Env) (_:∀ k,K.wf (e k)) (v:D.V),(anS D x ct e).2=some v→K.wf v
 | .num n,hn,_,_,_,v,h=>by cases h; exact K.wnum _ (hn _ (by simp [nuS]))
 | .name k,_,_,e,he,v,h=>by cases h; exact wf_get he k
 | .neg x,hn,ct,e,he,v,h=>by
  have h':(anS D x ct e).2.map D.neg=some v:=h
  cases hx:(anS D x ct e).2 with
  | none=>rw [hx] at h'; cases h'
  | some u =>
   rw [hx] at h'
   cases h'
   exact K.wneg _ (anS_wf x hn ct e he u hx)
 | .bin k x y,hn,ct,e,he,v,h=>by
  unfold anS at h
  have hnx:OkS x:=fun n h=>hn n (by simp [nuS,h])
  have hny:OkS y:=fun n h=>hn n (by simp [nuS,h])
  split at h
  ·cases h
  ·next e1 a h1 =>
   split at h
   ·cases h
   ·next e2 b h2 =>
    exact K.wwork k a b v (anS_wf x hnx ct e he a (by rw [h1])) (anS_wf y hny _ e he b (by rw [h2])) h
theorem bndV_wf {side:Sm} {r:Nat} {other:D.V} {s:D.St} (hs:Wf K s) (ho:K.wf other):Wf K (bndV D side r other s):=by
 cases s with
 | none=>exact wf_none
 | some s =>
  unfold bndV
  simp only
  split
  ·split
   ·next v hv=>exact Wf.some (wf_set (hs _ rfl) _ (K.wbound _ _ _ _ (wf_get (hs _ rfl) _) ho hv))
   ·exact wf_none
  ·exact hs
theorem behindV_wf {r:Nat} {x y:Sm} {a b:D.V} {e:D.Env} (he:∀ k,K.wf (e k)) (ha:K.wf a) (hb:K.wf b):Wf K (behindV D r x y a b e):=by
 unfold behindV
 split
 ·exact bndV_wf (bndV_wf (Wf.some he) hb) ha
 ·exact wf_none
theorem anC_wf {k:Nat} {x y:Sm} (hx:OkS x) (hy:OkS y) {ct:Ct} {s:D.St} (hs:Wf K s):Wf K (anC D k x y ct s).2.1∧Wf K (anC D k x y ct s).2.2:=by
 cases s with
 | none=>exact ⟨wf_none,wf_none⟩
 | some e =>
  unfold anC
  simp only
  split
  ·exact ⟨wf_none,wf_none⟩
  ·next e1 a h1 =>
   split
   ·exact ⟨wf_none,wf_none⟩
   ·next e2 b h2 =>
    have ha:=anS_wf x hx ct e (hs _ rfl) a (by rw [h1])
    have hb:=anS_wf y hy _ e (hs _ rfl) b (by rw [h2])
    exact ⟨behindV_wf (hs _ rfl) ha hb,behindV_wf (hs _ rfl) ha hb⟩
abbrev CondF (D:Dom):=D.St→List (Tel D.V) × D.St × D.St
abbrev BodyF (D:Dom):=D.St→Res D
def CondWf (K:Rk D) (cond:CondF D):Prop:=∀ s,Wf K s→Wf K (cond s).2.1∧Wf K (cond s).2.2
def BodyWf (K:Rk D) (body:BodyF D):Prop:=∀ s,Wf K s→Wf K (body s).2
theorem nxt_wf {cond:CondF D} {body:BodyF D} (hc:CondWf K cond) (hb:BodyWf K body) {s i:D.St} (hs:Wf K s) (hi:Wf K i):Wf K (nxtV D cond body s i):=wf_jn hs (hb _ (hc _ hi).1)
theorem each_wf {f:D.V→D.V→D.V} (hf:∀ x y,K.wf x→K.wf y→K.wf (f x y)) {s t:D.St} (hs:Wf K s) (ht:Wf K t):Wf K (eachV D f s t):=by
 cases s with
 | none=>exact wf_none
 | some s =>
  cases t with
  | none=>exact wf_none
  | some t=>exact Wf.some fun k=>hf _ _ (hs _ rfl k) (ht _ rfl k)
theorem fixF_wf {next:D.St→D.St} (hn:∀ i,Wf K i→Wf K (next i)) (d:Nat):∀ (f k:Nat) (i:D.St),Wf K i→Wf K (fixF D next d f k i)
 | 0,_,_,h=>h
 | f + 1,k,i,h=>by
  unfold fixF
  split
  ·exact h
  ·refine fixF_wf hn d f (k + 1) _ ?_
   split
   ·exact each_wf K.wwiden h (wf_jn h (hn _ h))
   ·exact wf_jn h (hn _ h)
def sumF:Nat→(Nat→Nat)→Nat
 | 0,_=>0
 | n + 1,f=>sumF n f + f n
theorem sumF_le {f g:Nat→Nat}:∀ (n:Nat),(∀ k,k<n→f k≤g k)→sumF n f≤sumF n g
 | 0,_=>Nat.le_refl _
 | n + 1,h=>by
  have:=sumF_le n (fun k hk=>h k (by omega))
  have:=h n (by omega)
  show sumF n f + f n≤sumF n g + g n
  omega
theorem sumF_lt {f g:Nat→Nat}:∀ (n:Nat),(∀ k,k<n→f k≤g k)→(∃ k,k<n∧f k<g k)→sumF n f<sumF n g
 | 0,_,⟨_,h,_⟩=>absurd h (by omega)
 | n + 1,h,⟨k,hk,hlt⟩=>by
  show sumF n f + f n<sumF n g + g n
  have h1:=h n (by omega)
  by_cases e:k=n
  ·subst e
   have:=sumF_le k (fun k hk=>h k (by omega))
   omega
  ·have:=sumF_lt n (fun k hk=>h k (by omega)) ⟨k,by omega,hlt⟩
   omega
theorem sumF_top {f:Nat→Nat} {m:Nat}:∀ (n:Nat),(∀ k,k<n→f k≤m)→sumF n f≤n * m
 | 0,_=>Nat.zero_le _
 | n + 1,h=>by
  have:=sumF_top n (fun k hk=>h k (by omega))
  have:=h n (by omega)
  show sumF n f + f n≤(n + 1) * m
  rw [Nat.add_mul]
  omega
variable (K) in
def rkF (e:D.Env) (k:Nat):Nat:=if h:k<8 then K.rk (e ⟨k,h⟩) else 0
variable (K) in
def rkE (e:D.Env):Nat:=sumF 8 (rkF K e)
theorem rkE_le {e:D.Env} (h:∀ k,K.wf (e k)):rkE K e≤8 * K.top:=by
 refine sumF_top 8 (fun k hk=>?_)
 unfold rkF
 rw [dif_pos hk]
 exact K.le _ (h _)
theorem rkE_lt {e g:D.Env} (h:∀ k,K.rk (e k)≤K.rk (g k)) (hne:∃ k,K.rk (e k)<K.rk (g k)):rkE K e<rkE K g:=by
 refine sumF_lt 8 (fun k hk=>?_) ?_
 ·unfold rkF
  rw [dif_pos hk,dif_pos hk]; exact h _
 ·obtain ⟨k,hk⟩:=hne
  exact ⟨k.val,k.isLt,by unfold rkF; rw [dif_pos k.isLt,dif_pos k.isLt]; exact hk⟩
theorem join_rise {e n:D.Env} (he:∀ k,K.wf (e k)) (hn:∀ k,K.wf (n k)) (hne:¬ (fun k=>D.join (e k) (n k))=e):∀ g:D.Env,(∀ k,K.rk (D.join (e k) (n k))≤K.rk (g k))→rkE K e<rkE K g:=by
 intro g hg
 have h1:∀ k,K.rk (e k)≤K.rk (D.join (e k) (n k)):=fun k=>by
  have hd:=D.dec (D.join (e k) (n k)) (e k)
  by_cases h:D.join (e k) (n k)=e k
  ·rw [h]; exact Nat.le_refl _
  ·exact Nat.le_of_lt (K.join_lt _ _ (he k) (hn k) h)
 refine rkE_lt (fun k=>Nat.le_trans (h1 k) (hg k)) ?_
 refine Classical.byContradiction fun hno=>hne (funext fun k=>?_)
 refine Classical.byContradiction fun h=>hno ⟨k,Nat.lt_of_lt_of_le (K.join_lt _ _ (he k) (hn k) h) (hg k)⟩
def stepV (D:Dom) (next:D.St→D.St) (d k:Nat) (i:D.St):D.St:=if d<k then eachV D D.widen i (jn D i (next i)) else jn D i (next i)
theorem fixF_succ (D:Dom) (next:D.St→D.St) (d f k:Nat) (i:D.St):fixF D next d (f + 1) k i=if eqS D (jn D i (next i)) i=true then i else fixF D next d f (k + 1) (stepV D next d k i):=rfl
theorem step_rise {next:D.St→D.St} {e:D.Env} (he:∀ k,K.wf (e k)) (hn:Wf K (next (some e))) (d k:Nat) (hne:¬ jn D (some e) (next (some e))=some e):∃ g:D.Env,stepV D next d k (some e)=some g∧(∀ k,K.wf (g k))∧rkE K e<rkE K g:=by
 cases hx:next (some e) with
 | none=>rw [hx] at hne; exact absurd rfl hne
 | some n =>
  rw [hx] at hne hn
  have hn:=hn n rfl
  have hne':¬ (fun k=>D.join (e k) (n k))=e:=fun h=>hne (by show some _=some e; rw [h])
  unfold stepV
  rw [hx]
  by_cases hk:d<k
  ·rw [if_pos hk]
   exact ⟨_,rfl,fun k=>K.wwiden _ _ (he k) (K.wjoin _ _ (he k) (hn k)),join_rise he hn hne' _ (fun k=>K.widen_le _ _ (he k) (hn k))⟩
  ·rw [if_neg hk]
   exact ⟨_,rfl,fun k=>K.wjoin _ _ (he k) (hn k),join_rise he hn hne' _ (fun k=>Nat.le_refl _)⟩
theorem fixF_fix {next:D.St→D.St} (hn:∀ i,Wf K i→Wf K (next i)) (d:Nat):∀ (f k:Nat) (e:D.Env),(∀ k,K.wf (e k))→8 * K.top<rkE K e + f→∃ g:D.Env,fixF D next d f k (some e)=some g∧jn D (some g) (next (some g))=some g
 | 0,_,e,he,hf=>by have:=rkE_le he; omega
 | f + 1,k,e,he,hf=>by
  rw [fixF_succ]
  by_cases h:eqS D (jn D (some e) (next (some e))) (some e)=true
  ·rw [if_pos h]
   exact ⟨e,rfl,(eqS_iff D _ _).1 h⟩
  ·rw [if_neg h]
   obtain ⟨g,h1,h2,h3⟩:=step_rise he (hn _ (Wf.some he)) d k (fun h'=>h ((eqS_iff D _ _).2 h'))
   rw [h1]
   exact fixF_fix hn d f (k + 1) g h2 (by omega)
theorem fixF_none {next:D.St→D.St} (hn:next none=none) (d:Nat):∀ (f k:Nat),fixF D next d f k none=none
 | 0,_=>rfl
 | f + 1,k=>by
  rw [fixF_succ,hn]
  exact if_pos rfl
variable (K) in
def subS (s i:D.St):Prop:=∀ e,s=some e→∃ g,i=some g∧∀ k,K.sub (e k) (g k)
theorem subS_trans {s t u:D.St} (h:subS K s t) (k:subS K t u):subS K s u:=fun e he=>by
 obtain ⟨g,hg,h1⟩:=h e he
 obtain ⟨q,hq,h2⟩:=k g hg
 exact ⟨q,hq,fun k=>K.sub_trans _ _ _ (h1 k) (h2 k)⟩
theorem subS_l (s t:D.St):subS K s (jn D s t):=fun e he=>by
 subst he
 cases t with
 | none=>exact ⟨e,rfl,fun _=>K.sub_refl _⟩
 | some t=>exact ⟨_,rfl,fun _=>K.sub_joinl _ _⟩
theorem subS_r (s t:D.St):subS K t (jn D s t):=fun e he=>by
 subst he
 cases s with
 | none=>exact ⟨e,rfl,fun _=>K.sub_refl _⟩
 | some s=>exact ⟨_,rfl,fun _=>K.sub_joinr _ _⟩
theorem narrow_wf {e:D.Env} (we:∀ k,K.wf (e k)) {i n:D.St} (wi:Wf K i) (wn:Wf K n) (hi:subS K (some e) i) (hn:subS K (some e) n):Wf K (eachV D D.narrow i n)∧subS K (some e) (eachV D D.narrow i n):=by
 obtain ⟨g,rfl,h1⟩:=hi e rfl
 obtain ⟨q,rfl,h2⟩:=hn e rfl
 exact ⟨Wf.some fun k=>K.wnarrow _ _ _ (wi _ rfl k) (wn _ rfl k) (we k) (h1 k) (h2 k),fun e' he'=>by cases he'; exact ⟨_,rfl,fun k=>K.sub_narrow _ _ _ (h1 k) (h2 k)⟩⟩
theorem narF_wf {cond:CondF D} {body:BodyF D} (hc:CondWf K cond) (hb:BodyWf K body) {e:D.Env} (we:∀ k,K.wf (e k)):∀ (n:Nat) (i:D.St),Wf K i→subS K (some e) i→Wf K (narF D (nxtV D cond body (some e)) n i)∧subS K (some e) (narF D (nxtV D cond body (some e)) n i)
 | 0,_,h,k=>⟨h,k⟩
 | n + 1,i,h,k=>by
  obtain ⟨h1,h2⟩:=narrow_wf we h (nxt_wf hc hb (Wf.some we) h) k (subS_l _ _)
  exact narF_wf hc hb we n _ h1 h2
theorem narF_none {next:D.St→D.St}:∀ (n:Nat),narF D next n none=none
 | 0=>rfl
 | n + 1=>narF_none n
def CondNo (cond:CondF D):Prop:=cond none=([],none,none)
def BodyNo (body:BodyF D):Prop:=body none=([],none)
theorem allV_none {P:Pol} {cond:CondF D} {body:BodyF D} (hc:CondNo cond) (hb:BodyNo body):allV D P cond body none=none:=by
 unfold allV
 have hn:nxtV D cond body none none=none:=by
  unfold nxtV
  rw [hc,hb]; rfl
 rw [fixF_none hn,narF_none]
theorem fix_sub {cond:CondF D} {body:BodyF D} {s i:D.St} (h:jn D i (nxtV D cond body s i)=i):subS K s i:=by
 have h1:=subS_trans (K:=K) (subS_l s _) (subS_r i (nxtV D cond body s i))
 rwa [h] at h1
theorem allV_some {P:Pol} {cond:CondF D} {body:BodyF D} (hc:CondWf K cond) (hb:BodyWf K body) {e:D.Env} (we:∀ k,K.wf (e k)):Wf K (allV D P cond body (some e))∧subS K (some e) (allV D P cond body (some e)):=by
 have hn:∀ i,Wf K i→Wf K (nxtV D cond body (some e) i):=fun i hi=>nxt_wf hc hb (Wf.some we) hi
 obtain ⟨i,h1,h2⟩:=fixF_fix hn P.delay D.fuel 1 e we (by have:=K.fuel; omega)
 have wi:=fixF_wf hn P.delay D.fuel 1 (some e) (Wf.some we)
 unfold allV
 rw [h1] at wi ⊢
 exact narF_wf hc hb we _ _ wi (fix_sub h2)
theorem allV_wf {P:Pol} {cond:CondF D} {body:BodyF D} (hc:CondWf K cond) (hb:BodyWf K body) (nc:CondNo cond) (nb:BodyNo body) {s:D.St} (hs:Wf K s):Wf K (allV D P cond body s):=by
 cases s with
 | none=>rw [allV_none nc nb]; exact wf_none
 | some e=>exact (allV_some hc hb (hs _ rfl)).1
theorem unrF_wf {cond:CondF D} {body:BodyF D} (hc:CondWf K cond) (hb:BodyWf K body) (p:Int):∀ (n:Nat) (out s:D.St),Wf K out→Wf K s→Wf K (unrF D cond body p n out s).2.1∧Wf K (unrF D cond body p n out s).2.2
 | 0,_,_,ho,hs=>⟨ho,hs⟩
 | n + 1,_,_,ho,hs=>unrF_wf hc hb p n _ _ (wf_jn ho (hc _ hs).2) (hb _ (hc _ hs).1)
theorem anW_wf {P:Pol} {cond:CondF D} {body:BodyF D} (hc:CondWf K cond) (hb:BodyWf K body) (nc:CondNo cond) (nb:BodyNo body) (p:Int) {s:D.St} (hs:Wf K s):Wf K (anW D P cond body p s).2:=by
 obtain ⟨h1,h2⟩:=unrF_wf hc hb p P.unroll none s wf_none hs
 exact wf_jn h1 (hc _ (allV_wf hc hb nc nb h2)).2
theorem stP_wf {p:Int} {f:D.Env→Res D} (hf:∀ e,(∀ k,K.wf (e k))→Wf K (f e).2) {s:D.St} (hs:Wf K s):Wf K (stP D p f s).2:=by
 cases s with
 | none=>exact wf_none
 | some e=>exact hf e (hs _ rfl)
theorem anB_none (P:Pol):∀ (t:Bl) (ct:Ct),anB D P t ct none=([],none)
 | .nil,_=>rfl
 | .assign k x t,ct=>by
  show thenR D ([],none) (anB D P t _)=_
  unfold thenR; rw [anB_none P t]; rfl
 | .read k t,ct=>by
  show thenR D ([],none) (anB D P t _)=_
  unfold thenR; rw [anB_none P t]; rfl
 | .assert k x y t,ct=>by
  show thenR D ([],none) (anB D P t _)=_
  unfold thenR; rw [anB_none P t]; rfl
 | .ite k x y xs true ys t,ct=>by
  show thenR D ([],none) (anB D P t _)=_
  unfold thenR; rw [anB_none P t]; rfl
 | .ite k x y xs false ys t,ct=>by
  show thenR D ([],none) (anB D P t _)=_
  unfold thenR; rw [anB_none P t]; rfl
 | .loop k x y xs t,ct=>by
  show thenR D ([],none) (anB D P t _)=_
  unfold thenR; rw [anB_none P t]; rfl
theorem anB_wf (P:Pol):∀ (t:Bl) (_:OkB t) (ct:Ct) (s:D.St),Wf K s→Wf K (anB D P t ct s).2
 | .nil,_,_,_,hs=>hs
 | .assign k x t,hn,ct,s,hs=>anB_wf P t (fun n h=>hn n (by simp [nuB,h])) _ _ (stP_wf (fun e he=>by
   unfold stAssign
   intro e' h'
   cases hv:(anS D x (ptUp ct) e).2 with
   | none=>simp [hv] at h'
   | some v =>
    simp [hv] at h'
    subst h'
    exact wf_set he k (anS_wf x (fun n h=>hn n (by simp [nuB,h])) _ e he v hv)) hs)
 | .read k t,hn,ct,s,hs=>anB_wf P t (fun n h=>hn n (by simp [nuB,h])) _ _ (stP_wf (fun e he=>Wf.some (wf_set he k K.wwhole)) hs)
 | .assert k x y t,hn,ct,s,hs=>anB_wf P t (fun n h=>hn n (by simp [nuB,h])) _ _ (stP_wf (fun e he=>(anC_wf (fun n h=>hn n (by simp [nuB,h])) (fun n h=>hn n (by simp [nuB,h])) (Wf.some he)).1) hs)
 | .ite k x y xs true ys t,hn,ct,s,hs=>anB_wf P t (fun n h=>hn n (by simp [nuB,h])) _ _ (stP_wf (fun e he=>by
   have hc:=anC_wf (k:=k) (ct:=ptUp ct) (K:=K) (x:=x) (y:=y) (fun n h=>hn n (by simp [nuB,h])) (fun n h=>hn n (by simp [nuB,h])) (Wf.some he)
   exact wf_jn (anB_wf P xs (fun n h=>hn n (by simp [nuB,h])) _ _ hc.1) (anB_wf P ys (fun n h=>hn n (by simp [nuB,h])) _ _ hc.2)) hs)
 | .ite k x y xs false ys t,hn,ct,s,hs=>anB_wf P t (fun n h=>hn n (by simp [nuB,h])) _ _ (stP_wf (fun e he=>by
   have hc:=anC_wf (k:=k) (ct:=ptUp ct) (K:=K) (x:=x) (y:=y) (fun n h=>hn n (by simp [nuB,h])) (fun n h=>hn n (by simp [nuB,h])) (Wf.some he)
   exact wf_jn (anB_wf P xs (fun n h=>hn n (by simp [nuB,h])) _ _ hc.1) hc.2) hs)
 | .loop k x y xs t,hn,ct,s,hs=>anB_wf P t (fun n h=>hn n (by simp [nuB,h])) _ _ (stP_wf (fun e he =>
   anW_wf (fun s hs=>anC_wf (fun n h=>hn n (by simp [nuB,h])) (fun n h=>hn n (by simp [nuB,h])) hs) (fun s hs=>anB_wf P xs (fun n h=>hn n (by simp [nuB,h])) _ s hs) rfl (anB_none P xs _) _ (Wf.some he)) hs)
end
end Sp
end Go.Proofs.YtiopfihjmkfdmaaGreatDoor
namespace Go.Proofs.YtiopfihjmkfdmaaGreatDoor
namespace Sp
def nS:Sm→Nat
 | .num _=>0
 | .name _=>0
 | .neg x=>nS x
 | .bin k x y=>nS x + (if 3≤k then 1 else 0) + nS y
def pB:Bl→Nat
 | .nil=>0
 | .assign _ _ t=>1 + pB t
 | .read _ t=>1 + pB t
 | .assert _ _ _ t=>1 + pB t
 | .ite _ _ _ xs els ys t=>1 + pB xs + (if els then pB ys else 0) + pB t
 | .loop _ _ _ xs t=>1 + pB xs + pB t
def qB:Bl→Nat
 | .nil=>0
 | .assign _ x t=>nS x + qB t
 | .read _ t=>qB t
 | .assert _ x y t=>1 + nS x + nS y + qB t
 | .ite _ x y xs els ys t=>nS x + nS y + qB xs + (if els then qB ys else 0) + qB t
 | .loop _ x y xs t=>nS x + nS y + qB xs + qB t
theorem ptUp_eq {ct:Ct} (h:0≤ct.1) (h':ct.1≤1000000):ptUp ct=(ct.1 + 1,ct.2):=by
 unfold ptUp RowKit.wrap64
 simp
 omega
theorem siteUp_eq {ct:Ct} (h:0≤ct.2) (h':ct.2≤1000000):siteUp ct=(ct.1,ct.2 + 1):=by
 unfold siteUp RowKit.wrap64
 simp
 omega
theorem cS_sm:∀ (x:Sm) (ct:Ct),0≤ct.2→ct.2 + nS x≤1000000→cS x ct=(ct.1,ct.2 + nS x)
 | .num _,ct,_,_=>by simp [cS,nS]
 | .name _,ct,_,_=>by simp [cS,nS]
 | .neg x,ct,h,h'=>cS_sm x ct h h'
 | .bin k x y,ct,h,h'=>by
  have h'':ct.2 + ((nS x + (if 3≤k then 1 else 0) + nS y:Nat):Int)≤1000000:=h'
  show cS y (if 3≤k then siteUp (cS x ct) else cS x ct)=(ct.1,ct.2 + ((nS x + (if 3≤k then 1 else 0) + nS y:Nat):Int))
  rw [cS_sm x ct h (by split at h'' <;> omega)]
  by_cases h3:3≤k
  ·rw [if_pos h3,if_pos h3] at *
   rw [siteUp_eq (by simp; omega) (by simp; omega)]
   rw [cS_sm y _ (by simp; omega) (by simp; omega)]
   simp; omega
  ·rw [if_neg h3,if_neg h3] at *
   rw [cS_sm y _ (by simp; omega) (by simp; omega)]
   simp; omega
def Small (ct:Ct) (n m:Nat):Prop:=0≤ct.1∧0≤ct.2∧ct.1 + n≤1000000∧ct.2 + m≤1000000
theorem cB_sm:∀ (t:Bl) (ct:Ct),Small ct (pB t) (qB t)→cB t ct=(ct.1 + pB t,ct.2 + qB t)
 | .nil,ct,_=>by simp [cB,pB,qB]
 | .assign _ x t,ct,⟨h1,h2,h3,h4⟩=>by
  simp only [pB,qB] at h3 h4
  show cB t (cS x (ptUp ct))=_
  rw [ptUp_eq h1 (by omega),cS_sm x (ct.1 + 1,ct.2) h2 (by simp; omega),cB_sm t _ ⟨by simp; omega,by simp; omega,by simp; omega,by simp; omega⟩]
  simp [pB,qB]; omega
 | .read _ t,ct,⟨h1,h2,h3,h4⟩=>by
  simp only [pB,qB] at h3 h4
  show cB t (ptUp ct)=_
  rw [ptUp_eq h1 (by omega),cB_sm t _ ⟨by simp; omega,by simp; omega,by simp; omega,by simp; omega⟩]
  simp [pB,qB]; omega
 | .assert _ x y t,ct,⟨h1,h2,h3,h4⟩=>by
  simp only [pB,qB] at h3 h4
  show cB t (cS y (cS x (siteUp (ptUp ct))))=_
  rw [ptUp_eq h1 (by omega),siteUp_eq (by simp; omega) (by simp; omega),cS_sm x _ (by simp; omega) (by simp; omega),cS_sm y _ (by simp; omega) (by simp; omega),cB_sm t _ ⟨by simp; omega,by simp; omega,by simp; omega,by simp; omega⟩]
  simp [pB,qB]; omega
 | .ite _ x y xs true ys t,ct,⟨h1,h2,h3,h4⟩=>by
  simp only [pB,qB,if_true] at h3 h4
  show cB t (cB ys (cB xs (cS y (cS x (ptUp ct)))))=_
  rw [ptUp_eq h1 (by omega),cS_sm x _ (by simp; omega) (by simp; omega),cS_sm y _ (by simp; omega) (by simp; omega),cB_sm xs _ ⟨by simp; omega,by simp; omega,by simp; omega,by simp; omega⟩,cB_sm ys _ ⟨by simp; omega,by simp; omega,by simp; omega,by simp; omega⟩,cB_sm t _ ⟨by simp; omega,by simp; omega,by simp; omega,by simp; omega⟩]
  simp [pB,qB]; omega
 | .ite _ x y xs false ys t,ct,⟨h1,h2,h3,h4⟩=>by
  simp only [pB,qB] at h3 h4
  show cB t (cB xs (cS y (cS x (ptUp ct))))=_
  simp at h3 h4
  rw [ptUp_eq h1 (by omega),cS_sm x _ (by simp; omega) (by simp; omega),cS_sm y _ (by simp; omega) (by simp; omega),cB_sm xs _ ⟨by simp; omega,by simp; omega,by simp; omega,by simp; omega⟩,cB_sm t _ ⟨by simp; omega,by simp; omega,by simp; omega,by simp; omega⟩]
  simp [pB,qB]; omega
 | .loop _ x y xs t,ct,⟨h1,h2,h3,h4⟩=>by
  simp only [pB,qB] at h3 h4
  show cB t (cB xs (cS y (cS x (ptUp ct))))=_
  rw [ptUp_eq h1 (by omega),cS_sm x _ (by simp; omega) (by simp; omega),cS_sm y _ (by simp; omega) (by simp; omega),cB_sm xs _ ⟨by simp; omega,by simp; omega,by simp; omega,by simp; omega⟩,cB_sm t _ ⟨by simp; omega,by simp; omega,by simp; omega,by simp; omega⟩]
  simp [pB,qB]; omega
section
variable {D : Dom}
def EvIn (lo hi:Ct):Tel D.V→Prop
 | .point p _=>lo.1≤p∧p<hi.1
 | .site q _=>lo.2≤q∧q<hi.2
theorem EvIn.mono {lo hi lo' hi':Ct} {x:Tel D.V} (h:EvIn lo hi x) (h1:lo'.1≤lo.1) (h2:lo'.2≤lo.2) (h3:hi.1≤hi'.1) (h4:hi.2≤hi'.2):EvIn lo' hi' x:=by
 cases x with
 | point p s=>exact ⟨Int.le_trans h1 h.1,Int.lt_of_lt_of_le h.2 h3⟩
 | site q b=>exact ⟨Int.le_trans h2 h.1,Int.lt_of_lt_of_le h.2 h4⟩
theorem anS_in:∀ (x:Sm) (ct:Ct) (e:D.Env),0≤ct.2→ct.2 + nS x≤1000000→∀ ev ∈ (anS D x ct e).1,EvIn ct (ct.1,ct.2 + nS x) ev
 | .num _,_,_,_,_,ev,h=>by cases h
 | .name _,_,_,_,_,ev,h=>by cases h
 | .neg x,ct,e,h1,h2,ev,h=>anS_in x ct e h1 h2 ev h
 | .bin k x y,ct,e,h1,h2,ev,h=>by
  have h2':ct.2 + ((nS x + (if 3≤k then 1 else 0) + nS y:Nat):Int)≤1000000:=h2
  have hx:=anS_in x ct e h1 (by split at h2' <;> omega)
  have ec:=cS_sm x ct h1 (by split at h2' <;> omega)
  have hm1:∀ ev ∈ (anS D x ct e).1,EvIn ct (ct.1,ct.2 + (nS (.bin k x y):Nat)) ev:=fun ev h=>(hx ev h).mono (Int.le_refl _) (Int.le_refl _) (Int.le_refl _) (by show ct.2 + (nS x:Int)≤ct.2 + ((nS x + (if 3≤k then 1 else 0) + nS y:Nat):Int); omega)
  have hm2:∀ ev ∈ (anS D y (if 3≤k then siteUp (cS x ct) else cS x ct) e).1,EvIn ct (ct.1,ct.2 + (nS (.bin k x y):Nat)) ev:=by
   rw [ec]
   intro ev h
   by_cases h3:3≤k
   ·rw [if_pos h3] at h h2'
    rw [siteUp_eq (by simp; omega) (by simp; omega)] at h
    refine (anS_in y _ e (by simp; omega) (by simp; omega) ev h).mono (Int.le_refl _) (by simp; omega) (Int.le_refl _) ?_
    simp [nS,h3]; omega
   ·rw [if_neg h3] at h h2'
    refine (anS_in y _ e (by simp; omega) (by simp; omega) ev h).mono (Int.le_refl _) (by simp; omega) (Int.le_refl _) ?_
    simp [nS,h3]; omega
  unfold anS at h
  split at h
  ·next e1 k1=>exact hm1 ev (by rw [k1]; exact h)
  ·next e1 a k1 =>
   split at h
   ·next e2 k2 =>
    rcases List.mem_append.1 h with h | h
    ·exact hm1 ev (by rw [k1]; exact h)
    ·exact hm2 ev (by rw [k2]; exact h)
   ·next e2 b k2 =>
    rcases List.mem_append.1 h with h | h
    ·rcases List.mem_append.1 h with h | h
     ·exact hm1 ev (by rw [k1]; exact h)
     ·exact hm2 ev (by rw [k2]; exact h)
    ·by_cases h3:3≤k
     ·rw [if_pos h3] at h
      have:=List.mem_singleton.1 h
      subst this
      rw [ec]
      simp [EvIn,nS,h3]; omega
     ·rw [if_neg h3] at h
      cases h
theorem anC_in (k:Nat) (x y:Sm) (ct:Ct) (s:D.St) (h1:0≤ct.2) (h2:ct.2 + nS x + nS y≤1000000):∀ ev ∈ (anC D k x y ct s).1,EvIn ct (ct.1,ct.2 + nS x + nS y) ev:=by
 intro ev h
 have ec:=cS_sm x ct h1 (by omega)
 cases s with
 | none=>cases h
 | some e =>
  have hm1:∀ ev ∈ (anS D x ct e).1,EvIn ct (ct.1,ct.2 + nS x + nS y) ev:=fun ev h=>(anS_in x ct e h1 (by omega) ev h).mono (Int.le_refl _) (Int.le_refl _) (Int.le_refl _) (by simp; omega)
  have hm2:∀ ev ∈ (anS D y (cS x ct) e).1,EvIn ct (ct.1,ct.2 + nS x + nS y) ev:=fun ev h=>by
   rw [ec] at h
   exact (anS_in y _ e (by simp; omega) (by simp; omega) ev h).mono (Int.le_refl _) (by simp; omega) (Int.le_refl _) (by simp)
  unfold anC at h
  simp only at h
  split at h
  ·next e1 k1=>exact hm1 ev (by rw [k1]; exact h)
  ·next e1 a k1 =>
   split at h
   ·next e2 k2 =>
    rcases List.mem_append.1 h with h | h
    ·exact hm1 ev (by rw [k1]; exact h)
    ·exact hm2 ev (by rw [k2]; exact h)
   ·next e2 b k2 =>
    rcases List.mem_append.1 h with h | h
    ·exact hm1 ev (by rw [k1]; exact h)
    ·exact hm2 ev (by rw [k2]; exact h)
theorem unrF_all {Q:Tel D.V→Prop} {cond:CondF D} {body:BodyF D} {p:Int} (hp:∀ e,Q (.point p e)) (hc:∀ s,∀ ev ∈ (cond s).1,Q ev) (hb:∀ s,∀ ev ∈ (body s).1,Q ev):∀ (n:Nat) (out s:D.St),∀ ev ∈ (unrF D cond body p n out s).1,Q ev
 | 0,_,_,ev,h=>by cases h
 | n + 1,out,s,ev,h=>by
  have h:ev ∈ telP D p s ++ (cond s).1 ++ (body (cond s).2.1).1 ++ (unrF D cond body p n (jn D out (cond s).2.2) (body (cond s).2.1).2).1:=h
  rcases List.mem_append.1 h with h | h
  ·rcases List.mem_append.1 h with h | h
   ·rcases List.mem_append.1 h with h | h
    ·cases s with
     | none=>cases h
     | some e=>have:=List.mem_singleton.1 h; subst this; exact hp e
    ·exact hc _ ev h
   ·exact hb _ ev h
  ·exact unrF_all hp hc hb n _ _ ev h
theorem anW_all {Q:Tel D.V→Prop} {P:Pol} {cond:CondF D} {body:BodyF D} {p:Int} (hp:∀ e,Q (.point p e)) (hc:∀ s,∀ ev ∈ (cond s).1,Q ev) (hb:∀ s,∀ ev ∈ (body s).1,Q ev) (s:D.St):∀ ev ∈ (anW D P cond body p s).1,Q ev:=by
 intro ev h
 have h:ev ∈ (unrF D cond body p P.unroll none s).1 ++ telP D p (allV D P cond body (unrF D cond body p P.unroll none s).2.2) ++ (cond (allV D P cond body (unrF D cond body p P.unroll none s).2.2)).1 ++ (body (cond (allV D P cond body (unrF D cond body p P.unroll none s).2.2)).2.1).1:=h
 rcases List.mem_append.1 h with h | h
 ·rcases List.mem_append.1 h with h | h
  ·rcases List.mem_append.1 h with h | h
   ·exact unrF_all hp hc hb _ _ _ ev h
   ·cases hi:allV D P cond body (unrF D cond body p P.unroll none s).2.2 with
    | none=>rw [hi] at h; cases h
    | some e=>rw [hi] at h; have:=List.mem_singleton.1 h; subst this; exact hp e
  ·exact hc _ ev h
 ·exact hb _ ev h
theorem stP_all {Q:Tel D.V→Prop} {p:Int} {f:D.Env→Res D} (hp:∀ e,Q (.point p e)) (hf:∀ e,∀ ev ∈ (f e).1,Q ev) {g:D.St→Res D} (hg:∀ s,∀ ev ∈ (g s).1,Q ev) (s:D.St):∀ ev ∈ (thenR D (stP D p f s) g).1,Q ev:=by
 intro ev h
 rcases List.mem_append.1 h with h | h
 ·cases s with
  | none=>cases h
  | some e =>
   rcases List.mem_cons.1 h with rfl | h
   ·exact hp e
   ·exact hf e ev h
 ·exact hg _ ev h
theorem anB_in (P:Pol):∀ (t:Bl) (ct:Ct) (_:Small ct (pB t) (qB t)) (s:D.St),∀ ev ∈ (anB D P t ct s).1,EvIn ct (ct.1 + pB t,ct.2 + qB t) ev
 | .nil,_,_,_,ev,h=>by cases h
 | .assign k x t,ct,⟨h1,h2,h3,h4⟩,s,ev,h=>by
  simp only [pB,qB] at h3 h4
  have e0:=ptUp_eq h1 (by omega)
  have ec:=cS_sm x (ptUp ct) (by rw [e0]; exact h2) (by rw [e0]; simp; omega)
  refine stP_all (Q:=EvIn ct (ct.1 + pB (.assign k x t),ct.2 + qB (.assign k x t))) (fun e=>?_) (fun e ev h=>?_) (fun s ev h=>?_) s ev h
  ·simp [EvIn,pB]; omega
  ·refine (anS_in x (ptUp ct) e (by rw [e0]; exact h2) (by rw [e0]; simp; omega) ev h).mono ?_ ?_ ?_ ?_ <;> (rw [e0]; simp [pB,qB]; try omega)
  ·rw [ec,e0] at h
   refine (anB_in P t _ ⟨by simp; omega,by simp; omega,by simp; omega,by simp; omega⟩ s ev h).mono ?_ ?_ ?_ ?_ <;> (simp [pB,qB]; try omega)
 | .read k t,ct,⟨h1,h2,h3,h4⟩,s,ev,h=>by
  simp only [pB,qB] at h3 h4
  have e0:=ptUp_eq h1 (by omega)
  refine stP_all (Q:=EvIn ct (ct.1 + pB (.read k t),ct.2 + qB (.read k t))) (fun e=>?_) (fun e ev h=>?_) (fun s ev h=>?_) s ev h
  ·simp [EvIn,pB]; omega
  ·cases h
  ·rw [e0] at h
   refine (anB_in P t _ ⟨by simp; omega,by simp; omega,by simp; omega,by simp; omega⟩ s ev h).mono ?_ ?_ ?_ ?_ <;> (simp [pB,qB]; try omega)
 | .assert k x y t,ct,⟨h1,h2,h3,h4⟩,s,ev,h=>by
  simp only [pB,qB] at h3 h4
  have e0:siteUp (ptUp ct)=(ct.1 + 1,ct.2 + 1):=by rw [ptUp_eq h1 (by omega),siteUp_eq (by simp; omega) (by simp; omega)]
  have ec:cS y (cS x (siteUp (ptUp ct)))=(ct.1 + 1,ct.2 + 1 + nS x + nS y):=by
   rw [e0,cS_sm x _ (by simp; omega) (by simp; omega),cS_sm y _ (by simp; omega) (by simp; omega)]
  refine stP_all (Q:=EvIn ct (ct.1 + pB (.assert k x y t),ct.2 + qB (.assert k x y t))) (fun e=>?_) (fun e ev h=>?_) (fun s ev h=>?_) s ev h
  ·simp [EvIn,pB]; omega
  ·rcases List.mem_append.1 h with h | h
   ·refine (anC_in k x y _ (some e) (by rw [e0]; simp; omega) (by rw [e0]; simp; omega) ev h).mono ?_ ?_ ?_ ?_ <;> (rw [e0]; simp [pB,qB]; try omega)
   ·have:=List.mem_singleton.1 h
    subst this
    simp [EvIn,qB]; omega
  ·rw [ec] at h
   refine (anB_in P t _ ⟨by simp; omega,by simp; omega,by simp; omega,by simp; omega⟩ s ev h).mono ?_ ?_ ?_ ?_ <;> (simp [pB,qB]; try omega)
 | .ite k x y xs true ys t,ct,⟨h1,h2,h3,h4⟩,s,ev,h=>by
  simp only [pB,qB,if_true] at h3 h4
  have e0:=ptUp_eq h1 (by omega)
  have ec:cS y (cS x (ptUp ct))=(ct.1 + 1,ct.2 + nS x + nS y):=by
   rw [e0,cS_sm x _ (by simp; omega) (by simp; omega),cS_sm y _ (by simp; omega) (by simp; omega)]
  have ex:=cB_sm xs (ct.1 + 1,ct.2 + nS x + nS y) ⟨by simp; omega,by simp; omega,by simp; omega,by simp; omega⟩
  refine stP_all (Q:=EvIn ct (ct.1 + pB (.ite k x y xs true ys t),ct.2 + qB (.ite k x y xs true ys t))) (fun e=>?_) (fun e ev h=>?_) (fun s ev h=>?_) s ev h
  ·simp [EvIn,pB]; omega
  ·rcases List.mem_append.1 h with h | h
   ·rcases List.mem_append.1 h with h | h
    ·refine (anC_in k x y _ (some e) (by rw [e0]; simp; omega) (by rw [e0]; simp; omega) ev h).mono ?_ ?_ ?_ ?_ <;> (rw [e0]; simp [pB,qB]; try omega)
    ·rw [ec] at h
     refine (anB_in P xs _ ⟨by simp; omega,by simp; omega,by simp; omega,by simp; omega⟩ _ ev h).mono ?_ ?_ ?_ ?_ <;> (simp [pB,qB]; try omega)
   ·rw [ec,ex] at h
    refine (anB_in P ys _ ⟨by simp; omega,by simp; omega,by simp; omega,by simp; omega⟩ _ ev h).mono ?_ ?_ ?_ ?_ <;> (simp [pB,qB]; try omega)
  ·rw [ec,ex] at h
   rw [cB_sm ys _ ⟨by simp; omega,by simp; omega,by simp; omega,by simp; omega⟩] at h
   refine (anB_in P t _ ⟨by simp; omega,by simp; omega,by simp; omega,by simp; omega⟩ s ev h).mono ?_ ?_ ?_ ?_ <;> (simp [pB,qB]; try omega)
 | .ite k x y xs false ys t,ct,⟨h1,h2,h3,h4⟩,s,ev,h=>by
  simp only [pB,qB] at h3 h4
  simp at h3 h4
  have e0:=ptUp_eq h1 (by omega)
  have ec:cS y (cS x (ptUp ct))=(ct.1 + 1,ct.2 + nS x + nS y):=by
   rw [e0,cS_sm x _ (by simp; omega) (by simp; omega),cS_sm y _ (by simp; omega) (by simp; omega)]
  have ex:=cB_sm xs (ct.1 + 1,ct.2 + nS x + nS y) ⟨by simp; omega,by simp; omega,by simp; omega,by simp; omega⟩
  refine stP_all (Q:=EvIn ct (ct.1 + pB (.ite k x y xs false ys t),ct.2 + qB (.ite k x y xs false ys t))) (fun e=>?_) (fun e ev h=>?_) (fun s ev h=>?_) s ev h
  ·simp [EvIn,pB]; omega
  ·rcases List.mem_append.1 h with h | h
   ·rcases List.mem_append.1 h with h | h
    ·refine (anC_in k x y _ (some e) (by rw [e0]; simp; omega) (by rw [e0]; simp; omega) ev h).mono ?_ ?_ ?_ ?_ <;> (rw [e0]; simp [pB,qB]; try omega)
    ·rw [ec] at h
     refine (anB_in P xs _ ⟨by simp; omega,by simp; omega,by simp; omega,by simp; omega⟩ _ ev h).mono ?_ ?_ ?_ ?_ <;> (simp [pB,qB]; try omega)
   ·cases h
  ·rw [ec,ex] at h
   refine (anB_in P t _ ⟨by simp; omega,by simp; omega,by simp; omega,by simp; omega⟩ s ev h).mono ?_ ?_ ?_ ?_ <;> (simp [pB,qB]; try omega)
 | .loop k x y xs t,ct,⟨h1,h2,h3,h4⟩,s,ev,h=>by
  simp only [pB,qB] at h3 h4
  have e0:=ptUp_eq h1 (by omega)
  have ec:cS y (cS x (ptUp ct))=(ct.1 + 1,ct.2 + nS x + nS y):=by
   rw [e0,cS_sm x _ (by simp; omega) (by simp; omega),cS_sm y _ (by simp; omega) (by simp; omega)]
  have ex:=cB_sm xs (ct.1 + 1,ct.2 + nS x + nS y) ⟨by simp; omega,by simp; omega,by simp; omega,by simp; omega⟩
  refine stP_all (Q:=EvIn ct (ct.1 + pB (.loop k x y xs t),ct.2 + qB (.loop k x y xs t))) (fun e=>?_) (fun e ev h=>?_) (fun s ev h=>?_) s ev h
  ·simp [EvIn,pB]; omega
  ·refine anW_all (Q:=EvIn ct (ct.1 + pB (.loop k x y xs t),ct.2 + qB (.loop k x y xs t))) (fun e=>?_) (fun s ev h=>?_) (fun s ev h=>?_) _ ev h
   ·simp [EvIn,pB]; omega
   ·refine (anC_in k x y _ s (by rw [e0]; simp; omega) (by rw [e0]; simp; omega) ev h).mono ?_ ?_ ?_ ?_ <;> (rw [e0]; simp [pB,qB]; try omega)
   ·rw [ec] at h
    refine (anB_in P xs _ ⟨by simp; omega,by simp; omega,by simp; omega,by simp; omega⟩ _ ev h).mono ?_ ?_ ?_ ?_ <;> (simp [pB,qB]; try omega)
  ·rw [ec,ex] at h
   refine (anB_in P t _ ⟨by simp; omega,by simp; omega,by simp; omega,by simp; omega⟩ s ev h).mono ?_ ?_ ?_ ?_ <;> (simp [pB,qB]; try omega)
end
def SzS (n:Nat) (x:Sm):Prop:=nS x≤n∧OkS x
def SzT (n:Nat) (f:Bl→Bl):Prop:=∀ rest,pB (f rest)≤n + pB rest∧qB (f rest)≤n + qB rest∧(OkB rest→OkB (f rest))
theorem szL:∀ {n:Nat} {fs:List (Bl→Bl)},Pn.QL SzT n fs→pB (joinB fs)≤n∧qB (joinB fs)≤n∧OkB (joinB fs)
 | n,[],_=>⟨Nat.zero_le _,Nat.zero_le _,fun _ h=>by cases h⟩
 | n,f :: fs,⟨a,b,hab,h1,h2⟩=>by
  obtain ⟨d1,d2,d3⟩:=szL h2
  obtain ⟨e1,e2,e3⟩:=h1 (joinB fs)
  exact ⟨by show pB (f (joinB fs))≤n; omega,by show qB (f (joinB fs))≤n; omega,e3 d3⟩
theorem okB_app {l1 l2:List Int} (h1:∀ n ∈ l1,I16 n) (h2:∀ n ∈ l2,I16 n):∀ n ∈ l1 ++ l2,I16 n:=fun n h=>by
 rcases List.mem_append.1 h with h | h
 ·exact h1 n h
 ·exact h2 n h
theorem sz_made:Pn.Made Tr (fun n (x:Sm)=>SzS n x) (fun n (f:Bl→Bl)=>SzT n f) where
 pm n m x h hn:=⟨by have:=h.1; omega,h.2⟩
 qm n m x h hn:=fun rest=>⟨by have:=(h rest).1; omega,by have:=(h rest).2.1; omega,(h rest).2.2⟩
 num v hv:=⟨Nat.zero_le _,fun n h=>by have:=List.mem_singleton.1 h; subst this; unfold I16; omega⟩
 name k _:=⟨Nat.zero_le _,fun n h=>by cases h⟩
 neg n x h:=h
 bin k n m x y _ hx hy:=⟨by show nS x + (if 3≤k then 1 else 0) + nS y≤n + m + 1; have:=hx.1; have:=hy.1; split <;> omega,okB_app hx.2 hy.2⟩
 assign k n x _ h:=fun rest=>⟨by show 1 + pB rest≤_; omega,by show nS x + qB rest≤_; have:=h.1; omega,fun hr=>okB_app h.2 hr⟩
 read k _:=fun rest=>⟨by show 1 + pB rest≤_; omega,by show qB rest≤_; omega,fun hr=>hr⟩
 assert k n m x y _ hx hy:=fun rest=>⟨by show 1 + pB rest≤_; omega,by show 1 + nS x + nS y + qB rest≤_; have:=hx.1; have:=hy.1; omega,fun hr=>okB_app (okB_app hx.2 hy.2) hr⟩
 ite k n m j x y xs _ hx hy hxs:=fun rest=>by
  obtain ⟨d1,d2,d3⟩:=szL hxs
  refine ⟨by show 1 + pB (joinB xs) + 0 + pB rest≤_; omega,by show nS x + nS y + qB (joinB xs) + 0 + qB rest≤_; have:=hx.1; have:=hy.1; omega,fun hr=>okB_app (okB_app (okB_app (okB_app hx.2 hy.2) d3) (fun _ h=>by cases h)) hr⟩
 iteElse k n m j i x y xs ys _ hx hy hxs hys:=fun rest=>by
  obtain ⟨d1,d2,d3⟩:=szL hxs
  obtain ⟨g1,g2,g3⟩:=szL hys
  refine ⟨by show 1 + pB (joinB xs) + pB (joinB ys) + pB rest≤_; omega,by show nS x + nS y + qB (joinB xs) + qB (joinB ys) + qB rest≤_; have:=hx.1; have:=hy.1; omega,fun hr=>okB_app (okB_app (okB_app (okB_app hx.2 hy.2) d3) g3) hr⟩
 loop k n m j x y xs _ hx hy hxs:=fun rest=>by
  obtain ⟨d1,d2,d3⟩:=szL hxs
  refine ⟨by show 1 + pB (joinB xs) + pB rest≤_; omega,by show nS x + nS y + qB (joinB xs) + qB rest≤_; have:=hx.1; have:=hy.1; omega,fun hr=>okB_app (okB_app (okB_app hx.2 hy.2) d3) hr⟩
theorem tree_small {src:Bs} {t:Bl} (h:tree src=.ok t):pB t≤400∧qB t≤400∧OkB t:=by
 unfold tree at h
 split at h
 ·next fs hp =>
  cases h
  exact szL (Pn.parse_n sz_made hp).2
 ·cases h
end Sp
end Go.Proofs.YtiopfihjmkfdmaaGreatDoor
