import Derived.Test.YtiopfihjmkfdmaaGreatDoorB9
namespace Go.Proofs.YtiopfihjmkfdmaaGreatDoor
open Go.Proofs.Tryz Sp
namespace Sp
theorem YV(steps:List Int):Ab (SR steps) where
 bF x y _ h:=by
  have h1:x.a<=y.a:=h.1;have h2:y.b<=x.b:=h.2;show(⟨min x.a y.a,max x.b y.b⟩:Iv)=x;refine Ao ?_ ?_
  ·show min x.a y.a=x.a;omega
  ·show max x.b y.b=x.b;omega
end Sp
section
namespace Sp
def nS:Sm->Nat
 | .num _=>0
 | .name _=>0
 | .neg x=>nS x
 | .bin k x y=>nS x+(if 3<=k then 1 else 0)+nS y
def pB:Bl->Nat
 | .nil=>0
 | .assign _ _ t=>1+pB t
 | .read _ t=>1+pB t
 | .assert _ _ _ t=>1+pB t
 | .ite _ _ _ xs els ys t=>1+pB xs+(if els then pB ys else 0)+pB t
 | .loop _ _ _ xs t=>1+pB xs+pB t
def qB:Bl->Nat
 | .nil=>0
 | .assign _ x t=>nS x+qB t
 | .read _ t=>qB t
 | .assert _ x y t=>1+nS x+nS y+qB t
 | .ite _ x y xs els ys t=>nS x+nS y+qB xs+(if els then qB ys else 0)+qB t
 | .loop _ x y xs t=>nS x+nS y+qB xs+qB t
theorem dZ{ct:Ct}(h:0<=ct.1)(h':ct.1<=1000000):aD ct=(ct.1+1,ct.2):=by unfold aD RowKit.wrap64;simp;omega
theorem lN{ct:Ct}(h:0<=ct.2)(h':ct.2<=1000000):aL ct=(ct.1,ct.2+1):=by unfold aL RowKit.wrap64;simp;omega
theorem dH:∀(x:Sm) (ct:Ct),0<=ct.2->ct.2+nS x<=1000000->cS x ct=(ct.1,ct.2+nS x)
 | .num _,ct,_,_=>by simp[cS,nS]
 | .name _,ct,_,_=>by simp[cS,nS]
 | .neg x,ct,h,h'=>dH x ct h h'
 | .bin k x y,ct,h,h'=>by
  have h'':ct.2+((nS x+(if 3<=k then 1 else 0)+nS y:Nat):Int)<=1000000:=h';show cS y (if 3<=k then aL (cS x ct) else cS x ct)=(ct.1,ct.2+((nS x+(if 3<=k then 1 else 0)+nS y:Nat):Int));rw[dH x ct h (by split at h''<;>omega)];by_cases h3:3<=k
  ·rw[if_pos h3,if_pos h3]at *
   rw[lN (by simp;omega) (by simp;omega)];rw[dH y _ (by simp;omega) (by simp;omega)];simp;omega
  ·rw[if_neg h3,if_neg h3]at *
   rw[dH y _ (by simp;omega) (by simp;omega)];simp;omega
def Small(ct:Ct)(n m:Nat):Prop:=0<=ct.1/\0<=ct.2/\ct.1+n<=1000000/\ct.2+m<=1000000
theorem fY:∀(t:Bl) (ct:Ct),Small ct (pB t) (qB t)->cB t ct=(ct.1+pB t,ct.2+qB t)
 | .nil,ct,_=>by simp[cB,pB,qB]
 | .assign _ x t,ct,⟨h1,h2,h3,h4⟩=>by simp only[pB,qB]at h3 h4;show cB t (cS x (aD ct))=_;rw[dZ h1 (by omega),dH x (ct.1+1,ct.2) h2 (by simp;omega),fY t _ ⟨by simp;omega,by simp;omega,by simp;omega,by simp;omega⟩];simp[pB,qB];omega
 | .read _ t,ct,⟨h1,h2,h3,h4⟩=>by simp only[pB,qB]at h3 h4;show cB t (aD ct)=_;rw[dZ h1 (by omega),fY t _ ⟨by simp;omega,by simp;omega,by simp;omega,by simp;omega⟩];simp[pB,qB];omega
 | .assert _ x y t,ct,⟨h1,h2,h3,h4⟩=>by simp only[pB,qB]at h3 h4;show cB t (cS y (cS x (aL (aD ct))))=_;rw[dZ h1 (by omega),lN (by simp;omega) (by simp;omega),dH x _ (by simp;omega) (by simp;omega),dH y _ (by simp;omega) (by simp;omega),fY t _ ⟨by simp;omega,by simp;omega,by simp;omega,by simp;omega⟩];simp[pB,qB];omega
 | .ite _ x y xs true ys t,ct,⟨h1,h2,h3,h4⟩=>by simp only[pB,qB,if_true]at h3 h4;show cB t (cB ys (cB xs (cS y (cS x (aD ct)))))=_;rw[dZ h1 (by omega),dH x _ (by simp;omega) (by simp;omega),dH y _ (by simp;omega) (by simp;omega),fY xs _ ⟨by simp;omega,by simp;omega,by simp;omega,by simp;omega⟩,fY ys _ ⟨by simp;omega,by simp;omega,by simp;omega,by simp;omega⟩,fY t _ ⟨by simp;omega,by simp;omega,by simp;omega,by simp;omega⟩];simp[pB,qB];omega
 | .ite _ x y xs false ys t,ct,⟨h1,h2,h3,h4⟩=>by simp only[pB,qB]at h3 h4;show cB t (cB xs (cS y (cS x (aD ct))))=_;simp at h3 h4;rw[dZ h1 (by omega),dH x _ (by simp;omega) (by simp;omega),dH y _ (by simp;omega) (by simp;omega),fY xs _ ⟨by simp;omega,by simp;omega,by simp;omega,by simp;omega⟩,fY t _ ⟨by simp;omega,by simp;omega,by simp;omega,by simp;omega⟩];simp[pB,qB];omega
 | .loop _ x y xs t,ct,⟨h1,h2,h3,h4⟩=>by simp only[pB,qB]at h3 h4;show cB t (cB xs (cS y (cS x (aD ct))))=_;rw[dZ h1 (by omega),dH x _ (by simp;omega) (by simp;omega),dH y _ (by simp;omega) (by simp;omega),fY xs _ ⟨by simp;omega,by simp;omega,by simp;omega,by simp;omega⟩,fY t _ ⟨by simp;omega,by simp;omega,by simp;omega,by simp;omega⟩];simp[pB,qB];omega
section
variable {D : pO}
section
variable{p:Int}
def iS(lo hi:Ct):gd D.V->Prop
 | .aA p _=>lo.1<=p/\p<hi.1
 | .site q _=>lo.2<=q/\q<hi.2
theorem iS.mono{lo hi Bd nZ:Ct}{x:gd D.V}(h:iS lo hi x)(h1:Bd.1<=lo.1)(h2:Bd.2<=lo.2)(h3:hi.1<=nZ.1)(h4:hi.2<=nZ.2):iS Bd nZ x:=by
 cases x with
 | aA p s=>exact⟨Int.le_trans h1 h.1,Int.lt_of_lt_of_le h.2 h3⟩
 | site q b=>exact⟨Int.le_trans h2 h.1,Int.lt_of_lt_of_le h.2 h4⟩
theorem pW:∀(x:Sm) (ct:Ct) (e:D.Env),0<=ct.2->ct.2+nS x<=1000000->∀ev∈(dA D x ct e).1,iS ct (ct.1,ct.2+nS x) ev
 | .num _,_,_,_,_,ev,h=>by cases h
 | .name _,_,_,_,_,ev,h=>by cases h
 | .neg x,ct,e,h1,h2,ev,h=>pW x ct e h1 h2 ev h
 | .bin k x y,ct,e,h1,h2,ev,h=>by
  have Hj:ct.2+((nS x+(if 3<=k then 1 else 0)+nS y:Nat):Int)<=1000000:=h2;have hx:=pW x ct e h1 (by split at Hj<;>omega);have ec:=dH x ct h1 (by split at Hj<;>omega);have uQ:∀ev∈(dA D x ct e).1,iS ct (ct.1,ct.2+(nS (.bin k x y):Nat)) ev:=fun ev h=>(hx ev h).mono (Int.le_refl _) (Int.le_refl _) (Int.le_refl _) (by show ct.2+(nS x:Int)<=ct.2+((nS x+(if 3<=k then 1 else 0)+nS y:Nat):Int);omega)
  have XH:∀ev∈(dA D y (if 3<=k then aL (cS x ct) else cS x ct) e).1,iS ct (ct.1,ct.2+(nS (.bin k x y):Nat)) ev:=by
   rw[ec];intro ev h;by_cases h3:3<=k
   ·rw[if_pos h3]at h Hj
    rw[lN (by simp;omega) (by simp;omega)]at h;refine(pW y _ e (by simp;omega) (by simp;omega) ev h).mono (Int.le_refl _) (by simp;omega) (Int.le_refl _) ?_;simp[nS,h3];omega
   ·rw[if_neg h3]at h Hj
    refine(pW y _ e (by simp;omega) (by simp;omega) ev h).mono (Int.le_refl _) (by simp;omega) (Int.le_refl _) ?_;simp[nS,h3];omega
  unfold dA at h;split at h
  ·next e1 k1=>exact uQ ev (by rw[k1];exact h)
  ·next e1 a k1 =>
   split at h
   ·next e2 k2 =>
    rcases List.mem_append.1 h with h | h
    ·exact uQ ev (by rw[k1];exact h)
    ·exact XH ev (by rw[k2];exact h)
   ·next e2 b k2 =>
    rcases List.mem_append.1 h with h | h
    ·rcases List.mem_append.1 h with h | h
     ·exact uQ ev (by rw[k1];exact h)
     ·exact XH ev (by rw[k2];exact h)
    ·by_cases h3:3<=k
     ·rw[if_pos h3]at h
      have:=List.mem_singleton.1 h;subst this;rw[ec];simp[iS,nS,h3];omega
     ·rw[if_neg h3]at h
      cases h
theorem zK(k:Nat)(x y:Sm)(ct:Ct)(s:D.St)(h1:0<=ct.2)(h2:ct.2+nS x+nS y<=1000000):∀ev∈(dC D k x y ct s).1,iS ct (ct.1,ct.2+nS x+nS y) ev:=by
 intro ev h;have ec:=dH x ct h1 (by omega);cases s with
 | none=>cases h
 | some e =>
  have uQ:∀ev∈(dA D x ct e).1,iS ct (ct.1,ct.2+nS x+nS y) ev:=fun ev h=>(pW x ct e h1 (by omega) ev h).mono (Int.le_refl _) (Int.le_refl _) (Int.le_refl _) (by simp;omega)
  have XH:∀ev∈(dA D y (cS x ct) e).1,iS ct (ct.1,ct.2+nS x+nS y) ev:=fun ev h=>by rw[ec]at h;exact(pW y _ e (by simp;omega) (by simp;omega) ev h).mono (Int.le_refl _) (by simp;omega) (Int.le_refl _) (by simp)
  unfold dC at h;simp only at h;split at h
  ·next e1 k1=>exact uQ ev (by rw[k1];exact h)
  ·next e1 a k1 =>
   split at h
   ·next e2 k2 =>
    rcases List.mem_append.1 h with h | h
    ·exact uQ ev (by rw[k1];exact h)
    ·exact XH ev (by rw[k2];exact h)
   ·next e2 b k2 =>
    rcases List.mem_append.1 h with h | h
    ·exact uQ ev (by rw[k1];exact h)
    ·exact XH ev (by rw[k2];exact h)
theorem CO{Q:gd D.V->Prop}{cond:pQ D}{body:qS D}(hp:∀e,Q (.aA p e))(hc:∀s,∀ev∈(cond s).1,Q ev)(hb:∀s,∀ev∈(body s).1,Q ev):∀(n:Nat) (out s:D.St),∀ev∈(jC D cond body p n out s).1,Q ev
 | 0,_,_,ev,h=>by cases h
 | n+1,out,s,ev,h=>by
  have h:ev∈py D p s ++ (cond s).1 ++ (body (cond s).2.1).1 ++ (jC D cond body p n (jn D out (cond s).2.2) (body (cond s).2.1).2).1:=h
  rcases List.mem_append.1 h with h | h
  ·rcases List.mem_append.1 h with h | h
   ·rcases List.mem_append.1 h with h | h
    ·cases s with
     | none=>cases h
     | some e=>have:=List.mem_singleton.1 h;subst this;exact hp e
    ·exact hc _ ev h
   ·exact hb _ ev h
  ·exact CO hp hc hb n _ _ ev h
theorem PL{Q:gd D.V->Prop}{P:yZ}{cond:pQ D}{body:qS D}(hp:∀e,Q (.aA p e))(hc:∀s,∀ev∈(cond s).1,Q ev)(hb:∀s,∀ev∈(body s).1,Q ev)(s:D.St):∀ev∈(rA D P cond body p s).1,Q ev:=by
 intro ev h;have h:ev∈(jC D cond body p P.aj none s).1 ++ py D p (lL D P cond body (jC D cond body p P.aj none s).2.2) ++ (cond (lL D P cond body (jC D cond body p P.aj none s).2.2)).1 ++ (body (cond (lL D P cond body (jC D cond body p P.aj none s).2.2)).2.1).1:=h
 rcases List.mem_append.1 h with h | h
 ·rcases List.mem_append.1 h with h | h
  ·rcases List.mem_append.1 h with h | h
   ·exact CO hp hc hb _ _ _ ev h
   ·cases hi:lL D P cond body (jC D cond body p P.aj none s).2.2 with
    | none=>rw[hi]at h;cases h
    | some e=>rw[hi]at h;have:=List.mem_singleton.1 h;subst this;exact hp e
  ·exact hc _ ev h
 ·exact hb _ ev h
theorem oT{Q:gd D.V->Prop}{f:D.Env->uI D}(hp:∀e,Q (.aA p e))(hf:∀e,∀ev∈(f e).1,Q ev){g:D.St->uI D}(hg:∀s,∀ev∈(g s).1,Q ev)(s:D.St):∀ev∈(gi D (N3 D p f s) g).1,Q ev:=by
 intro ev h
 rcases List.mem_append.1 h with h | h
 ·cases s with
  | none=>cases h
  | some e =>
   rcases List.mem_cons.1 h with rfl | h
   ·exact hp e
   ·exact hf e ev h
 ·exact hg _ ev h
theorem jh(P:yZ):∀(t:Bl) (ct:Ct) (_:Small ct (pB t) (qB t)) (s:D.St),∀ev∈(cF D P t ct s).1,iS ct (ct.1+pB t,ct.2+qB t) ev
 | .nil,_,_,_,ev,h=>by cases h
 | .assign k x t,ct,⟨h1,h2,h3,h4⟩,s,ev,h=>by
  simp only[pB,qB]at h3 h4;have e0:=dZ h1 (by omega);have ec:=dH x (aD ct) (by rw[e0];exact h2) (by rw[e0];simp;omega);refine oT (Q:=iS ct (ct.1+pB (.assign k x t),ct.2+qB (.assign k x t))) (fun e=>?_) (fun e ev h=>?_) (fun s ev h=>?_) s ev h
  ·simp[iS,pB];omega
  ·refine(pW x (aD ct) e (by rw[e0];exact h2) (by rw[e0];simp;omega) ev h).mono ?_ ?_ ?_ ?_<;>(rw[e0];simp[pB,qB];try omega)
  ·rw[ec,e0]at h
   refine(jh P t _ ⟨by simp;omega,by simp;omega,by simp;omega,by simp;omega⟩ s ev h).mono ?_ ?_ ?_ ?_<;>(simp[pB,qB];try omega)
 | .read k t,ct,⟨h1,h2,h3,h4⟩,s,ev,h=>by
  simp only[pB,qB]at h3 h4;have e0:=dZ h1 (by omega);refine oT (Q:=iS ct (ct.1+pB (.read k t),ct.2+qB (.read k t))) (fun e=>?_) (fun e ev h=>?_) (fun s ev h=>?_) s ev h
  ·simp[iS,pB];omega
  ·cases h
  ·rw[e0]at h
   refine(jh P t _ ⟨by simp;omega,by simp;omega,by simp;omega,by simp;omega⟩ s ev h).mono ?_ ?_ ?_ ?_<;>(simp[pB,qB];try omega)
 | .assert k x y t,ct,⟨h1,h2,h3,h4⟩,s,ev,h=>by
  simp only[pB,qB]at h3 h4;have e0:aL (aD ct)=(ct.1+1,ct.2+1):=by rw[dZ h1 (by omega),lN (by simp;omega) (by simp;omega)]
  have ec:cS y (cS x (aL (aD ct)))=(ct.1+1,ct.2+1+nS x+nS y):=by rw[e0,dH x _ (by simp;omega) (by simp;omega),dH y _ (by simp;omega) (by simp;omega)]
  refine oT (Q:=iS ct (ct.1+pB (.assert k x y t),ct.2+qB (.assert k x y t))) (fun e=>?_) (fun e ev h=>?_) (fun s ev h=>?_) s ev h
  ·simp[iS,pB];omega
  ·rcases List.mem_append.1 h with h | h
   ·refine(zK k x y _ (some e) (by rw[e0];simp;omega) (by rw[e0];simp;omega) ev h).mono ?_ ?_ ?_ ?_<;>(rw[e0];simp[pB,qB];try omega)
   ·have:=List.mem_singleton.1 h
    subst this;simp[iS,qB];omega
  ·rw[ec]at h
   refine(jh P t _ ⟨by simp;omega,by simp;omega,by simp;omega,by simp;omega⟩ s ev h).mono ?_ ?_ ?_ ?_<;>(simp[pB,qB];try omega)
 | .ite k x y xs true ys t,ct,⟨h1,h2,h3,h4⟩,s,ev,h=>by
  simp only[pB,qB,if_true]at h3 h4;have e0:=dZ h1 (by omega);have ec:cS y (cS x (aD ct))=(ct.1+1,ct.2+nS x+nS y):=by rw[e0,dH x _ (by simp;omega) (by simp;omega),dH y _ (by simp;omega) (by simp;omega)]
  have ex:=fY xs (ct.1+1,ct.2+nS x+nS y) ⟨by simp;omega,by simp;omega,by simp;omega,by simp;omega⟩;refine oT (Q:=iS ct (ct.1+pB (.ite k x y xs true ys t),ct.2+qB (.ite k x y xs true ys t))) (fun e=>?_) (fun e ev h=>?_) (fun s ev h=>?_) s ev h
  ·simp[iS,pB];omega
  ·rcases List.mem_append.1 h with h | h
   ·rcases List.mem_append.1 h with h | h
    ·refine(zK k x y _ (some e) (by rw[e0];simp;omega) (by rw[e0];simp;omega) ev h).mono ?_ ?_ ?_ ?_<;>(rw[e0];simp[pB,qB];try omega)
    ·rw[ec]at h
     refine(jh P xs _ ⟨by simp;omega,by simp;omega,by simp;omega,by simp;omega⟩ _ ev h).mono ?_ ?_ ?_ ?_<;>(simp[pB,qB];try omega)
   ·rw[ec,ex]at h
    refine(jh P ys _ ⟨by simp;omega,by simp;omega,by simp;omega,by simp;omega⟩ _ ev h).mono ?_ ?_ ?_ ?_<;>(simp[pB,qB];try omega)
  ·rw[ec,ex]at h
   rw[fY ys _ ⟨by simp;omega,by simp;omega,by simp;omega,by simp;omega⟩]at h;refine(jh P t _ ⟨by simp;omega,by simp;omega,by simp;omega,by simp;omega⟩ s ev h).mono ?_ ?_ ?_ ?_<;>(simp[pB,qB];try omega)
 | .ite k x y xs false ys t,ct,⟨h1,h2,h3,h4⟩,s,ev,h=>by
  simp only[pB,qB]at h3 h4;simp at h3 h4;have e0:=dZ h1 (by omega);have ec:cS y (cS x (aD ct))=(ct.1+1,ct.2+nS x+nS y):=by rw[e0,dH x _ (by simp;omega) (by simp;omega),dH y _ (by simp;omega) (by simp;omega)]
  have ex:=fY xs (ct.1+1,ct.2+nS x+nS y) ⟨by simp;omega,by simp;omega,by simp;omega,by simp;omega⟩;refine oT (Q:=iS ct (ct.1+pB (.ite k x y xs false ys t),ct.2+qB (.ite k x y xs false ys t))) (fun e=>?_) (fun e ev h=>?_) (fun s ev h=>?_) s ev h
  ·simp[iS,pB];omega
  ·rcases List.mem_append.1 h with h | h
   ·rcases List.mem_append.1 h with h | h
    ·refine(zK k x y _ (some e) (by rw[e0];simp;omega) (by rw[e0];simp;omega) ev h).mono ?_ ?_ ?_ ?_<;>(rw[e0];simp[pB,qB];try omega)
    ·rw[ec]at h
     refine(jh P xs _ ⟨by simp;omega,by simp;omega,by simp;omega,by simp;omega⟩ _ ev h).mono ?_ ?_ ?_ ?_<;>(simp[pB,qB];try omega)
   ·cases h
  ·rw[ec,ex]at h
   refine(jh P t _ ⟨by simp;omega,by simp;omega,by simp;omega,by simp;omega⟩ s ev h).mono ?_ ?_ ?_ ?_<;>(simp[pB,qB];try omega)
 | .loop k x y xs t,ct,⟨h1,h2,h3,h4⟩,s,ev,h=>by
  simp only[pB,qB]at h3 h4;have e0:=dZ h1 (by omega);have ec:cS y (cS x (aD ct))=(ct.1+1,ct.2+nS x+nS y):=by rw[e0,dH x _ (by simp;omega) (by simp;omega),dH y _ (by simp;omega) (by simp;omega)]
  have ex:=fY xs (ct.1+1,ct.2+nS x+nS y) ⟨by simp;omega,by simp;omega,by simp;omega,by simp;omega⟩;refine oT (Q:=iS ct (ct.1+pB (.loop k x y xs t),ct.2+qB (.loop k x y xs t))) (fun e=>?_) (fun e ev h=>?_) (fun s ev h=>?_) s ev h
  ·simp[iS,pB];omega
  ·refine PL (Q:=iS ct (ct.1+pB (.loop k x y xs t),ct.2+qB (.loop k x y xs t))) (fun e=>?_) (fun s ev h=>?_) (fun s ev h=>?_) _ ev h
   ·simp[iS,pB];omega
   ·refine(zK k x y _ s (by rw[e0];simp;omega) (by rw[e0];simp;omega) ev h).mono ?_ ?_ ?_ ?_<;>(rw[e0];simp[pB,qB];try omega)
   ·rw[ec]at h
    refine(jh P xs _ ⟨by simp;omega,by simp;omega,by simp;omega,by simp;omega⟩ _ ev h).mono ?_ ?_ ?_ ?_<;>(simp[pB,qB];try omega)
  ·rw[ec,ex]at h
   refine(jh P t _ ⟨by simp;omega,by simp;omega,by simp;omega,by simp;omega⟩ s ev h).mono ?_ ?_ ?_ ?_<;>(simp[pB,qB];try omega)
end
end
def SzS(n:Nat)(x:Sm):Prop:=nS x<=n/\xh x
def SzT(n:Nat)(f:Bl->Bl):Prop:=∀rest,pB (f rest)<=n+pB rest/\qB (f rest)<=n+qB rest/\(ti rest->ti (f rest))
theorem T9:∀{n:Nat} {fs:List (Bl->Bl)},Pn.QL SzT n fs->pB (aP fs)<=n/\qB (aP fs)<=n/\ti (aP fs)
 | n,[],_=>⟨Nat.zero_le _,Nat.zero_le _,fun _ h=>by cases h⟩
 | n,f :: fs,⟨a,b,hab,h1,h2⟩=>by obtain⟨d1,d2,d3⟩:=T9 h2;obtain⟨e1,e2,e3⟩:=h1 (aP fs);exact⟨by show pB (f (aP fs))<=n;omega,by show qB (f (aP fs))<=n;omega,e3 d3⟩
theorem bR{l1 l2:List Int}(h1:∀n∈l1,Qx n)(h2:∀n∈l2,Qx n):∀n∈l1 ++ l2,Qx n:=fun n h=>by
 rcases List.mem_append.1 h with h | h
 ·exact h1 n h
 ·exact h2 n h
theorem OM:Pn.Made Tr (fun n (x:Sm)=>SzS n x) (fun n (f:Bl->Bl)=>SzT n f) where
 pm n m x h hn:=⟨by have:=h.1;omega,h.2⟩
 qm n m x h hn:=fun rest=>⟨by have:=(h rest).1;omega,by have:=(h rest).2.1;omega,(h rest).2.2⟩
 num v hv:=⟨Nat.zero_le _,fun n h=>by have:=List.mem_singleton.1 h;subst this;unfold Qx;omega⟩
 name k _:=⟨Nat.zero_le _,fun n h=>by cases h⟩
 neg n x h:=h
 bin k n m x y _ hx hy:=⟨by show nS x+(if 3<=k then 1 else 0)+nS y<=n+m+1;have:=hx.1;have:=hy.1;split<;>omega,bR hx.2 hy.2⟩
 assign k n x _ h:=fun rest=>⟨by show 1+pB rest<=_;omega,by show nS x+qB rest<=_;have:=h.1;omega,fun hr=>bR h.2 hr⟩
 read k _:=fun rest=>⟨by show 1+pB rest<=_;omega,by show qB rest<=_;omega,fun hr=>hr⟩
 assert k n m x y _ hx hy:=fun rest=>⟨by show 1+pB rest<=_;omega,by show 1+nS x+nS y+qB rest<=_;have:=hx.1;have:=hy.1;omega,fun hr=>bR (bR hx.2 hy.2) hr⟩
 ite k n m j x y xs _ hx hy A8:=fun rest=>by obtain⟨d1,d2,d3⟩:=T9 A8;refine⟨by show 1+pB (aP xs)+0+pB rest<=_;omega,by show nS x+nS y+qB (aP xs)+0+qB rest<=_;have:=hx.1;have:=hy.1;omega,fun hr=>bR (bR (bR (bR hx.2 hy.2) d3) (fun _ h=>by cases h)) hr⟩
 iteElse k n m j i x y xs ys _ hx hy A8 TY:=fun rest=>by obtain⟨d1,d2,d3⟩:=T9 A8;obtain⟨g1,g2,g3⟩:=T9 TY;refine⟨by show 1+pB (aP xs)+pB (aP ys)+pB rest<=_;omega,by show nS x+nS y+qB (aP xs)+qB (aP ys)+qB rest<=_;have:=hx.1;have:=hy.1;omega,fun hr=>bR (bR (bR (bR hx.2 hy.2) d3) g3) hr⟩
 loop k n m j x y xs _ hx hy A8:=fun rest=>by obtain⟨d1,d2,d3⟩:=T9 A8;refine⟨by show 1+pB (aP xs)+pB rest<=_;omega,by show nS x+nS y+qB (aP xs)+qB rest<=_;have:=hx.1;have:=hy.1;omega,fun hr=>bR (bR (bR hx.2 hy.2) d3) hr⟩
theorem vg{src:Bs}{t:Bl}(h:tree src=.ok t):pB t<=400/\qB t<=400/\ti t:=by
 unfold tree at h;split at h
 ·next fs hp =>
  cases h
  exact T9 (Pn.GN OM hp).2
 ·cases h
end Sp
end
section
namespace Sp
section
variable {D : pO}
theorem Jb(F:Found D)(x:gd D.V)(es:List (gd D.V)):tell D F (x :: es)=tell D (cR D F x) es:=rfl
theorem Ig(F:Found D)(x:gd D.V):(cR D F x).1.length=F.1.length/\(cR D F x).2.length=F.2.length:=by
 cases x with
 | aA p s=>exact⟨by simp[cR],rfl⟩
 | site q b=>exact⟨rfl,by simp[cR]⟩
theorem lY:∀(es:List (gd D.V)) (F:Found D),(tell D F es).1.length=F.1.length/\(tell D F es).2.length=F.2.length
 | [],_=>⟨rfl,rfl⟩
 | x :: es,F=>by rw[Jb];obtain⟨h1,h2⟩:=lY es (cR D F x);obtain⟨h3,h4⟩:=Ig F x;exact⟨h1.trans h3,h2.trans h4⟩
section
end
section
end
def UY(D:pO)(P:yZ)(t:Bl):List (gd D.V):=(cF D P t (0,0) (some fun _=>D.num 0)).1 ++ py D (cB t (0,0)).1 (cF D P t (0,0) (some fun _=>D.num 0)).2
theorem CE(P:yZ)(t:Bl):da D P t=tell D (List.replicate ((cB t (0,0)).1+1).toNat none,List.replicate (cB t (0,0)).2.toNat 0) (UY D P t):=rfl
end
end Sp
end
namespace Sp
def QH(n:Nat)(x:Sm):Prop:=(bp x).length<=n+1
def FeT(n:Nat)(f:Bl->Bl):Prop:=∀rest,(bu (f rest)).length<=2*n+(bu rest).length
theorem Ua:∀{n:Nat} {fs:List (Bl->Bl)},Pn.QL FeT n fs->(bu (aP fs)).length<=2*n
 | n,[],_=>Nat.zero_le _
 | n,f :: fs,⟨a,b,hab,h1,h2⟩=>by have d:=Ua h2;have e:=h1 (aP fs);show(bu (f (aP fs))).length<=2*n;omega
theorem PQ:Pn.Made Tr (fun n (x:Sm)=>QH n x) (fun n (f:Bl->Bl)=>FeT n f) where
 pm n m x h hn:=by unfold QH at *;omega
 qm n m x h hn:=fun rest=>by have:=h rest;omega
 num v hv:=Nat.le_refl _
 name k _:=Nat.zero_le _
 neg n x h:=h
 bin k n m x y _ hx hy:=by show(bp x ++ bp y).length<=_;unfold QH at hx hy;rw[List.length_append];omega
 assign k n x _ h:=fun rest=>by show(bp x ++ bu rest).length<=_;unfold QH at h;rw[List.length_append];omega
 read k _:=fun rest=>by show(bu rest).length<=_;omega
 assert k n m x y _ hx hy:=fun rest=>by show(bp x ++ bp y ++ bu rest).length<=_;unfold QH at hx hy;simp only[List.length_append];omega
 ite k n m j x y xs _ hx hy A8:=fun rest=>by have d:=Ua A8;show(bp x ++ bp y ++ bu (aP xs) ++ [] ++ bu rest).length<=_;unfold QH at hx hy;simp only[List.length_append,List.length_nil];omega
 iteElse k n m j i x y xs ys _ hx hy A8 TY:=fun rest=>by have d:=Ua A8;have g:=Ua TY;show(bp x ++ bp y ++ bu (aP xs) ++ bu (aP ys) ++ bu rest).length<=_;unfold QH at hx hy;simp only[List.length_append];omega
 loop k n m j x y xs _ hx hy A8:=fun rest=>by have d:=Ua A8;show(bp x ++ bp y ++ bu (aP xs) ++ bu rest).length<=_;unfold QH at hx hy;simp only[List.length_append];omega
theorem CY{src:Bs}{t:Bl}(h:tree src=.ok t):(bu t).length<=800:=by
 unfold tree at h;split at h
 ·next fs hp =>
  cases h
  exact Ua (Pn.GN PQ hp).2
 ·cases h
theorem FH(D:pO)(P:yZ)(t:Bl)(h:Small (0,0) (pB t) (qB t)):(da D P t).1.length=pB t+1/\(da D P t).2.length=qB t:=by rw[CE,(lY _ _).1,(lY _ _).2,fY t (0,0) h];simp
end Sp
section
namespace Sp
section
variable (D : pO)(P : yZ)
def cO(T:Int->D.St->uI D):Bl->Ct->Prop
 | .nil,_=>True
 | .assign _ x t,ct=>cO T t (cS x (aD ct))
 | .read _ t,ct=>cO T t (aD ct)
 | .assert _ x y t,ct=>cO T t (cS y (cS x (aL (aD ct))))
 | .ite _ x y xs true ys t,ct=>cO T xs (cS y (cS x (aD ct)))/\cO T ys (cB xs (cS y (cS x (aD ct))))/\cO T t (cB ys (cB xs (cS y (cS x (aD ct)))))
 | .ite _ x y xs false _ t,ct=>cO T xs (cS y (cS x (aD ct)))/\cO T t (cB xs (cS y (cS x (aD ct))))
 | .loop k x y xs t,ct=>((0<=ct.1/\ct.1<=1000000)/\∀s,T ct.1 s=rA D P (dC D k x y (aD ct)) (cF D P xs (cS y (cS x (aD ct)))) ct.1 s)/\cO T xs (cS y (cS x (aD ct)))/\cO T t (cB xs (cS y (cS x (aD ct))))
def nW:Bl->Ct->Int->D.St->uI D
 | .nil,_,_,s=>([],s)
 | .assign _ x t,ct,p,s=>nW t (cS x (aD ct)) p s
 | .read _ t,ct,p,s=>nW t (aD ct) p s
 | .assert _ x y t,ct,p,s=>nW t (cS y (cS x (aL (aD ct)))) p s
 | .ite _ x y xs true ys t,ct,p,s=>if p<(cB xs (cS y (cS x (aD ct)))).1 then nW xs (cS y (cS x (aD ct))) p s else if p<(cB ys (cB xs (cS y (cS x (aD ct))))).1 then nW ys (cB xs (cS y (cS x (aD ct)))) p s else nW t (cB ys (cB xs (cS y (cS x (aD ct))))) p s
 | .ite _ x y xs false _ t,ct,p,s=>if p<(cB xs (cS y (cS x (aD ct)))).1 then nW xs (cS y (cS x (aD ct))) p s else nW t (cB xs (cS y (cS x (aD ct)))) p s
 | .loop k x y xs t,ct,p,s=>if p=ct.1 then rA D P (dC D k x y (aD ct)) (cF D P xs (cS y (cS x (aD ct)))) ct.1 s else if p<(cB xs (cS y (cS x (aD ct)))).1 then nW xs (cS y (cS x (aD ct))) p s else nW t (cB xs (cS y (cS x (aD ct)))) p s
theorem eR(T:Int->D.St->uI D):∀(t:Bl) (ct:Ct),Small ct (pB t) (qB t)->(∀p s,ct.1<=p->p<ct.1+pB t->T p s=nW D P t ct p s)->cO D P T t ct
 | .nil,_,_,_=>trivial
 | .assign k x t,ct,⟨h1,h2,h3,h4⟩,h=>by
  simp only[pB,qB]at h3 h4 h;have e0:=dZ h1 (by omega);have ec:cS x (aD ct)=(ct.1+1,ct.2+nS x):=by rw[e0,dH x _ (by simp;omega) (by simp;omega)]
  show cO D P T t (cS x (aD ct));simp only[nW,ec]at h;rw[ec];exact eR T t _ ⟨by simp;omega,by simp;omega,by simp;omega,by simp;omega⟩ (fun p s h5 h6=>h p s (by simp at h5;omega) (by simp at h6;omega))
 | .read k t,ct,⟨h1,h2,h3,h4⟩,h=>by simp only[pB,qB]at h3 h4 h;have e0:=dZ h1 (by omega);show cO D P T t (aD ct);simp only[nW,e0]at h;rw[e0];exact eR T t _ ⟨by simp;omega,by simp;omega,by simp;omega,by simp;omega⟩ (fun p s h5 h6=>h p s (by simp at h5;omega) (by simp at h6;omega))
 | .assert k x y t,ct,⟨h1,h2,h3,h4⟩,h=>by
  simp only[pB,qB]at h3 h4 h;have e0:aL (aD ct)=(ct.1+1,ct.2+1):=by rw[dZ h1 (by omega),lN (by simp;omega) (by simp;omega)]
  have ec:cS y (cS x (aL (aD ct)))=(ct.1+1,ct.2+1+nS x+nS y):=by rw[e0,dH x _ (by simp;omega) (by simp;omega),dH y _ (by simp;omega) (by simp;omega)]
  show cO D P T t (cS y (cS x (aL (aD ct))));simp only[nW,ec]at h;rw[ec];exact eR T t _ ⟨by simp;omega,by simp;omega,by simp;omega,by simp;omega⟩ (fun p s h5 h6=>h p s (by simp at h5;omega) (by simp at h6;omega))
 | .ite k x y xs true ys t,ct,⟨h1,h2,h3,h4⟩,h=>by
  simp only[pB,qB,if_true]at h3 h4 h;have e0:=dZ h1 (by omega);have ec:cS y (cS x (aD ct))=(ct.1+1,ct.2+nS x+nS y):=by rw[e0,dH x _ (by simp;omega) (by simp;omega),dH y _ (by simp;omega) (by simp;omega)]
  have ex:=fY xs (ct.1+1,ct.2+nS x+nS y) ⟨by simp;omega,by simp;omega,by simp;omega,by simp;omega⟩;have ey:=fY ys (ct.1+1+pB xs,ct.2+nS x+nS y+qB xs) ⟨by simp;omega,by simp;omega,by simp;omega,by simp;omega⟩;show cO D P T xs (cS y (cS x (aD ct)))/\cO D P T ys (cB xs (cS y (cS x (aD ct))))/\cO D P T t (cB ys (cB xs (cS y (cS x (aD ct)))));simp only[nW,ec,ex,ey]at h;rw[ec,ex,ey];refine⟨eR T xs _ ⟨by simp;omega,by simp;omega,by simp;omega,by simp;omega⟩ (fun p s h5 h6=>?_),eR T ys _ ⟨by simp;omega,by simp;omega,by simp;omega,by simp;omega⟩ (fun p s h5 h6=>?_),eR T t _ ⟨by simp;omega,by simp;omega,by simp;omega,by simp;omega⟩ (fun p s h5 h6=>?_)⟩
  all_goals
   simp at h5 h6;have:=h p s (by omega) (by omega)
  ·rw[if_pos (by omega)]at this;exact this
  ·rw[if_neg (by omega),if_pos (by omega)]at this;exact this
  ·rw[if_neg (by omega),if_neg (by omega)]at this;exact this
 | .ite k x y xs false ys t,ct,⟨h1,h2,h3,h4⟩,h=>by
  simp only[pB,qB,Bool.false_eq_true,if_false]at h3 h4 h;have e0:=dZ h1 (by omega);have ec:cS y (cS x (aD ct))=(ct.1+1,ct.2+nS x+nS y):=by rw[e0,dH x _ (by simp;omega) (by simp;omega),dH y _ (by simp;omega) (by simp;omega)]
  have ex:=fY xs (ct.1+1,ct.2+nS x+nS y) ⟨by simp;omega,by simp;omega,by simp;omega,by simp;omega⟩;show cO D P T xs (cS y (cS x (aD ct)))/\cO D P T t (cB xs (cS y (cS x (aD ct))));simp only[nW,ec,ex]at h;rw[ec,ex];refine⟨eR T xs _ ⟨by simp;omega,by simp;omega,by simp;omega,by simp;omega⟩ (fun p s h5 h6=>?_),eR T t _ ⟨by simp;omega,by simp;omega,by simp;omega,by simp;omega⟩ (fun p s h5 h6=>?_)⟩
  all_goals
   simp at h5 h6;have:=h p s (by omega) (by omega)
  ·rw[if_pos (by omega)]at this;exact this
  ·rw[if_neg (by omega)]at this;exact this
 | .loop k x y xs t,ct,⟨h1,h2,h3,h4⟩,h=>by
  simp only[pB,qB]at h3 h4 h;have e0:=dZ h1 (by omega);have ec:cS y (cS x (aD ct))=(ct.1+1,ct.2+nS x+nS y):=by rw[e0,dH x _ (by simp;omega) (by simp;omega),dH y _ (by simp;omega) (by simp;omega)]
  have ex:=fY xs (ct.1+1,ct.2+nS x+nS y) ⟨by simp;omega,by simp;omega,by simp;omega,by simp;omega⟩;show((0<=ct.1/\ct.1<=1000000)/\∀s,T ct.1 s=rA D P (dC D k x y (aD ct)) (cF D P xs (cS y (cS x (aD ct)))) ct.1 s)/\cO D P T xs (cS y (cS x (aD ct)))/\cO D P T t (cB xs (cS y (cS x (aD ct))));refine⟨⟨⟨h1,by omega⟩,fun s=>?_⟩,?_⟩
  ·rw[h ct.1 s (by omega) (by omega)]
   exact if_pos rfl
  ·simp only[nW,ec,ex]at h
   rw[ec,ex];refine⟨eR T xs _ ⟨by simp;omega,by simp;omega,by simp;omega,by simp;omega⟩ (fun p s h5 h6=>?_),eR T t _ ⟨by simp;omega,by simp;omega,by simp;omega,by simp;omega⟩ (fun p s h5 h6=>?_)⟩
   all_goals
    simp at h5 h6;have:=h p s (by omega) (by omega)
   ·rw[if_neg (by omega),if_pos (by omega)]at this;exact this
   ·rw[if_neg (by omega),if_neg (by omega)]at this;exact this
end
end Sp
end
namespace Sp
theorem wS(D:pO)(k:Nat)(x y:Sm)(ct:Ct)(s:D.Env)(es:List (gd D.V))(h:dA D x ct s=(es,none)):dA D (.bin k x y) ct s=(es,none):=by unfold dA;rw[h]
theorem sl(D:pO)(k:Nat)(x y:Sm)(ct:Ct)(s:D.Env)(es:List (gd D.V))(a:D.V)(dD:List (gd D.V))(h:dA D x ct s=(es,some a))(h2:dA D y (if 3<=k then aL (cS x ct) else cS x ct) s=(dD,none)):dA D (.bin k x y) ct s=(es ++ dD,none):=by unfold dA;rw[h];simp only;rw[h2]
theorem L8(D:pO)(k:Nat)(x y:Sm)(ct:Ct)(s:D.Env)(es:List (gd D.V))(a:D.V)(dD:List (gd D.V))(c:D.V)(h:dA D x ct s=(es,some a))(h2:dA D y (if 3<=k then aL (cS x ct) else cS x ct) s=(dD,some c))(h3:3<=k):dA D (.bin k x y) ct s=(es ++ dD ++ [.site (cS x ct).2 (D.nought c)],D.work k a c):=by unfold dA;rw[h];simp only;rw[h2];simp only;rw[if_pos h3]
theorem Ni(D:pO)(k:Nat)(x y:Sm)(ct:Ct)(s:D.Env)(es:List (gd D.V))(a:D.V)(dD:List (gd D.V))(c:D.V)(h:dA D x ct s=(es,some a))(h2:dA D y (if 3<=k then aL (cS x ct) else cS x ct) s=(dD,some c))(h3:¬ 3<=k):dA D (.bin k x y) ct s=(es ++ dD,D.work k a c):=by unfold dA;rw[h];simp only;rw[h2];simp only;rw[if_neg h3,List.append_nil]
theorem u7(D:pO)(k r:Nat)(y:D.V)(e:D.Env)(h:D.bound r (pE D e k) y=none):qz D (.name k) r y (some e)=none:=by unfold qz;simp only;rw[h]
theorem vo(D:pO)(k r:Nat)(y:D.V)(e:D.Env)(v:D.V)(h:D.bound r (pE D e k) y=some v):qz D (.name k) r y (some e)=some (gZ D e k v):=by unfold qz;simp only;rw[h]
theorem tI(D:pO)(r:Nat)(x y:Sm)(a b:D.V)(e:D.Env)(h:D.may r a b=false):fJ D r x y a b e=none:=by unfold fJ;rw[if_neg (by rw[h];simp)]
theorem Cy(D:pO)(r:Nat)(x y:Sm)(a b:D.V)(e:D.Env)(h:D.may r a b=true):fJ D r x y a b e=qz D y (dT r) a (qz D x r b (some e)):=by unfold fJ;rw[if_pos h]
theorem Rx(D:pO)(k:Nat)(x y:Sm)(ct:Ct)(e:D.Env)(es:List (gd D.V))(h:dA D x ct e=(es,none)):dC D k x y ct (some e)=(es,none,none):=by unfold dC;simp only;rw[h]
theorem Sf(D:pO)(k:Nat)(x y:Sm)(ct:Ct)(e:D.Env)(es:List (gd D.V))(a:D.V)(dD:List (gd D.V))(h:dA D x ct e=(es,some a))(h2:dA D y (cS x ct) e=(dD,none)):dC D k x y ct (some e)=(es ++ dD,none,none):=by unfold dC;simp only;rw[h];simp only;rw[h2]
theorem SN(D:pO)(k:Nat)(x y:Sm)(ct:Ct)(e:D.Env)(es:List (gd D.V))(a:D.V)(dD:List (gd D.V))(c:D.V)(h:dA D x ct e=(es,some a))(h2:dA D y (cS x ct) e=(dD,some c)):dC D k x y ct (some e)=(es ++ dD,fJ D k x y a c e,fJ D (wH k) x y a c e):=by unfold dC;simp only;rw[h];simp only;rw[h2]
end Sp
section
namespace Sp
section
variable {D : pO}
section
variable{ao k f n m:Nat}
variable{p:Int}
structure pC(K:Rk D)(next:D.St->D.St)(ao:Nat)(U:D.St)(k f:Nat)(sj:D.St):Prop where
 sum:f+k=D.fuel+1
 eq:fixF D next ao f k sj=U
 wf:Wf K sj
 no:sj=none->next none=none
 up:∀e,sj=some e->8*K.top<OE K e+f
theorem pC.start{K:Rk D}{next:D.St->D.St}{U s:D.St}(hU:fixF D next ao D.fuel 1 s=U)(hs:Wf K s)(h0:s=none->next none=none):pC K next ao U 1 D.fuel s :=
 ⟨rfl,hU,hs,h0,fun _ _=>Nat.lt_of_lt_of_le K.fuel (Nat.le_add_left _ _)⟩
theorem pC.end{K:Rk D}{next:D.St->D.St}{U:D.St}{sj:D.St}(h:pC K next ao U k f sj)(he:D3 D (jn D sj (next sj)) sj=true):sj=U:=by
 have:=h.eq;cases f with
 | zero=>exact this
 | succ f =>rw[oX,if_pos he]at this;exact this
theorem pC.on{K:Rk D}{next:D.St->D.St}{U:D.St}{sj:D.St}(h:pC K next ao U k f sj)(hn:∀i,Wf K i->Wf K (next i))(he:D3 D (jn D sj (next sj)) sj=false) :
  ∃e n f',sj=some e/\(∀k,K.wf (e k))/\jn D sj (next sj)=some n/\(∀k,K.wf (n k))/\f=f'+1/\pC K next ao U (k+1) f' (om D next ao k sj):=by
 have db:¬ jn D sj (next sj)=sj:=fun e=>by rw[(nk D _ _).2 e]at he;cases he
 cases sj with
 | none=>rw[h.no rfl]at db;exact absurd rfl db
 | some e =>
  have we:=h.wf e rfl;have hj:Wf K (jn D (some e) (next (some e))):=kK h.wf (hn _ h.wf);obtain⟨n,UG⟩:∃n,jn D (some e) (next (some e))=some n:=by
   cases hx:next (some e) with
   | none=>exact⟨_,rfl⟩
   | some t=>exact⟨_,rfl⟩
  obtain⟨g,h1,h2,h3⟩:=yI (K:=K) we (hn _ h.wf) ao k db;have hup:=h.up e rfl;have hle:=Nc (K:=K) we;obtain⟨f',rfl⟩:∃f',f=f'+1:=⟨f - 1,by omega⟩;refine⟨e,n,f',rfl,we,UG,hj n UG,rfl,?_⟩;have VM:=h.sum;have heq:=h.eq;rw[oX,if_neg (by rw[he];exact Bool.noConfusion)]at heq;refine⟨by omega,heq,?_,?_,?_⟩
  ·rw[h1];exact Wf.some h2
  ·intro e;rw[h1]at e;cases e
  ·intro e xE
   rw[h1]at xE;cases xE
   omega
structure rB(K:Rk D)(cond:pQ D)(body:qS D)(s U:D.St)(n:Nat)(sj:D.St):Prop where
 eq:I5 D (jv D cond body s) n sj=U
 wf:Wf K sj
 no:s=none->sj=none
 sub:∀e,s=some e->qw K (some e) sj
theorem rB.start{K:Rk D}{P:yZ}{cond:pQ D}{body:qS D}(hc:fO K cond)(hb:fg K body)(nc:sE cond)(nb:qe body){s:D.St}(hs:Wf K s) :
  rB K cond body s (lL D P cond body s) P.narrow (fixF D (jv D cond body s) P.ao D.fuel 1 s):=by
 have hn:∀i,Wf K i->Wf K (jv D cond body s i):=fun i hi=>vh hc hb hs hi
 have h0:s=none->jv D cond body s none=none:=fun e=>by subst e;unfold jv;rw[nc,nb];rfl
 refine⟨rfl,z7 hn P.ao D.fuel 1 s hs,fun e=>?_,fun e he=>?_⟩
 ·have h1:=h0 e
  subst e;exact y7 h1 _ _ _
 ·subst he
  obtain⟨i,h1,h2⟩:=u5 hn P.ao D.fuel 1 e (hs e rfl) (by have:=K.fuel;omega);rw[h1];exact Gn h2
theorem rB.on{K:Rk D}{cond:pQ D}{body:qS D}(hc:fO K cond)(hb:fg K body){s U:D.St}(hs:Wf K s){sj:D.St}(h:rB K cond body s U (n+1) sj) :
  rB K cond body s U n (nE D D.narrow sj (jv D cond body s sj))/\(sj=none∨∃e e',sj=some e/\jv D cond body s sj=some e'/\(∀k,K.wf (e k))/\(∀k,K.wf (e' k))):=by
 have hw:=vh hc hb hs h.wf;cases s with
 | none =>have h1:=h.no rfl;have h2:=h.eq;subst h1;exact⟨⟨h2,eG,fun _=>rfl,fun e he=>by cases he⟩,.inl rfl⟩
 | some e =>obtain⟨h1,h2⟩:=yE (hs e rfl) h.wf hw (h.sub e rfl) (vX _ _);obtain⟨g,hg,_⟩:=h.sub e rfl e rfl;obtain⟨q,hq,_⟩:=(vX (K:=K) (some e) (body (cond sj).2.1).2) e rfl;have Kd:jv D cond body (some e) sj=some q:=hq;refine⟨⟨h.eq,h1,(fun e=>by cases e),fun e' xE=>by cases xE;exact h2⟩,.inr ⟨g,q,hg,Kd,h.wf g hg,hw q Kd⟩⟩
theorem Lc{cond:pQ D}{body:qS D}(nc:sE cond)(nb:qe body){s:D.St}(h:s=none):jv D cond body s none=none:=by subst h;unfold jv;rw[nc,nb];rfl
theorem Jr{K:Rk D}{P:yZ}{cond:pQ D}{body:qS D}(hc:fO K cond)(hb:fg K body)(p:Int){e:D.Env}(he:∀k,K.wf (e k)):∃s',gd.aA p s'∈(rA D P cond body p (some e)).1:=by
 unfold rA;cases hn:P.aj with
 | zero =>obtain⟨g,hg,_⟩:=(so (P:=P) hc hb he).2 e rfl;refine⟨g,?_⟩;simp only[jC,List.nil_append];rw[hg];simp[py]
 | succ n =>refine⟨e,?_⟩;simp[jC,py]
structure lX(K:Rk D)(cond:pQ D)(body:qS D)(p:Int)(U:List (gd D.V) × D.St × D.St)(m:Nat)(ej:List (gd D.V))(oj sj:D.St):Prop where
 eq:U=(ej ++ (jC D cond body p m oj sj).1,(jC D cond body p m oj sj).2)
 wo:Wf K oj
 ws:Wf K sj
theorem lX.start{K:Rk D}(cond:pQ D)(body:qS D)(p:Int)(m:Nat){s:D.St}(hs:Wf K s):lX K cond body p (jC D cond body p m none s) m [] none s:=⟨rfl,eG,hs⟩
theorem lX.end{K:Rk D}{cond:pQ D}{body:qS D}{U:List (gd D.V) × D.St × D.St}{ej:List (gd D.V)}{oj sj:D.St}(h:lX K cond body p U 0 ej oj sj):U=(ej,oj,sj):=by rw[h.eq];simp[jC]
theorem lX.parts{K:Rk D}{cond:pQ D}{body:qS D}{U:List (gd D.V) × D.St × D.St}{ej:List (gd D.V)}{oj sj:D.St}(h:lX K cond body p U (m+1) ej oj sj) :
  ∃more,U.1=ej ++ py D p sj ++ (cond sj).1 ++ (body (cond sj).2.1).1 ++ more:=by
 rw[h.eq];exact⟨(jC D cond body p m (jn D oj (cond sj).2.2) (body (cond sj).2.1).2).1,by simp[jC]⟩
theorem lX.on{K:Rk D}{cond:pQ D}{body:qS D}(hc:fO K cond)(hb:fg K body){U:List (gd D.V) × D.St × D.St}{ej:List (gd D.V)}{oj sj:D.St}(h:lX K cond body p U (m+1) ej oj sj) :
  lX K cond body p U m (ej ++ py D p sj ++ (cond sj).1 ++ (body (cond sj).2.1).1) (jn D oj (cond sj).2.2) (body (cond sj).2.1).2:=by
 refine⟨?_,kK h.wo (hc _ h.ws).2,hb _ (hc _ h.ws).1⟩;rw[h.eq];simp[jC]
end
end
end Sp
end
end Go.Proofs.YtiopfihjmkfdmaaGreatDoor
