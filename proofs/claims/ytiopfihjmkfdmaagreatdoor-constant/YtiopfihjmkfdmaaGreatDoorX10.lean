import Derived.Test.YtiopfihjmkfdmaaGreatDoorX9
namespace Go.Proofs.YtiopfihjmkfdmaaGreatDoor
namespace Sp
def pis (es:List (Tel cgDom.V)):List Int:=(pts es).map (·.1)
theorem pis_append (a b:List (Tel cgDom.V)):pis (a ++ b)=pis a ++ pis b:=by unfold pis; rw [pts_append,List.map_append]
def Inc (lo hi:Int) (es:List (Tel cgDom.V)):Prop:=(pis es).Pairwise (· < ·)∧∀ p ∈ pis es,lo≤p∧p<hi
theorem inc_nil {lo hi:Int} {es:List (Tel cgDom.V)} (h:pts es=[]):Inc lo hi es:=by
 have:pis es=[]:=by unfold pis; rw [h]; rfl
 unfold Inc
 rw [this]
 exact ⟨.nil,fun _ h=>by cases h⟩
theorem Inc.append {lo m hi:Int} {a b:List (Tel cgDom.V)} (ha:Inc lo m a) (hb:Inc m hi b) (h1:lo≤m) (h2:m≤hi):Inc lo hi (a ++ b):=by
 unfold Inc
 rw [pis_append]
 refine ⟨List.pairwise_append.2 ⟨ha.1,hb.1,fun p hp q hq=>?_⟩,fun p hp=>?_⟩
 ·have:=(ha.2 p hp).2; have:=(hb.2 q hq).1; omega
 ·rcases List.mem_append.1 hp with hp | hp
  ·have:=ha.2 p hp; omega
  ·have:=hb.2 p hp; omega
theorem inc_point (p:Int) (e:cgDom.Env):Inc p (p + 1) [.point p e]:=by
 unfold Inc
 have:pis [.point p e]=[p]:=rfl
 rw [this]
 refine ⟨List.pairwise_singleton _ _,fun q hq=>?_⟩
 have:=List.mem_singleton.1 hq
 omega
theorem anS_np:∀ (x:Sm) (ct:Ct) (e:cgDom.Env),pts (anS cgDom x ct e).1=[]
 | .num _,_,_=>rfl
 | .name _,_,_=>rfl
 | .neg x,ct,e=>anS_np x ct e
 | .bin k x y,ct,e=>by
  have hx:=anS_np x ct e
  have hy:=anS_np y (if 3≤k then siteUp (cS x ct) else cS x ct) e
  unfold anS
  split
  ·next e1 k1=>rw [k1] at hx; exact hx
  ·next e1 a k1 =>
   rw [k1] at hx
   split
   ·next e2 k2=>rw [k2] at hy; show pts (e1 ++ e2)=[]; rw [pts_append,hx,hy]; rfl
   ·next e2 b k2 =>
    rw [k2] at hy
    show pts (e1 ++ e2 ++ _)=[]
    rw [pts_append,pts_append,hx,hy]
    split <;> rfl
theorem anC_np (k:Nat) (x y:Sm) (ct:Ct) (s:cgDom.St):pts (anC cgDom k x y ct s).1=[]:=by
 cases s with
 | none=>rfl
 | some e =>
  have hx:=anS_np x ct e
  have hy:=anS_np y (cS x ct) e
  unfold anC
  simp only
  split
  ·next e1 k1=>rw [k1] at hx; exact hx
  ·next e1 a k1 =>
   rw [k1] at hx
   split
   ·next e2 k2=>rw [k2] at hy; show pts (e1 ++ e2)=[]; rw [pts_append,hx,hy]; rfl
   ·next e2 b k2=>rw [k2] at hy; show pts (e1 ++ e2)=[]; rw [pts_append,hx,hy]; rfl
theorem inc_st {p m hi:Int} {F:cgDom.Env→Res cgDom} {g:cgDom.St→Res cgDom} (h1:p + 1≤m) (h2:m≤hi) (hF:∀ e,Inc (p + 1) m (F e).1) (hg:∀ s,Inc m hi (g s).1) (s:cgDom.St):Inc p hi (thenR cgDom (stP cgDom p F s) g).1:=by
 refine Inc.append (m:=m) ?_ (hg _) (by omega) h2
 cases s with
 | none=>exact inc_nil rfl
 | some e=>exact (inc_point p e).append (hF e) (by omega) (by omega)
theorem anB_inc (P:Pol):∀ (t:Bl) (_:NoLoop t) (ct:Ct) (_:Small ct (pB t) (qB t)) (s:cgDom.St),Inc ct.1 (ct.1 + pB t) (anB cgDom P t ct s).1
 | .nil,_,_,_,_=>inc_nil rfl
 | .assign k x t,hl,ct,⟨h1,h2,h3,h4⟩,s=>by
  simp only [pB,qB] at h3 h4
  have e0:=ptUp_eq h1 (by omega)
  have ec:=cS_sm x (ptUp ct) (by rw [e0]; exact h2) (by rw [e0]; simp; omega)
  refine inc_st (m:=ct.1 + 1) (by omega) (by simp [pB]; omega) (fun e=>inc_nil (anS_np _ _ _)) (fun s=>?_) s
  rw [ec,e0]
  have:=anB_inc P t hl (ct.1 + 1,ct.2 + nS x) ⟨by simp; omega,by simp; omega,by simp; omega,by simp; omega⟩ s
  simp only [pB]
  rw [show ct.1 + ((1 + pB t:Nat):Int)=ct.1 + 1 + (pB t:Int) by omega]
  exact this
 | .read k t,hl,ct,⟨h1,h2,h3,h4⟩,s=>by
  simp only [pB,qB] at h3 h4
  have e0:=ptUp_eq h1 (by omega)
  refine inc_st (m:=ct.1 + 1) (by omega) (by simp [pB]; omega) (fun e=>inc_nil rfl) (fun s=>?_) s
  rw [e0]
  have:=anB_inc P t hl (ct.1 + 1,ct.2) ⟨by simp; omega,by simp; omega,by simp; omega,by simp; omega⟩ s
  simp only [pB]
  rw [show ct.1 + ((1 + pB t:Nat):Int)=ct.1 + 1 + (pB t:Int) by omega]
  exact this
 | .assert k x y t,hl,ct,⟨h1,h2,h3,h4⟩,s=>by
  simp only [pB,qB] at h3 h4
  have e0:=ptUp_eq h1 (by omega)
  have e1:siteUp (ptUp ct)=(ct.1 + 1,ct.2 + 1):=by rw [e0,siteUp_eq (by simp; omega) (by simp; omega)]
  have ex:cS x (siteUp (ptUp ct))=(ct.1 + 1,ct.2 + 1 + nS x):=by rw [e1,cS_sm x _ (by simp; omega) (by simp; omega)]
  have ey:cS y (cS x (siteUp (ptUp ct)))=(ct.1 + 1,ct.2 + 1 + nS x + nS y):=by rw [ex,cS_sm y _ (by simp; omega) (by simp; omega)]
  refine inc_st (m:=ct.1 + 1) (by omega) (by simp [pB]; omega) (fun e=>inc_nil ?_) (fun s=>?_) s
  ·show pts ((anC cgDom k x y _ _).1 ++ [.site ct.2 _])=[]
   rw [pts_append,anC_np]; rfl
  ·rw [ey]
   have:=anB_inc P t hl (ct.1 + 1,ct.2 + 1 + nS x + nS y) ⟨by simp; omega,by simp; omega,by simp; omega,by simp; omega⟩ s
   simp only [pB]
   rw [show ct.1 + ((1 + pB t:Nat):Int)=ct.1 + 1 + (pB t:Int) by omega]
   exact this
 | .loop _ _ _ _ _,hl,_,_,_=>hl.elim
 | .ite k x y xs true ys t,hl,ct,⟨h1,h2,h3,h4⟩,s=>by
  simp only [pB,qB,if_true] at h3 h4
  have e0:=ptUp_eq h1 (by omega)
  have ey:cS y (cS x (ptUp ct))=(ct.1 + 1,ct.2 + nS x + nS y):=by rw [e0,cS_sm x _ (by simp; omega) (by simp; omega),cS_sm y _ (by simp; omega) (by simp; omega)]
  have es:cB xs (cS y (cS x (ptUp ct)))=(ct.1 + 1 + pB xs,ct.2 + nS x + nS y + qB xs):=by rw [ey,cB_sm xs _ ⟨by simp; omega,by simp; omega,by simp; omega,by simp; omega⟩]
  have et:cB ys (cB xs (cS y (cS x (ptUp ct))))=(ct.1 + 1 + pB xs + pB ys,ct.2 + nS x + nS y + qB xs + qB ys):=by rw [es,cB_sm ys _ ⟨by simp; omega,by simp; omega,by simp; omega,by simp; omega⟩]
  refine inc_st (m:=ct.1 + 1 + pB xs + pB ys) (by omega) (by simp [pB]; omega) (fun e=>?_) (fun s=>?_) s
  ·refine Inc.append (m:=ct.1 + 1 + pB xs) (Inc.append (m:=ct.1 + 1) (inc_nil (anC_np _ _ _ _ _)) ?_ (by omega) (by omega)) ?_ (by omega) (by omega)
   ·rw [ey]
    exact anB_inc P xs hl.1 (ct.1 + 1,ct.2 + nS x + nS y) ⟨by simp; omega,by simp; omega,by simp; omega,by simp; omega⟩ _
   ·rw [es]
    exact anB_inc P ys hl.2.1 (ct.1 + 1 + pB xs,ct.2 + nS x + nS y + qB xs) ⟨by simp; omega,by simp; omega,by simp; omega,by simp; omega⟩ _
  ·rw [et]
   have:=anB_inc P t hl.2.2 (ct.1 + 1 + pB xs + pB ys,ct.2 + nS x + nS y + qB xs + qB ys) ⟨by simp; omega,by simp; omega,by simp; omega,by simp; omega⟩ s
   simp only [pB,if_true]
   rw [show ct.1 + ((1 + pB xs + pB ys + pB t:Nat):Int)=ct.1 + 1 + pB xs + pB ys + (pB t:Int) by omega]
   exact this
 | .ite k x y xs false ys t,hl,ct,⟨h1,h2,h3,h4⟩,s=>by
  simp only [pB,qB] at h3 h4
  simp at h3 h4
  have e0:=ptUp_eq h1 (by omega)
  have ey:cS y (cS x (ptUp ct))=(ct.1 + 1,ct.2 + nS x + nS y):=by rw [e0,cS_sm x _ (by simp; omega) (by simp; omega),cS_sm y _ (by simp; omega) (by simp; omega)]
  have es:cB xs (cS y (cS x (ptUp ct)))=(ct.1 + 1 + pB xs,ct.2 + nS x + nS y + qB xs):=by rw [ey,cB_sm xs _ ⟨by simp; omega,by simp; omega,by simp; omega,by simp; omega⟩]
  refine inc_st (m:=ct.1 + 1 + pB xs) (by omega) (by simp [pB]; omega) (fun e=>?_) (fun s=>?_) s
  ·refine Inc.append (m:=ct.1 + 1 + pB xs) (Inc.append (m:=ct.1 + 1) (inc_nil (anC_np _ _ _ _ _)) ?_ (by omega) (by omega)) (inc_nil rfl) (by omega) (by omega)
   rw [ey]
   exact anB_inc P xs hl.1 (ct.1 + 1,ct.2 + nS x + nS y) ⟨by simp; omega,by simp; omega,by simp; omega,by simp; omega⟩ _
  ·rw [es]
   have:=anB_inc P t hl.2.2 (ct.1 + 1 + pB xs,ct.2 + nS x + nS y + qB xs) ⟨by simp; omega,by simp; omega,by simp; omega,by simp; omega⟩ s
   simp only [pB]
   rw [show ct.1 + ((1 + pB xs + (if false=true then pB ys else 0) + pB t:Nat):Int)=ct.1 + 1 + pB xs + (pB t:Int) by simp; omega]
   exact this
theorem mod_away {α:Type} {l:List α} {p i:Nat} {f:α→α} (h:p ≠ i):(l.modify p f)[i]?=l[i]?:=by
 rw [List.getElem?_modify]
 cases l[i]? with
 | none=>rfl
 | some x=>simp [h]
theorem mod_here {α:Type} {l:List α} {p i:Nat} {f:α→α} {x:α} (h:p=i) (hx:l[i]?=some x):(l.modify p f)[i]?=some (f x):=by
 rw [List.getElem?_modify,hx]
 simp [h]
theorem fact_away {p:Nat}:∀ (es:List (Tel cgDom.V)) (F:Found cgDom),(∀ q ∈ pis es,q.toNat ≠ p)→(tell cgDom F es).1[p]?=F.1[p]?
 | [],_,_=>rfl
 | .site q b :: es,F,h=>fact_away es (tell1 cgDom F (.site q b)) h
 | .point q e :: es,F,h=>by
  show (tell cgDom (tell1 cgDom F (.point q e)) es).1[p]?=F.1[p]?
  rw [fact_away es _ (fun r hr=>h r (List.mem_cons_of_mem _ hr))]
  show (F.1.modify q.toNat _)[p]?=F.1[p]?
  exact mod_away (h q (List.mem_cons_self ..))
theorem fact_here {p:Nat} {q:Int} {e:cgDom.Env} (hq:q.toNat=p):∀ (es:List (Tel cgDom.V)) (F:Found cgDom),(pis es).Pairwise (· < ·)→(∀ r ∈ pis es,0≤r)→(q,e) ∈ pts es→F.1[p]?=some none→(tell cgDom F es).1[p]?=some (some e)
 | [],_,_,_,h,_=>by cases h
 | .site r b :: es,F,hp,h0,h,hf=>fact_here hq es (tell1 cgDom F (.site r b)) hp h0 h hf
 | .point r s :: es,F,hp,h0,h,hf=>by
  show (tell cgDom (tell1 cgDom F (.point r s)) es).1[p]?=some (some e)
  have hp':List.Pairwise (· < ·) (r :: pis es):=hp
  have h':(q,e) ∈ (r,s) :: pts es:=h
  rcases List.mem_cons.1 h' with h1 | h1
  ·cases h1
   rw [fact_away es _ (fun k hk=>?_)]
   ·show (F.1.modify q.toNat _)[p]?=_
    rw [mod_here hq hf]
    rfl
   ·have:=List.rel_of_pairwise_cons hp' hk
    have:=h0 q (List.mem_cons_self ..)
    omega
  ·have hmem:q ∈ pis es:=List.mem_map.2 ⟨_,h1,rfl⟩
   have h2:=List.rel_of_pairwise_cons hp' hmem
   have h3:=h0 r (List.mem_cons_self ..)
   refine fact_here hq es _ (List.Pairwise.of_cons hp') (fun k hk=>h0 k (List.mem_cons_of_mem _ hk)) h1 ?_
   show (F.1.modify r.toNat _)[p]?=_
   rw [mod_away (by omega),hf]
theorem bads_mem {q:Int}:∀ {es:List (Tel cgDom.V)},q ∈ bads es ↔ .site q true ∈ es
 | []=>by simp [bads]
 | .point p s :: es=>by
  show q ∈ bads es ↔ _
  rw [bads_mem (es:=es)]
  simp
 | .site r true :: es=>by
  show q ∈ r :: bads es ↔ _
  rw [List.mem_cons,bads_mem (es:=es),List.mem_cons]
  simp
 | .site r false :: es=>by
  show q ∈ bads es ↔ _
  rw [bads_mem (es:=es)]
  simp
theorem site_low {i:Nat}:∀ (es:List (Tel cgDom.V)) (F:Found cgDom),(∀ q ∈ bads es,q.toNat ≠ i)→(∀ n,F.2[i]?=some n→n<2)→∀ n,(tell cgDom F es).2[i]?=some n→n<2
 | [],_,_,h=>h
 | .point p s :: es,F,hb,h=>site_low es (tell1 cgDom F (.point p s)) hb h
 | .site r true :: es,F,hb,h=>by
  refine site_low es (tell1 cgDom F (.site r true)) (fun q hq=>hb q (List.mem_cons_of_mem _ hq)) (fun n hn=>?_)
  have hn:(F.2.modify r.toNat _)[i]?=some n:=hn
  rw [mod_away (hb r (List.mem_cons_self ..))] at hn
  exact h n hn
 | .site r false :: es,F,hb,h=>by
  refine site_low es (tell1 cgDom F (.site r false)) hb (fun n hn=>?_)
  have hn:(F.2.modify r.toNat (fun n=>max n (if false=true then 2 else 1)))[i]?=some n:=hn
  by_cases hr:r.toNat=i
  ·cases hf:F.2[i]? with
   | none=>rw [List.getElem?_modify,hf] at hn; simp at hn
   | some m =>
    have:=h m hf
    rw [mod_here hr hf] at hn
    have hn:max m 1=n:=by simpa using hn
    omega
  ·rw [mod_away hr] at hn
   exact h n hn
theorem report_const (P:Pol) (t:Bl) (ht:OkB t) (nm:NmB t) (nl:NoLoop t) (nr:NoRead t) (hp:pB t≤400) (hq:qB t≤400) :
  (∀ p:Nat,p<(reportOf cgDom P t).1.length→(∀ st,((p:Int),st) ∈ (runOf (foldB Rn t) [] 500).1→(reportOf cgDom P t).1[p]?=some (some (conE st)))∧((∀ st,((p:Int),st) ∉ (runOf (foldB Rn t) [] 500).1)→(reportOf cgDom P t).1[p]?=some none)) ∧
  (∀ i:Nat,i<(reportOf cgDom P t).2.length→((reportOf cgDom P t).2[i]?=some 2 ↔ (runOf (foldB Rn t) [] 500).2=i))∧((runOf (foldB Rn t) [] 500).1.map (·.1)).Pairwise (· < ·):=by
 have hsm:Small (0,0) (pB t) (qB t):=⟨by simp,by simp,by simp; omega,by simp; omega⟩
 have hc:cB t (0,0)=((pB t:Int),(qB t:Int)):=by rw [cB_sm t (0,0) hsm]; simp
 have hst:St8 (List.replicate 8 0):=⟨by simp,fun k=>by
  rw [List.getD_eq_getElem?_getD,List.getElem?_replicate]
  split <;> (unfold I16; simp)⟩
 have h0:conE (List.replicate 8 0)=fun _=>cgDom.num 0:=by
  funext k
  show con ((List.replicate 8 (0:Int)).getD k.val 0)=con 0
  congr 1
  rw [List.getD_eq_getElem?_getD,List.getElem?_replicate]
  split <;> rfl
 have h1:=anB_x P t ht nm nl nr (0,0) { vis:=[],st:=List.replicate 8 0,ins:=[],fuel:=500 } hst (by show pB t≤500; omega)
 have h1:Exact (pB t) { vis:=[],st:=List.replicate 8 0,ins:=[],fuel:=500 } (dB t (0,0) { vis:=[],st:=List.replicate 8 0,ins:=[],fuel:=500 }) (anB cgDom P t (0,0) (some fun _=>cgDom.num 0)).1 (anB cgDom P t (0,0) (some fun _=>cgDom.num 0)).2:=by rw [← h0]; exact h1
 have h2:Exact (pB t + 1) { vis:=[],st:=List.replicate 8 0,ins:=[],fuel:=500 } (andThen (dB t (0,0) { vis:=[],st:=List.replicate 8 0,ins:=[],fuel:=500 }) (visit (cB t (0,0)).1)) (tolds cgDom P t) (anB cgDom P t (0,0) (some fun _=>cgDom.num 0)).2:=by
  refine exact_then (a:=anB cgDom P t (0,0) (some fun _=>cgDom.num 0)) (g:=fun s=>(telP cgDom (cB t (0,0)).1 s,s)) (f:=visit (cB t (0,0)).1) h1 rfl (fun r1 hs1 hf1=>?_)
  unfold visit
  have hf1:500≤r1.fuel + pB t:=hf1
  rw [if_neg (by omega)]
  exact ⟨[((cB t (0,0)).1,r1.st)],rfl,by show r1.fuel - 1 + 1=r1.fuel; omega,Nat.le_refl _,rfl,hs1,rfl,rfl⟩
 have hinc:Inc 0 ((pB t:Int) + 1) (tolds cgDom P t):=by
  have:=anB_inc P t nl (0,0) hsm (some fun _=>cgDom.num 0)
  refine Inc.append (m:=(pB t:Int)) ?_ ?_ (by omega) (by omega)
  ·simpa using this
  ·rw [hc]
   cases (anB cgDom P t (0,0) (some fun _=>cgDom.num 0)).2 with
   | none=>exact inc_nil rfl
   | some e=>exact inc_point _ e
 have hlen:(reportOf cgDom P t).1.length=pB t + 1∧(reportOf cgDom P t).2.length=qB t:=by
  rw [reportOf_eq]
  obtain ⟨h1,h2⟩:=tell_len (tolds cgDom P t) ((List.replicate ((cB t (0,0)).1 + 1).toNat none,List.replicate (cB t (0,0)).2.toNat 0):Found cgDom)
  rw [h1,h2,hc]
  simp
 have hsites:∀ ev ∈ tolds cgDom P t,EvIn (0,0) ((pB t:Int) + 1,(qB t:Int)) ev:=by
  intro ev h
  rcases List.mem_append.1 h with h | h
  ·have:=anB_in P t (0,0) hsm _ ev h
   exact this.mono (Int.le_refl _) (Int.le_refl _) (by simp; omega) (by simp)
  ·obtain ⟨e,_,rfl⟩:=telP_mem h
   rw [hc]
   exact ⟨by simp,by simp; omega⟩
 have hrun:runOf (foldB Rn t) [] 500=(match andThen (dB t (0,0) { vis:=[],st:=List.replicate 8 0,ins:=[],fuel:=500 }) (visit (cB t (0,0)).1) with
   | (r,none)=>(r.vis,-1)
   | (r,some s)=>(r.vis,s)):=by
  rw [← cB_eq]; rfl
 rw [hrun]
 generalize andThen (dB t (0,0) { vis:=[],st:=List.replicate 8 0,ins:=[],fuel:=500 }) (visit (cB t (0,0)).1)=o at h2
 obtain ⟨r,oo⟩:=o
 obtain ⟨nv,v1,v2,_,v3,_,v5⟩:=h2
 have v1:r.vis=nv:=by simpa using v1
 have hvis:∀ p:Nat,p<(reportOf cgDom P t).1.length→(∀ st,((p:Int),st) ∈ r.vis→(reportOf cgDom P t).1[p]?=some (some (conE st)))∧((∀ st,((p:Int),st) ∉ r.vis)→(reportOf cgDom P t).1[p]?=some none):=by
  intro p hpl
  rw [hlen.1] at hpl
  have hrep:((List.replicate ((cB t (0,0)).1 + 1).toNat none,List.replicate (cB t (0,0)).2.toNat 0):Found cgDom).1[p]?=some none:=by
   show (List.replicate ((cB t (0,0)).1 + 1).toNat none)[p]?=some none
   rw [List.getElem?_replicate,if_pos (by rw [hc]; simp; omega)]
  rw [reportOf_eq]
  refine ⟨fun st hst=>?_,fun hno=>?_⟩
  ·refine fact_here (q:=(p:Int)) (by simp) _ _ hinc.1 (fun q hq=>(hinc.2 q hq).1) ?_ hrep
   rw [v3,← v1]
   exact List.mem_map.2 ⟨_,hst,rfl⟩
  ·rw [fact_away _ _ (fun q hq=>?_)]
   ·exact hrep
   ·intro e
    have hq0:=(hinc.2 q hq).1
    have hqp:q=(p:Int):=by omega
    unfold pis at hq
    rw [v3] at hq
    obtain ⟨⟨a,b⟩,hab,hq⟩:=List.mem_map.1 hq
    obtain ⟨⟨a',st⟩,hst,he⟩:=List.mem_map.1 hab
    have ha:a'=a:=congrArg Prod.fst he
    have hq:a=q:=hq
    refine hno st ?_
    rw [v1,← hqp,← hq,← ha]
    exact hst
 have hbad:∀ i:Nat,i<(reportOf cgDom P t).2.length→((reportOf cgDom P t).2[i]?=some 2 ↔ (i:Int) ∈ bads (tolds cgDom P t)):=by
  intro i hi
  rw [hlen.2] at hi
  rw [reportOf_eq]
  constructor
  ·intro h
   apply Classical.byContradiction
   intro hno
   have:=site_low (i:=i) (tolds cgDom P t) (List.replicate ((cB t (0,0)).1 + 1).toNat none,List.replicate (cB t (0,0)).2.toNat 0) (fun q hq e=>?_) (fun n hn=>?_) 2 h
   ·omega
   ·have hb:=(hsites _ (bads_mem.1 hq)).1
    have hb:(0:Int)≤q:=hb
    have:q=(i:Int):=by omega
    exact hno (this ▸ hq)
   ·have hn:(List.replicate (cB t (0,0)).2.toNat 0)[i]?=some n:=hn
    rw [List.getElem?_replicate] at hn
    split at hn
    ·cases hn; omega
    ·cases hn
  ·intro h
   have:=site_told (D:=cgDom) (q:=(i:Int)) (tolds cgDom P t) (List.replicate ((cB t (0,0)).1 + 1).toNat none,List.replicate (cB t (0,0)).2.toNat 0) (fun j n hn=>?_) (bads_mem.1 h) (by rw [hc]; simp; omega)
   ·simpa using this
   ·have hn:(List.replicate (cB t (0,0)).2.toNat 0)[j]?=some n:=hn
    rw [List.getElem?_replicate] at hn
    split at hn
    ·cases hn; omega
    ·cases hn
 have hpw:(r.vis.map (·.1)).Pairwise (· < ·):=by
  have h:=hinc.1
  unfold pis at h
  rw [v3,List.map_map] at h
  rw [v1]
  exact h
 cases oo with
 | none =>
  refine ⟨hvis,fun i hi=>?_,hpw⟩
  rw [hbad i hi]
  have:bads (tolds cgDom P t)=[]:=v5.2
  rw [this]
  simp
 | some q =>
  refine ⟨hvis,fun i hi=>?_,hpw⟩
  rw [hbad i hi]
  have:bads (tolds cgDom P t)=[q]:=v5.2
  rw [this]
  simp
  exact eq_comm
end Sp
end Go.Proofs.YtiopfihjmkfdmaaGreatDoor
namespace Go.Proofs.YtiopfihjmkfdmaaGreatDoor
namespace Sp
theorem report_len (D:Dom) (P:Pol) (t:Bl) (h:Small (0,0) (pB t) (qB t)):(reportOf D P t).1.length=pB t + 1∧(reportOf D P t).2.length=qB t:=by
 rw [reportOf_eq,(tell_len _ _).1,(tell_len _ _).2,cB_sm t (0,0) h]
 simp
end Sp
end Go.Proofs.YtiopfihjmkfdmaaGreatDoor
namespace Go.Proofs.YtiopfihjmkfdmaaGreatDoor
namespace Sp
section
variable (D : Dom) (P : Pol)
def LoopsB (T:Int→D.St→Res D):Bl→Ct→Prop
 | .nil,_=>True
 | .assign _ x t,ct=>LoopsB T t (cS x (ptUp ct))
 | .read _ t,ct=>LoopsB T t (ptUp ct)
 | .assert _ x y t,ct=>LoopsB T t (cS y (cS x (siteUp (ptUp ct))))
 | .ite _ x y xs true ys t,ct=>LoopsB T xs (cS y (cS x (ptUp ct)))∧LoopsB T ys (cB xs (cS y (cS x (ptUp ct))))∧LoopsB T t (cB ys (cB xs (cS y (cS x (ptUp ct)))))
 | .ite _ x y xs false _ t,ct=>LoopsB T xs (cS y (cS x (ptUp ct)))∧LoopsB T t (cB xs (cS y (cS x (ptUp ct))))
 | .loop k x y xs t,ct=>((0≤ct.1∧ct.1≤1000000)∧∀ s,T ct.1 s=anW D P (anC D k x y (ptUp ct)) (anB D P xs (cS y (cS x (ptUp ct)))) ct.1 s)∧LoopsB T xs (cS y (cS x (ptUp ct)))∧LoopsB T t (cB xs (cS y (cS x (ptUp ct))))
def tabB:Bl→Ct→Int→D.St→Res D
 | .nil,_,_,s=>([],s)
 | .assign _ x t,ct,p,s=>tabB t (cS x (ptUp ct)) p s
 | .read _ t,ct,p,s=>tabB t (ptUp ct) p s
 | .assert _ x y t,ct,p,s=>tabB t (cS y (cS x (siteUp (ptUp ct)))) p s
 | .ite _ x y xs true ys t,ct,p,s=>if p<(cB xs (cS y (cS x (ptUp ct)))).1 then tabB xs (cS y (cS x (ptUp ct))) p s else if p<(cB ys (cB xs (cS y (cS x (ptUp ct))))).1 then tabB ys (cB xs (cS y (cS x (ptUp ct)))) p s else tabB t (cB ys (cB xs (cS y (cS x (ptUp ct))))) p s
 | .ite _ x y xs false _ t,ct,p,s=>if p<(cB xs (cS y (cS x (ptUp ct)))).1 then tabB xs (cS y (cS x (ptUp ct))) p s else tabB t (cB xs (cS y (cS x (ptUp ct)))) p s
 | .loop k x y xs t,ct,p,s=>if p=ct.1 then anW D P (anC D k x y (ptUp ct)) (anB D P xs (cS y (cS x (ptUp ct)))) ct.1 s else if p<(cB xs (cS y (cS x (ptUp ct)))).1 then tabB xs (cS y (cS x (ptUp ct))) p s else tabB t (cB xs (cS y (cS x (ptUp ct)))) p s
theorem tab_loops (T:Int→D.St→Res D):∀ (t:Bl) (ct:Ct),Small ct (pB t) (qB t)→(∀ p s,ct.1≤p→p<ct.1 + pB t→T p s=tabB D P t ct p s)→LoopsB D P T t ct
 | .nil,_,_,_=>trivial
 | .assign k x t,ct,⟨h1,h2,h3,h4⟩,h=>by
  simp only [pB,qB] at h3 h4 h
  have e0:=ptUp_eq h1 (by omega)
  have ec:cS x (ptUp ct)=(ct.1 + 1,ct.2 + nS x):=by rw [e0,cS_sm x _ (by simp; omega) (by simp; omega)]
  show LoopsB D P T t (cS x (ptUp ct))
  simp only [tabB,ec] at h
  rw [ec]
  exact tab_loops T t _ ⟨by simp; omega,by simp; omega,by simp; omega,by simp; omega⟩ (fun p s h5 h6=>h p s (by simp at h5; omega) (by simp at h6; omega))
 | .read k t,ct,⟨h1,h2,h3,h4⟩,h=>by
  simp only [pB,qB] at h3 h4 h
  have e0:=ptUp_eq h1 (by omega)
  show LoopsB D P T t (ptUp ct)
  simp only [tabB,e0] at h
  rw [e0]
  exact tab_loops T t _ ⟨by simp; omega,by simp; omega,by simp; omega,by simp; omega⟩ (fun p s h5 h6=>h p s (by simp at h5; omega) (by simp at h6; omega))
 | .assert k x y t,ct,⟨h1,h2,h3,h4⟩,h=>by
  simp only [pB,qB] at h3 h4 h
  have e0:siteUp (ptUp ct)=(ct.1 + 1,ct.2 + 1):=by rw [ptUp_eq h1 (by omega),siteUp_eq (by simp; omega) (by simp; omega)]
  have ec:cS y (cS x (siteUp (ptUp ct)))=(ct.1 + 1,ct.2 + 1 + nS x + nS y):=by
   rw [e0,cS_sm x _ (by simp; omega) (by simp; omega),cS_sm y _ (by simp; omega) (by simp; omega)]
  show LoopsB D P T t (cS y (cS x (siteUp (ptUp ct))))
  simp only [tabB,ec] at h
  rw [ec]
  exact tab_loops T t _ ⟨by simp; omega,by simp; omega,by simp; omega,by simp; omega⟩ (fun p s h5 h6=>h p s (by simp at h5; omega) (by simp at h6; omega))
 | .ite k x y xs true ys t,ct,⟨h1,h2,h3,h4⟩,h=>by
  simp only [pB,qB,if_true] at h3 h4 h
  have e0:=ptUp_eq h1 (by omega)
  have ec:cS y (cS x (ptUp ct))=(ct.1 + 1,ct.2 + nS x + nS y):=by
   rw [e0,cS_sm x _ (by simp; omega) (by simp; omega),cS_sm y _ (by simp; omega) (by simp; omega)]
  have ex:=cB_sm xs (ct.1 + 1,ct.2 + nS x + nS y) ⟨by simp; omega,by simp; omega,by simp; omega,by simp; omega⟩
  have ey:=cB_sm ys (ct.1 + 1 + pB xs,ct.2 + nS x + nS y + qB xs) ⟨by simp; omega,by simp; omega,by simp; omega,by simp; omega⟩
  show LoopsB D P T xs (cS y (cS x (ptUp ct)))∧LoopsB D P T ys (cB xs (cS y (cS x (ptUp ct))))∧LoopsB D P T t (cB ys (cB xs (cS y (cS x (ptUp ct)))))
  simp only [tabB,ec,ex,ey] at h
  rw [ec,ex,ey]
  refine ⟨tab_loops T xs _ ⟨by simp; omega,by simp; omega,by simp; omega,by simp; omega⟩ (fun p s h5 h6=>?_),tab_loops T ys _ ⟨by simp; omega,by simp; omega,by simp; omega,by simp; omega⟩ (fun p s h5 h6=>?_),tab_loops T t _ ⟨by simp; omega,by simp; omega,by simp; omega,by simp; omega⟩ (fun p s h5 h6=>?_)⟩
  all_goals
   simp at h5 h6
   have:=h p s (by omega) (by omega)
  ·rw [if_pos (by omega)] at this; exact this
  ·rw [if_neg (by omega),if_pos (by omega)] at this; exact this
  ·rw [if_neg (by omega),if_neg (by omega)] at this; exact this
 | .ite k x y xs false ys t,ct,⟨h1,h2,h3,h4⟩,h=>by
  simp only [pB,qB,Bool.false_eq_true,if_false] at h3 h4 h
  have e0:=ptUp_eq h1 (by omega)
  have ec:cS y (cS x (ptUp ct))=(ct.1 + 1,ct.2 + nS x + nS y):=by
   rw [e0,cS_sm x _ (by simp; omega) (by simp; omega),cS_sm y _ (by simp; omega) (by simp; omega)]
  have ex:=cB_sm xs (ct.1 + 1,ct.2 + nS x + nS y) ⟨by simp; omega,by simp; omega,by simp; omega,by simp; omega⟩
  show LoopsB D P T xs (cS y (cS x (ptUp ct)))∧LoopsB D P T t (cB xs (cS y (cS x (ptUp ct))))
  simp only [tabB,ec,ex] at h
  rw [ec,ex]
  refine ⟨tab_loops T xs _ ⟨by simp; omega,by simp; omega,by simp; omega,by simp; omega⟩ (fun p s h5 h6=>?_),tab_loops T t _ ⟨by simp; omega,by simp; omega,by simp; omega,by simp; omega⟩ (fun p s h5 h6=>?_)⟩
  all_goals
   simp at h5 h6
   have:=h p s (by omega) (by omega)
  ·rw [if_pos (by omega)] at this; exact this
  ·rw [if_neg (by omega)] at this; exact this
 | .loop k x y xs t,ct,⟨h1,h2,h3,h4⟩,h=>by
  simp only [pB,qB] at h3 h4 h
  have e0:=ptUp_eq h1 (by omega)
  have ec:cS y (cS x (ptUp ct))=(ct.1 + 1,ct.2 + nS x + nS y):=by
   rw [e0,cS_sm x _ (by simp; omega) (by simp; omega),cS_sm y _ (by simp; omega) (by simp; omega)]
  have ex:=cB_sm xs (ct.1 + 1,ct.2 + nS x + nS y) ⟨by simp; omega,by simp; omega,by simp; omega,by simp; omega⟩
  show ((0≤ct.1∧ct.1≤1000000)∧∀ s,T ct.1 s=anW D P (anC D k x y (ptUp ct)) (anB D P xs (cS y (cS x (ptUp ct)))) ct.1 s)∧LoopsB D P T xs (cS y (cS x (ptUp ct)))∧LoopsB D P T t (cB xs (cS y (cS x (ptUp ct))))
  refine ⟨⟨⟨h1,by omega⟩,fun s=>?_⟩,?_⟩
  ·rw [h ct.1 s (by omega) (by omega)]
   exact if_pos rfl
  ·simp only [tabB,ec,ex] at h
   rw [ec,ex]
   refine ⟨tab_loops T xs _ ⟨by simp; omega,by simp; omega,by simp; omega,by simp; omega⟩ (fun p s h5 h6=>?_),tab_loops T t _ ⟨by simp; omega,by simp; omega,by simp; omega,by simp; omega⟩ (fun p s h5 h6=>?_)⟩
   all_goals
    simp at h5 h6
    have:=h p s (by omega) (by omega)
   ·rw [if_neg (by omega),if_pos (by omega)] at this; exact this
   ·rw [if_neg (by omega),if_neg (by omega)] at this; exact this
end
end Sp
end Go.Proofs.YtiopfihjmkfdmaaGreatDoor
namespace Go.Proofs.YtiopfihjmkfdmaaGreatDoor
namespace Sp
theorem anS_b1 (D:Dom) (k:Nat) (x y:Sm) (ct:Ct) (s:D.Env) (es:List (Tel D.V)) (h:anS D x ct s=(es,none)):anS D (.bin k x y) ct s=(es,none):=by
 unfold anS
 rw [h]
theorem anS_b2 (D:Dom) (k:Nat) (x y:Sm) (ct:Ct) (s:D.Env) (es:List (Tel D.V)) (a:D.V) (es2:List (Tel D.V)) (h:anS D x ct s=(es,some a)) (h2:anS D y (if 3≤k then siteUp (cS x ct) else cS x ct) s=(es2,none)):anS D (.bin k x y) ct s=(es ++ es2,none):=by
 unfold anS
 rw [h]
 simp only
 rw [h2]
theorem anS_b3 (D:Dom) (k:Nat) (x y:Sm) (ct:Ct) (s:D.Env) (es:List (Tel D.V)) (a:D.V) (es2:List (Tel D.V)) (c:D.V) (h:anS D x ct s=(es,some a)) (h2:anS D y (if 3≤k then siteUp (cS x ct) else cS x ct) s=(es2,some c)) (h3:3≤k):anS D (.bin k x y) ct s=(es ++ es2 ++ [.site (cS x ct).2 (D.nought c)],D.work k a c):=by
 unfold anS
 rw [h]
 simp only
 rw [h2]
 simp only
 rw [if_pos h3]
theorem anS_b4 (D:Dom) (k:Nat) (x y:Sm) (ct:Ct) (s:D.Env) (es:List (Tel D.V)) (a:D.V) (es2:List (Tel D.V)) (c:D.V) (h:anS D x ct s=(es,some a)) (h2:anS D y (if 3≤k then siteUp (cS x ct) else cS x ct) s=(es2,some c)) (h3:¬ 3≤k):anS D (.bin k x y) ct s=(es ++ es2,D.work k a c):=by
 unfold anS
 rw [h]
 simp only
 rw [h2]
 simp only
 rw [if_neg h3,List.append_nil]
theorem bnd_none (D:Dom) (k r:Nat) (y:D.V) (e:D.Env) (h:D.bound r (getV D e k) y=none):bndV D (.name k) r y (some e)=none:=by
 unfold bndV
 simp only
 rw [h]
theorem bnd_some (D:Dom) (k r:Nat) (y:D.V) (e:D.Env) (v:D.V) (h:D.bound r (getV D e k) y=some v):bndV D (.name k) r y (some e)=some (setV D e k v):=by
 unfold bndV
 simp only
 rw [h]
theorem behind_none (D:Dom) (r:Nat) (x y:Sm) (a b:D.V) (e:D.Env) (h:D.may r a b=false):behindV D r x y a b e=none:=by
 unfold behindV
 rw [if_neg (by rw [h]; simp)]
theorem behind_some (D:Dom) (r:Nat) (x y:Sm) (a b:D.V) (e:D.Env) (h:D.may r a b=true):behindV D r x y a b e=bndV D y (mirror r) a (bndV D x r b (some e)):=by
 unfold behindV
 rw [if_pos h]
theorem anC_c1 (D:Dom) (k:Nat) (x y:Sm) (ct:Ct) (e:D.Env) (es:List (Tel D.V)) (h:anS D x ct e=(es,none)):anC D k x y ct (some e)=(es,none,none):=by
 unfold anC
 simp only
 rw [h]
theorem anC_c2 (D:Dom) (k:Nat) (x y:Sm) (ct:Ct) (e:D.Env) (es:List (Tel D.V)) (a:D.V) (es2:List (Tel D.V)) (h:anS D x ct e=(es,some a)) (h2:anS D y (cS x ct) e=(es2,none)):anC D k x y ct (some e)=(es ++ es2,none,none):=by
 unfold anC
 simp only
 rw [h]
 simp only
 rw [h2]
theorem anC_c3 (D:Dom) (k:Nat) (x y:Sm) (ct:Ct) (e:D.Env) (es:List (Tel D.V)) (a:D.V) (es2:List (Tel D.V)) (c:D.V) (h:anS D x ct e=(es,some a)) (h2:anS D y (cS x ct) e=(es2,some c)):anC D k x y ct (some e)=(es ++ es2,behindV D k x y a c e,behindV D (opp k) x y a c e):=by
 unfold anC
 simp only
 rw [h]
 simp only
 rw [h2]
end Sp
end Go.Proofs.YtiopfihjmkfdmaaGreatDoor
namespace Go.Proofs.YtiopfihjmkfdmaaGreatDoor
namespace Sp
section
variable {D : Dom} (K : Rk D)
structure Ab:Prop where
 keep:∀ x y,K.wf x→K.sub y x→D.join x y=x
def TelWf:Tel D.V→Prop
 | .point _ s=>∀ k,K.wf (s k)
 | .site _ _=>True
def TelsWf (es:List (Tel D.V)):Prop:=∀ ev ∈ es,TelWf K ev
variable {K}
theorem TelsWf.append {es es':List (Tel D.V)} (h:TelsWf K es) (h':TelsWf K es'):TelsWf K (es ++ es'):=fun ev hv=>(List.mem_append.1 hv).elim (h ev) (h' ev)
theorem TelsWf.left {es es':List (Tel D.V)} (h:TelsWf K (es ++ es')):TelsWf K es:=fun ev hv=>h ev (List.mem_append.2 (.inl hv))
theorem TelsWf.right {es es':List (Tel D.V)} (h:TelsWf K (es ++ es')):TelsWf K es':=fun ev hv=>h ev (List.mem_append.2 (.inr hv))
theorem assign_wf' {k:Nat} {x:Sm} (hx:OkS x) (ct:Ct) (e:D.Env) (he:∀ k,K.wf (e k)):Wf K (stAssign D k x ct e).2:=by
 unfold stAssign
 intro e' h'
 cases hv:(anS D x ct e).2 with
 | none=>rw [hv] at h'; cases h'
 | some v =>
  rw [hv] at h'
  cases h'
  exact wf_set he k (anS_wf x hx ct e he v hv)
theorem if_wf' {cond:CondF D} {f g:D.St→Res D} (hc:CondWf K cond) (hf:BodyWf K f) (hg:BodyWf K g) (e:D.Env) (he:∀ k,K.wf (e k)):Wf K (stIf D cond f g e).2 :=
 wf_jn (hf _ (hc _ (Wf.some he)).1) (hg _ (hc _ (Wf.some he)).2)
variable (K)
def WfF (F:Found D):Prop:=∀ s ∈ F.1,Wf K s
def Told (F:Found D):Tel D.V→Prop
 | .point p s=>∀ f,F.1[p.toNat]?=some f→subS K (some s) f
 | .site q bad=>∀ n,F.2[q.toNat]?=some n→(if bad then 2 else 1)≤n
def ToldAll (F:Found D) (es:List (Tel D.V)):Prop:=∀ ev ∈ es,Told K F ev
variable {K}
theorem modify_get {α:Type} {l:List α} {p i:Nat} {f:α→α} {y:α} (h:(l.modify p f)[i]?=some y):∃ x,l[i]?=some x∧y=if p=i then f x else x:=by
 rw [List.getElem?_modify] at h
 cases hx:l[i]? with
 | none=>rw [hx] at h; simp at h
 | some x =>
  rw [hx] at h
  refine ⟨x,rfl,?_⟩
  by_cases hp:p=i
  ·rw [if_pos hp]; simpa [hp] using h.symm
  ·rw [if_neg hp]; simpa [hp] using h.symm
theorem told_grow {F:Found D} {x:Tel D.V} (h:Told K F x) (y:Tel D.V):Told K (tell1 D F y) x:=by
 cases x with
 | point p s =>
  cases y with
  | site q b=>exact h
  | point q t =>
   intro f hf
   obtain ⟨g,hg,rfl⟩:=modify_get hf
   split
   ·exact subS_trans (h g hg) (subS_l g _)
   ·exact h g hg
 | site q b =>
  cases y with
  | point p t=>exact h
  | site q' b' =>
   intro n hn
   obtain ⟨m,hm,rfl⟩:=modify_get hn
   have:=h m hm
   by_cases hq:q'.toNat=q.toNat
   ·rw [if_pos hq]; exact Nat.le_trans this (Nat.le_max_left _ _)
   ·rw [if_neg hq]; exact this
theorem told_grows {F:Found D} {x:Tel D.V}:∀ (es:List (Tel D.V)) {F:Found D},Told K F x→Told K (tell D F es) x
 | [],_,h=>h
 | y :: es,_,h=>told_grows (F:=F) es (told_grow h y)
theorem ToldAll.grow {F:Found D} {es:List (Tel D.V)} (h:ToldAll K F es) (es':List (Tel D.V)):ToldAll K (tell D F es') es:=fun ev hv=>told_grows (F:=F) es' (h ev hv)
theorem told_now (F:Found D) (x:Tel D.V):Told K (tell1 D F x) x:=by
 cases x with
 | point p s =>
  intro f hf
  obtain ⟨g,_,rfl⟩:=modify_get hf
  rw [if_pos rfl]
  exact subS_r g _
 | site q b =>
  intro n hn
  obtain ⟨m,_,rfl⟩:=modify_get hn
  rw [if_pos rfl]
  omega
theorem toldAll_now:∀ (es:List (Tel D.V)) (F:Found D),ToldAll K (tell D F es) es
 | [],_=>fun _ h=>by cases h
 | x :: es,F=>fun ev hv=>by
  rcases List.mem_cons.1 hv with rfl | hv
  ·exact told_grows (F:=F) es (told_now F ev)
  ·exact toldAll_now es (tell1 D F x) ev hv
theorem jn_keep (A:Ab K) {f:D.St} {s:D.Env} (hf:Wf K f) (h:subS K (some s) f):jn D f (some s)=f:=by
 obtain ⟨g,rfl,hg⟩:=h s rfl
 show some (fun k=>D.join (g k) (s k))=some g
 congr 1
 funext k
 exact A.keep _ _ (hf _ rfl k) (hg k)
theorem tell1_keep (A:Ab K) {F:Found D} (hF:WfF K F) {x:Tel D.V} (h:Told K F x):tell1 D F x=F:=by
 obtain ⟨fs,ns⟩:=F
 cases x with
 | point p s =>
  show (fs.modify p.toNat (fun f=>jn D f (some s)),ns)=(fs,ns)
  congr 1
  refine List.ext_getElem? fun i=>?_
  rw [List.getElem?_modify]
  cases hi:fs[i]? with
  | none=>rfl
  | some f =>
   by_cases hp:p.toNat=i
   ·subst hp
    simp only [if_true,Option.map_eq_map,Option.map_some]
    rw [jn_keep A (hF f (List.mem_of_getElem? hi)) (h f hi)]
   ·simp [hp]
 | site q b =>
  show (fs,ns.modify q.toNat (fun n=>max n (if b then 2 else 1)))=(fs,ns)
  congr 1
  refine List.ext_getElem? fun i=>?_
  rw [List.getElem?_modify]
  cases hi:ns[i]? with
  | none=>rfl
  | some n =>
   by_cases hp:q.toNat=i
   ·subst hp
    have:=h n hi
    simp only [if_true,Option.map_eq_map,Option.map_some]
    rw [Nat.max_eq_left this]
   ·simp [hp]
theorem tell_keep (A:Ab K) {F:Found D} (hF:WfF K F):∀ {es:List (Tel D.V)},ToldAll K F es→tell D F es=F
 | [],_=>rfl
 | x :: es,h=>by
  show tell D (tell1 D F x) es=F
  rw [tell1_keep A hF (h x (List.mem_cons_self ..))]
  exact tell_keep A hF fun ev hv=>h ev (List.mem_cons_of_mem _ hv)
theorem wfF_tell1 {F:Found D} (hF:WfF K F) {x:Tel D.V} (h:TelWf K x):WfF K (tell1 D F x):=by
 cases x with
 | site q b=>exact hF
 | point p s =>
  intro f hf
  obtain ⟨i,hi⟩:=List.getElem?_of_mem hf
  obtain ⟨g,hg,rfl⟩:=modify_get hi
  have hw:=hF g (List.mem_of_getElem? hg)
  split
  ·exact wf_jn hw (Wf.some h)
  ·exact hw
end
end Sp
end Go.Proofs.YtiopfihjmkfdmaaGreatDoor
namespace Go.Proofs.YtiopfihjmkfdmaaGreatDoor
namespace Sp
theorem cg_nought (x:Cg) (h:cgMem x 0):decide (cgMem x 0)=true:=by simp [h]
def cgSnd:Snd cgDom where
 mem:=cgMem
 num n:=by show cgMem ⟨0,n⟩ n; rw [mem_iff]; simp
 whole n _:=by show cgMem cgWhole n; rw [mem_iff]; exact Int.one_dvd _
 neg x n _ h:=cg_neg x n h
 work:=cg_work
 nought:=cg_nought
 joinl:=cg_join_l
 joinr:=cg_join_r
 may r x y a b ha _:=cg_may r x y a b ha
 bound r x y a b ha _:=cg_bound r x y a b ha
 narrow _ _ _ h _:=h
def cgWf (x:Cg):Prop:=(x.m=0∧I16 x.r)∨(1≤x.m∧x.m≤65536∧0≤x.r∧x.r<x.m)
theorem wf_by {g:Nat} (h1:1≤g) (h2:g≤65536) (v:Int):cgWf (cgBy g v) :=
 .inr ⟨h1,h2,Int.emod_nonneg _ (by show (g:Int) ≠ 0; omega),Int.emod_lt_of_pos _ (by show (0:Int)<g; omega)⟩
theorem wf_two (k:Nat) (v:Int):cgWf (cgTwo k v) :=
 wf_by (Nat.gcd_pos_of_pos_right k (by omega)) (Nat.gcd_le_right k (by omega)) v
theorem wf_num {n:Int} (h:I16 n):cgWf ⟨0,n⟩:=.inl ⟨rfl,h⟩
theorem wf_m {x:Cg} (h:cgWf x):x.m≤65536:=by
 rcases h with h | h
 ·omega
 ·exact h.2.1
theorem cg_wwork (k:Nat) (x y v:Cg) (hx:cgWf x) (hy:cgWf y) (h:cgWork k x y=some v):cgWf v:=by
 unfold cgWork at h
 split at h
 ·next h0 =>
  rcases hx with ⟨_,hx⟩ | hx
  ·cases hw:work k x.r y.r with
   | none=>rw [hw] at h; cases h
   | some n =>
    rw [hw] at h
    cases h
    exact wf_num (work_in hx hw)
  ·omega
 ·next h0 =>
  split at h
  ·cases h
  ·split at h
   ·cases h; exact wf_two _ _
   ·split at h
    ·cases h; exact wf_two _ _
    ·split at h
     ·split at h
      ·cases h; exact wf_num (by unfold I16; omega)
      ·cases h; exact wf_two _ _
     ·split at h
      ·cases h; exact .inr ⟨by decide,by decide,by decide,by decide⟩
      ·cases h
       have mx:=wf_m hx
       have my:=wf_m hy
       have hg:0<Nat.gcd x.m y.m:=by
        by_cases e:x.m=0
        ·exact Nat.gcd_pos_of_pos_right _ (by have:y.m ≠ 0:=fun e2=>h0 ⟨e,e2⟩; omega)
        ·exact Nat.gcd_pos_of_pos_left _ (by omega)
       have hle:Nat.gcd x.m y.m≤65536:=by
        by_cases e:x.m=0
        ·have:y.m ≠ 0:=fun e2=>h0 ⟨e,e2⟩
         exact Nat.le_trans (Nat.gcd_le_right _ (by omega)) my
        ·exact Nat.le_trans (Nat.gcd_le_left _ (by omega)) mx
       exact wf_by (Nat.gcd_pos_of_pos_left _ hg) (Nat.le_trans (Nat.gcd_le_left _ hg) hle) _
theorem cg_wjoin (x y:Cg) (hx:cgWf x) (hy:cgWf y):cgWf (cgJoin x y):=by
 unfold cgJoin
 by_cases hg:Nat.gcd (Nat.gcd x.m y.m) (x.r - y.r).natAbs=0
 ·rw [if_pos hg]; exact hx
 ·rw [if_neg hg]
  have mx:=wf_m hx
  have my:=wf_m hy
  refine wf_by (by omega) ?_ _
  by_cases e:Nat.gcd x.m y.m=0
  ·obtain ⟨e1,e2⟩:=Nat.gcd_eq_zero_iff.1 e
   rw [e,Nat.gcd_zero_left]
   rcases hx with ⟨_,hx⟩ | hx
   ·rcases hy with ⟨_,hy⟩ | hy
    ·unfold I16 at *; omega
    ·omega
   ·omega
  ·refine Nat.le_trans (Nat.gcd_le_left _ (by omega)) ?_
   by_cases e1:x.m=0
   ·rw [e1,Nat.gcd_zero_left]; exact my
   ·exact Nat.le_trans (Nat.gcd_le_left _ (by omega)) mx
theorem cg_wbound (r:Nat) (x y v:Cg) (hx:cgWf x) (_:cgWf y) (h:cgBound r x y=some v):cgWf v:=by
 unfold cgBound at h
 split at h
 ·unfold cgMeet at h
  cases hf:cgFirst (cgBoth x y) 65536 (-32768) with
  | none=>rw [hf] at h; cases h
  | some f =>
   rw [hf] at h
   simp only at h
   obtain ⟨_,f2,f3,_⟩:=cgFirst_some hf
   cases hg:cgFirst (cgBoth x y) (32767 - f).toNat (f + 1) with
   | none =>
    rw [hg] at h
    cases h
    exact wf_num (by unfold I16; omega)
   | some g =>
    rw [hg] at h
    obtain ⟨_,g2,g3,_⟩:=cgFirst_some hg
    cases h
    exact wf_by (by omega) (by omega) _
 ·cases h; exact hx
def cgRank (x:Cg):Nat:=if x.m=0 then 0 else 65537 - x.m
theorem cg_join_lt (x y:Cg) (hx:cgWf x) (hy:cgWf y) (h:cgJoin x y ≠ x):cgRank x<cgRank (cgJoin x y):=by
 have hw:=cg_wjoin x y hx hy
 unfold cgJoin at *
 by_cases hg:Nat.gcd (Nat.gcd x.m y.m) (x.r - y.r).natAbs=0
 ·rw [if_pos hg] at h; exact absurd rfl h
 ·rw [if_neg hg] at h hw ⊢
  have mx:=wf_m hx
  have hgm:=wf_m hw
  unfold cgRank
  show (if x.m=0 then 0 else 65537 - x.m)<(if Nat.gcd (Nat.gcd x.m y.m) (x.r - y.r).natAbs=0 then 0 else 65537 - Nat.gcd (Nat.gcd x.m y.m) (x.r - y.r).natAbs)
  rw [if_neg hg]
  have hgm:Nat.gcd (Nat.gcd x.m y.m) (x.r - y.r).natAbs≤65536:=hgm
  by_cases hm:x.m=0
  ·rw [if_pos hm]; omega
  ·rw [if_neg hm]
   have hd:Nat.gcd (Nat.gcd x.m y.m) (x.r - y.r).natAbs ∣ x.m:=Nat.dvd_trans (Nat.gcd_dvd_left _ _) (Nat.gcd_dvd_left _ _)
   have hle:=Nat.le_of_dvd (by omega) hd
   have hne:Nat.gcd (Nat.gcd x.m y.m) (x.r - y.r).natAbs ≠ x.m:=fun e=>by
    apply h
    rw [e]
    rcases hx with ⟨hx,_⟩ | ⟨_,_,h3,h4⟩
    ·exact absurd hx hm
    ·unfold cgBy
     rw [Int.emod_eq_of_lt h3 h4]
   omega
def cgRk:Rk cgDom where
 wf:=cgWf
 rk:=cgRank
 top:=65536
 le x h:=by
  unfold cgRank
  split <;> omega
 wnum _ h:=wf_num h
 wwhole:=.inr ⟨by decide,by decide,by decide,by decide⟩
 wneg x _:=by
  show cgWf (cgNeg x)
  unfold cgNeg
  split
  ·exact wf_num (w16_in _)
  ·exact wf_two _ _
 wwork:=cg_wwork
 wjoin:=cg_wjoin
 wbound:=cg_wbound
 wwiden _ _ _ h:=h
 sub x y:=∀ n,cgMem x n→cgMem y n
 sub_refl _ _ h:=h
 sub_trans _ _ _ h k n hn:=k n (h n hn)
 sub_joinl:=cg_join_l
 sub_joinr x y:=cg_join_r x y
 sub_narrow _ _ _ h _:=h
 wnarrow _ _ _ h _ _ _ _:=h
 join_lt:=cg_join_lt
 widen_le _ _ _ _:=Nat.le_refl _
 fuel:=by decide
end Sp
end Go.Proofs.YtiopfihjmkfdmaaGreatDoor
namespace Go.Proofs.YtiopfihjmkfdmaaGreatDoor
namespace Sp
theorem cg_keep (x y:Cg) (hx:cgWf x) (h:∀ n,cgMem y n→cgMem x n):cgJoin x y=x:=by
 have h1:(x.m:Int) ∣ y.r - x.r:=(mem_iff x y.r).1 (h y.r ((mem_iff y y.r).2 (by simp)))
 have h2:(x.m:Int) ∣ y.r + y.m - x.r:=(mem_iff x (y.r + y.m)).1 (h (y.r + y.m) ((mem_iff y _).2 (by rw [show y.r + (y.m:Int) - y.r=y.m by omega]; exact Int.dvd_refl _)))
 have h3:(x.m:Int) ∣ (y.m:Int):=by
  have:=Int.dvd_sub h2 h1
  rwa [show y.r + (y.m:Int) - x.r - (y.r - x.r)=y.m by omega] at this
 have d1:x.m ∣ y.m:=Int.natCast_dvd_natCast.1 h3
 have d2:x.m ∣ (x.r - y.r).natAbs:=by
  have:(x.m:Int) ∣ x.r - y.r:=by
   have:=Int.dvd_neg.2 h1
   rwa [show -(y.r - x.r)=x.r - y.r by omega] at this
  exact Int.ofNat_dvd_left.1 this
 have hg:Nat.gcd (Nat.gcd x.m y.m) (x.r - y.r).natAbs=x.m:=by
  rw [Nat.gcd_eq_left d1,Nat.gcd_eq_left d2]
 unfold cgJoin
 rw [hg]
 by_cases hm:x.m=0
 ·rw [if_pos hm]
 ·rw [if_neg hm]
  rcases hx with ⟨h0,_⟩ | ⟨_,_,h3,h4⟩
  ·exact absurd h0 hm
  ·unfold cgBy
   rw [Int.emod_eq_of_lt h3 h4]
theorem cgAb:Ab cgRk where
 keep x y hx h:=cg_keep x y hx h
end Sp
end Go.Proofs.YtiopfihjmkfdmaaGreatDoor
namespace Go.Proofs.YtiopfihjmkfdmaaGreatDoor
namespace Sp
theorem left_eq (n:Int) {m:Int} (hm:0<m):(n.tmod m + m).tmod m=n % m:=by
 have h1:=Int.tmod_add_mul_tdiv n m
 have h2:n % m=n.tmod m % m:=by
  conv=>lhs; rw [← h1]
  exact Int.add_mul_emod_self_left _ _ _
 have h3:-m<n.tmod m:=Int.lt_tmod_of_pos n hm
 rw [Int.tmod_eq_emod_of_nonneg (by omega),Int.add_emod_right,h2]
def gcdL (zs:List Int):Nat:=zs.foldl (fun g z=>Nat.gcd g z.natAbs) 0
theorem gcdL_snoc (zs:List Int) (z:Int):gcdL (zs ++ [z])=Nat.gcd (gcdL zs) z.natAbs:=by
 unfold gcdL
 rw [List.foldl_append]
 rfl
theorem gcdL_two (a b:Int):gcdL [a,b]=Nat.gcd a.natAbs b.natAbs:=by
 show Nat.gcd (Nat.gcd 0 a.natAbs) b.natAbs=_
 rw [Nat.gcd_zero_left]
theorem gcdL_three (a b c:Int):gcdL [a,b,c]=Nat.gcd (Nat.gcd a.natAbs b.natAbs) c.natAbs:=by
 show Nat.gcd (Nat.gcd (Nat.gcd 0 a.natAbs) b.natAbs) c.natAbs=_
 rw [Nat.gcd_zero_left]
theorem gcd_round (g n:Int):Nat.gcd n.natAbs (g.tmod n).natAbs=Nat.gcd g.natAbs n.natAbs:=by
 rw [Int.natAbs_tmod,Nat.gcd_comm n.natAbs,← Nat.gcd_rec,Nat.gcd_comm]
theorem round_less (g:Int) {n:Int} (h:n ≠ 0):(g.tmod n).natAbs<n.natAbs:=by
 rw [Int.natAbs_tmod]
 exact Nat.mod_lt _ (by omega)
def cgClass (k:Nat) (n:Int):Cg:=if k=0 then ⟨0,n⟩ else cgBy k n
theorem class_two (k:Nat) (n:Int):cgClass (Nat.gcd k 65536) n=cgTwo k n:=by
 unfold cgClass
 have:Nat.gcd k 65536 ≠ 0:=fun e=>by have:=(Nat.gcd_eq_zero_iff.1 e).2; omega
 rw [if_neg this]
 rfl
theorem has_iff {x:Cg} (h:cgWf x) (n:Int):cgClass x.m n=x ↔ cgMem x n:=by
 rw [mem_iff]
 unfold cgClass
 obtain ⟨m,r⟩:=x
 simp only
 by_cases hm:m=0
 ·rw [if_pos hm]
  subst hm
  simp
  omega
 ·rw [if_neg hm]
  rcases h with ⟨h,_⟩ | ⟨_,_,h3,h4⟩
  ·exact absurd h hm
  ·simp only at h3 h4
   unfold cgBy
   rw [Int.dvd_iff_emod_eq_zero]
   constructor
   ·intro e
    have e:n % (m:Int)=r:=congrArg Cg.r e
    rw [← e,Int.sub_emod,Int.emod_emod_of_dvd _ (Int.dvd_refl _),Int.sub_self]
    rfl
   ·intro e
    have:n % (m:Int)=r % (m:Int):=Int.emod_eq_emod_iff_emod_sub_eq_zero.2 e
    rw [this,Int.emod_eq_of_lt h3 h4]
theorem nought_wf {x:Cg} (h:cgWf x):decide (cgMem x 0)=decide (x.r=0):=by
 have:cgMem x 0 ↔ x.r=0:=by
  rw [← has_iff h]
  unfold cgClass
  obtain ⟨m,r⟩:=x
  simp only
  by_cases hm:m=0
  ·rw [if_pos hm]
   subst hm
   simp
   exact eq_comm
  ·rw [if_neg hm]
   unfold cgBy
   simp
   exact eq_comm
 by_cases hr:x.r=0
 ·rw [decide_eq_true (this.2 hr),decide_eq_true hr]
 ·rw [decide_eq_false (fun k=>hr (this.1 k)),decide_eq_false hr]
theorem join_class (x y:Cg) (hx:cgWf x):cgJoin x y=cgClass (Nat.gcd (Nat.gcd x.m y.m) (x.r - y.r).natAbs) x.r:=by
 unfold cgJoin cgClass
 split
 ·next h =>
  have hm:x.m=0:=(Nat.gcd_eq_zero_iff.1 (Nat.gcd_eq_zero_iff.1 h).1).1
  obtain ⟨m,r⟩:=x
  simp only at hm
  rw [hm]
 ·rfl
end Sp
end Go.Proofs.YtiopfihjmkfdmaaGreatDoor
