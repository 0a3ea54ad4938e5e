import Derived.Test.YtiopfihjmkfdmaaGreatDoorX8
namespace Go.Proofs.YtiopfihjmkfdmaaGreatDoor
namespace Sp
def NmS:Sm→Prop
 | .num _=>True
 | .name k=>k<8
 | .neg x=>NmS x
 | .bin k x y=>k<5∧NmS x∧NmS y
def NmB:Bl→Prop
 | .nil=>True
 | .assign k x t=>k<8∧NmS x∧NmB t
 | .read k t=>k<8∧NmB t
 | .assert k x y t=>k<6∧NmS x∧NmS y∧NmB t
 | .ite k x y xs _ ys t=>k<6∧NmS x∧NmS y∧NmB xs∧NmB ys∧NmB t
 | .loop k x y xs t=>k<6∧NmS x∧NmS y∧NmB xs∧NmB t
theorem nmL:∀ {n:Nat} {fs:List (Bl→Bl)},Pn.QL (fun _ (f:Bl→Bl)=>∀ t,NmB t→NmB (f t)) n fs→NmB (joinB fs)
 | _,[],_=>trivial
 | _,_ :: fs,⟨_,_,_,h1,h2⟩=>h1 (joinB fs) (nmL h2)
theorem nm_made:Pn.Made Tr (fun _ (x:Sm)=>NmS x) (fun _ (f:Bl→Bl)=>∀ t,NmB t→NmB (f t)) where
 pm _ _ _ h _:=h
 qm _ _ _ h _:=h
 num _ _:=trivial
 name _ h:=h
 neg _ _ h:=h
 bin _ _ _ _ _ hk hx hy:=⟨hk,hx,hy⟩
 assign _ _ _ hk hx _ ht:=⟨hk,hx,ht⟩
 read _ hk _ ht:=⟨hk,ht⟩
 assert _ _ _ _ _ hk hx hy _ ht:=⟨hk,hx,hy,ht⟩
 ite _ _ _ _ _ _ _ hk hx hy hxs _ ht:=⟨hk,hx,hy,nmL hxs,trivial,ht⟩
 iteElse _ _ _ _ _ _ _ _ _ hk hx hy hxs hys _ ht:=⟨hk,hx,hy,nmL hxs,nmL hys,ht⟩
 loop _ _ _ _ _ _ _ hk hx hy hxs _ ht:=⟨hk,hx,hy,nmL hxs,ht⟩
theorem tree_names {src:Bs} {t:Bl} (h:tree src=.ok t):NmB t:=by
 unfold tree at h
 split at h
 ·next fs hp =>
  cases h
  exact nmL (Pn.parse_n nm_made hp).2
 ·cases h
def con (n:Int):cgDom.V:=(⟨0,n⟩:Cg)
def conE (st:List Int):cgDom.Env:=fun k=>con (st.getD k.val 0)
def St8 (st:List Int):Prop:=st.length=8∧∀ k:Nat,I16 (st.getD k 0)
def pts:List (Tel cgDom.V)→List (Int × cgDom.Env)
 | []=>[]
 | .point p s :: es=>(p,s) :: pts es
 | .site _ _ :: es=>pts es
def bads:List (Tel cgDom.V)→List Int
 | []=>[]
 | .point _ _ :: es=>bads es
 | .site q true :: es=>q :: bads es
 | .site _ false :: es=>bads es
theorem pts_append:∀ (a b:List (Tel cgDom.V)),pts (a ++ b)=pts a ++ pts b
 | [],_=>rfl
 | .point p s :: a,b=>by show (p,s) :: pts (a ++ b)=(p,s) :: pts a ++ pts b; rw [pts_append a b]; rfl
 | .site _ _ :: a,b=>pts_append a b
theorem bads_append:∀ (a b:List (Tel cgDom.V)),bads (a ++ b)=bads a ++ bads b
 | [],_=>rfl
 | .point _ _ :: a,b=>bads_append a b
 | .site q true :: a,b=>by show q :: bads (a ++ b)=q :: bads a ++ bads b; rw [bads_append a b]; rfl
 | .site _ false :: a,b=>bads_append a b
def SumX (r:Except Int Int) (a:List (Tel cgDom.V) × Option cgDom.V):Prop:=pts a.1=[]∧match r with
 | .ok n=>a.2=some (con n)∧bads a.1=[]∧I16 n
 | .error q=>a.2=none∧bads a.1=[q]
theorem get_con {st:List Int} {k:Nat} (hk:k<8):getV cgDom (conE st) k=con (st.getD k 0):=by
 unfold getV
 rw [dif_pos hk]
 rfl
theorem set_con {st:List Int} (hs:st.length=8) {k:Nat} (n:Int):setV cgDom (conE st) k (con n)=conE (st.set k n):=by
 funext j
 show (if j.val=k then con n else con (st.getD j.val 0))=con ((st.set k n).getD j.val 0)
 have hj:=j.isLt
 rw [List.getD_eq_getElem?_getD,List.getD_eq_getElem?_getD,List.getElem?_set]
 by_cases h:j.val=k
 ·subst h
  rw [if_pos rfl,if_pos rfl,if_pos (by omega)]
  rfl
 ·rw [if_neg h,if_neg (fun e=>h e.symm)]
theorem work_con (k:Nat) (a b:Int):cgDom.work k (con a) (con b)=(work k a b).map con:=by
 show cgWork k ⟨0,a⟩ ⟨0,b⟩=_
 unfold cgWork
 rw [if_pos ⟨rfl,rfl⟩]
 rfl
theorem nought_con (b:Int):cgDom.nought (con b)=decide (b=0):=by
 show decide (cgMem ⟨0,b⟩ 0)=decide (b=0)
 have e:cgMem ⟨0,b⟩ 0 ↔ b=0:=⟨fun h=>((show (0:Int)=b from h)).symm,fun h=>show (0:Int)=b from h.symm⟩
 by_cases h:b=0
 ·rw [decide_eq_true (e.2 h),decide_eq_true h]
 ·rw [decide_eq_false (fun k=>h (e.1 k)),decide_eq_false h]
theorem work_low {k:Nat} (hk:¬ 3≤k) (a b:Int):∃ c,work k a b=some c:=by
 unfold work
 split
 ·exact ⟨_,rfl⟩
 ·split
  ·exact ⟨_,rfl⟩
  ·split
   ·exact ⟨_,rfl⟩
   ·omega
theorem work_zero {k:Nat} (hk:3≤k) (a b:Int):work k a b=none ↔ b=0:=by
 unfold work
 rw [if_neg (by omega),if_neg (by omega),if_neg (by omega)]
 by_cases h:b=0
 ·rw [if_pos h]; simp [h]
 ·rw [if_neg h]
  simp only [h,iff_false]
  split <;> simp
theorem anS_x:∀ (x:Sm) (_:OkS x) (_:NmS x) (ct:Ct) (st:List Int),St8 st→SumX (eS x ct st) (anS cgDom x ct (conE st))
 | .num n,hn,_,ct,st,_=>⟨rfl,rfl,rfl,hn _ (by simp [nuS])⟩
 | .name k,_,hk,ct,st,hs=>⟨rfl,congrArg some (get_con hk),rfl,hs.2 k⟩
 | .neg x,hn,hk,ct,st,hs=>by
  have h:=anS_x x hn hk ct st hs
  have e:eS (.neg x) ct st=evNeg (eS x ct) st:=rfl
  rw [e]
  unfold evNeg
  refine ⟨h.1,?_⟩
  have h2:=h.2
  cases hx:eS x ct st with
  | ok n =>
   rw [hx] at h2
   obtain ⟨h3,h4,_⟩:=h2
   refine ⟨?_,h4,w16_in _⟩
   show (anS cgDom x ct (conE st)).2.map cgDom.neg=_
   rw [h3]
   rfl
  | error q =>
   rw [hx] at h2
   obtain ⟨h3,h4⟩:=h2
   refine ⟨?_,h4⟩
   show (anS cgDom x ct (conE st)).2.map cgDom.neg=_
   rw [h3]
   rfl
 | .bin k x y,hn,hk,ct,st,hs=>by
  have hnx:OkS x:=fun n h=>hn n (by simp [nuS,h])
  have hny:OkS y:=fun n h=>hn n (by simp [nuS,h])
  have hx:=anS_x x hnx hk.2.1 ct st hs
  have hy:=anS_x y hny hk.2.2 (if 3≤k then siteUp (cS x ct) else cS x ct) st hs
  rw [eS_bin]
  unfold evBin anS
  generalize anS cgDom x ct (conE st)=ax at hx ⊢
  generalize anS cgDom y (if 3≤k then siteUp (cS x ct) else cS x ct) (conE st)=ay at hy ⊢
  obtain ⟨e1,ox⟩:=ax
  obtain ⟨e2,oy⟩:=ay
  obtain ⟨px,hx⟩:=hx
  obtain ⟨py,hy⟩:=hy
  cases ex:eS x ct st with
  | error q =>
   rw [ex] at hx
   obtain ⟨h3,h4⟩:=hx
   simp only at h3
   subst h3
   exact ⟨px,rfl,h4⟩
  | ok a =>
   rw [ex] at hx
   obtain ⟨h3,h4,hia⟩:=hx
   simp only at h3 h4 px
   subst h3
   simp only
   cases ey:eS y (if 3≤k then siteUp (cS x ct) else cS x ct) st with
   | error q =>
    rw [ey] at hy
    obtain ⟨h5,h6⟩:=hy
    simp only at h5 h6 py
    subst h5
    simp only
    refine ⟨?_,rfl,?_⟩
    ·rw [pts_append,px,py]; rfl
    ·rw [bads_append,h4,h6]; rfl
   | ok b =>
    rw [ey] at hy
    obtain ⟨h5,h6,hib⟩:=hy
    simp only at h5 h6 py
    subst h5
    simp only
    by_cases h3:3≤k
    ·rw [if_pos h3,if_pos h3,nought_con,work_con]
     have hp:pts (e1 ++ e2 ++ [.site (cS x ct).2 (decide (b=0))])=[]:=by
      rw [pts_append,pts_append,px,py]; rfl
     by_cases hb:b=0
     ·have:=(work_zero h3 a b).2 hb
      rw [this]
      refine ⟨hp,rfl,?_⟩
      show bads (e1 ++ e2 ++ [.site (cS x ct).2 (decide (b=0))])=_
      rw [bads_append,bads_append,h4,h6]
      simp [hb,bads]
     ·cases hw:work k a b with
      | none=>exact absurd ((work_zero h3 a b).1 hw) hb
      | some c =>
       refine ⟨hp,rfl,?_,work_in hia hw⟩
       show bads (e1 ++ e2 ++ [.site (cS x ct).2 (decide (b=0))])=_
       rw [bads_append,bads_append,h4,h6]
       simp [hb,bads]
    ·rw [if_neg h3,if_neg h3,work_con]
     obtain ⟨c,hc⟩:=work_low h3 a b
     rw [hc]
     refine ⟨?_,rfl,?_,work_in hia hc⟩
     ·show pts (e1 ++ e2 ++ [])=[]
      rw [pts_append,pts_append,px,py]; rfl
     ·show bads (e1 ++ e2 ++ [])=[]
      rw [bads_append,bads_append,h4,h6]; rfl
theorem meet_con {n:Int} (h:I16 n):cgMeet ⟨0,n⟩ ⟨0,n⟩=some ⟨0,n⟩:=by
 have hm:∀ k:Int,cgBoth ⟨0,n⟩ ⟨0,n⟩ k=decide (k=n):=fun k=>by
  unfold cgBoth cgMem
  simp
 unfold I16 at h
 unfold cgMeet
 cases hf:cgFirst (cgBoth ⟨0,n⟩ ⟨0,n⟩) 65536 (-32768) with
 | none =>
  have:=cgFirst_none hf n h.1 (by omega)
  rw [hm] at this
  simp at this
 | some f =>
  obtain ⟨h1,h2,h3,_⟩:=cgFirst_some hf
  rw [hm] at h1
  have h1:f=n:=by simpa using h1
  subst h1
  simp only
  cases hg:cgFirst (cgBoth ⟨0,f⟩ ⟨0,f⟩) (32767 - f).toNat (f + 1) with
  | none=>rfl
  | some g =>
   obtain ⟨k1,k2,_⟩:=cgFirst_some hg
   rw [hm] at k1
   have k1:g=f:=by simpa using k1
   omega
theorem may_con (r:Nat) (a b:Int) (ha:I16 a):(cgDom.may r (con a) (con b))=holds r a b:=by
 show cgMay r ⟨0,a⟩ ⟨0,b⟩=holds r a b
 unfold cgMay
 by_cases hh:holds r a b=true
 ·rw [hh]
  by_cases hr:r=2
  ·subst hr
   have:a=b:=by simpa [holds] using hh
   subst this
   rw [meet_con ha]
   rfl
  ·simp [hr]
 ·have hh:holds r a b=false:=by simpa using hh
  rw [hh]
  simp
theorem set_get {st:List Int} (_:st.length=8) {k:Nat}:setV cgDom (conE st) k (con (st.getD k 0))=conE st:=by
 funext j
 show (if j.val=k then con (st.getD k 0) else con (st.getD j.val 0))=con (st.getD j.val 0)
 by_cases h:j.val=k
 ·rw [if_pos h,h]
 ·rw [if_neg h]
theorem bnd_con {side:Sm} (hn:NmS side) {ct:Ct} {st:List Int} (hs:St8 st) {r:Nat} {a b:Int} (ha:eS side ct st=.ok a) (hh:holds r a b=true):bndV cgDom side r (con b) (some (conE st))=some (conE st):=by
 unfold bndV
 simp only
 cases side with
 | name k =>
  have hak:st.getD k 0=a:=by
   have:(Except.ok (st.getD k 0):Except Int Int)=.ok a:=ha
   injection this
  simp only
  rw [show getV cgDom (conE st) k=con (st.getD k 0) from get_con hn]
  have hb:cgDom.bound r (con (st.getD k 0)) (con b)=some (con (st.getD k 0)):=by
   show cgBound r ⟨0,st.getD k 0⟩ ⟨0,b⟩=_
   unfold cgBound
   by_cases hr:r=2
   ·rw [if_pos hr]
    subst hr
    have hab:a=b:=by simpa [holds] using hh
    rw [← hab,hak]
    exact meet_con (by rw [← hak]; exact hs.2 k)
   ·rw [if_neg hr]; rfl
  rw [hb]
  simp only
  exact congrArg some (set_get hs.1)
 | num _=>rfl
 | neg _=>rfl
 | bin _ _ _=>rfl
theorem behind_con {r:Nat} {x y:Sm} (hx:NmS x) (hy:NmS y) {ct ct':Ct} {st:List Int} (hs:St8 st) {a b:Int} (ha:eS x ct st=.ok a) (hb:eS y ct' st=.ok b) (hia:I16 a):behindV cgDom r x y (con a) (con b) (conE st)=if holds r a b=true then some (conE st) else none:=by
 unfold behindV
 rw [may_con r a b hia]
 by_cases hh:holds r a b=true
 ·rw [if_pos hh,if_pos hh,bnd_con hx hs ha hh]
  exact bnd_con hy hs hb (by rw [holds_mirror]; exact hh)
 ·rw [if_neg hh,if_neg hh]
def CondX (r:Except Int Bool) (st:List Int) (a:List (Tel cgDom.V) × cgDom.St × cgDom.St):Prop:=pts a.1=[]∧match r with
 | .ok true=>a.2=(some (conE st),none)∧bads a.1=[]
 | .ok false=>a.2=(none,some (conE st))∧bads a.1=[]
 | .error q=>a.2=(none,none)∧bads a.1=[q]
theorem anC_x {k:Nat} {x y:Sm} (hx:OkS x) (hy:OkS y) (nx:NmS x) (ny:NmS y) (ct:Ct) {st:List Int} (hs:St8 st):CondX (eC k x y ct st) st (anC cgDom k x y ct (some (conE st))):=by
 have h1:=anS_x x hx nx ct st hs
 have h2:=anS_x y hy ny (cS x ct) st hs
 unfold eC evCond anC
 simp only
 generalize anS cgDom x ct (conE st)=ax at h1 ⊢
 generalize anS cgDom y (cS x ct) (conE st)=ay at h2 ⊢
 obtain ⟨e1,ox⟩:=ax
 obtain ⟨e2,oy⟩:=ay
 obtain ⟨px,h1⟩:=h1
 obtain ⟨py,h2⟩:=h2
 cases ex:eS x ct st with
 | error q =>
  rw [ex] at h1
  obtain ⟨h3,h4⟩:=h1
  simp only at h3
  subst h3
  exact ⟨px,rfl,h4⟩
 | ok a =>
  rw [ex] at h1
  obtain ⟨h3,h4,hia⟩:=h1
  simp only at h3 h4 px
  subst h3
  simp only
  cases ey:eS y (cS x ct) st with
  | error q =>
   rw [ey] at h2
   obtain ⟨h5,h6⟩:=h2
   simp only at h5 h6 py
   subst h5
   simp only
   refine ⟨?_,rfl,?_⟩
   ·rw [pts_append,px,py]; rfl
   ·rw [bads_append,h4,h6]; rfl
  | ok b =>
   rw [ey] at h2
   obtain ⟨h5,h6,hib⟩:=h2
   simp only at h5 h6 py
   subst h5
   simp only
   have hp:pts (e1 ++ e2)=[]:=by rw [pts_append,px,py]; rfl
   have hb:bads (e1 ++ e2)=[]:=by rw [bads_append,h4,h6]; rfl
   rw [behind_con nx ny hs ex ey hia,behind_con nx ny hs ex ey hia,holds_opp]
   cases hh:holds k a b with
   | true=>exact ⟨hp,rfl,hb⟩
   | false=>exact ⟨hp,rfl,hb⟩
def conP (v:Int × List Int):Int × cgDom.Env:=(v.1,conE v.2)
def Exact (n:Nat) (r:Rst) (o:Out) (es:List (Tel cgDom.V)) (s:cgDom.St):Prop :=
 ∃ nv,o.1.vis=r.vis ++ nv∧o.1.fuel + nv.length=r.fuel∧nv.length≤n∧pts es=nv.map conP∧St8 o.1.st∧match o.2 with
  | none=>s=some (conE o.1.st)∧bads es=[]
  | some q=>s=none∧bads es=[q]
theorem Exact.mono {n m:Nat} {r:Rst} {o:Out} {es:List (Tel cgDom.V)} {s:cgDom.St} (h:Exact n r o es s) (hn:n≤m):Exact m r o es s:=by
 obtain ⟨nv,h1,h2,hl,h3⟩:=h
 exact ⟨nv,h1,h2,Nat.le_trans hl hn,h3⟩
theorem exact_then {n m:Nat} {r:Rst} {o:Out} {f:Rst→Out} {a:Res cgDom} {g:cgDom.St→Res cgDom} (h:Exact n r o a.1 a.2) (hg:g none=([],none)) (hf:∀ r1,St8 r1.st→r.fuel≤r1.fuel + n→Exact m r1 (f r1) (g (some (conE r1.st))).1 (g (some (conE r1.st))).2) :
  Exact (n + m) r (andThen o f) (thenR cgDom a g).1 (thenR cgDom a g).2:=by
 obtain ⟨nv,h1,h2,hl,h3,h4,h5⟩:=h
 obtain ⟨r1,q⟩:=o
 obtain ⟨es,s⟩:=a
 cases q with
 | some q =>
  obtain ⟨rfl,h6⟩:=h5
  unfold thenR
  rw [hg]
  exact ⟨nv,h1,h2,by omega,by rw [List.append_nil]; exact h3,h4,rfl,by show bads (es ++ [])=[q]; rw [List.append_nil]; exact h6⟩
 | none =>
  obtain ⟨rfl,h6⟩:=h5
  simp only at h1 h2 h3 h6
  obtain ⟨nv2,k1,k2,kl,k3,k4,k5⟩:=hf r1 h4 (by omega)
  refine ⟨nv ++ nv2,?_,?_,by rw [List.length_append]; omega,?_,k4,?_⟩
  ·show (f r1).1.vis=_
   rw [k1,h1,List.append_assoc]
  ·show (f r1).1.fuel + _=_
   rw [List.length_append]; omega
  ·show pts (es ++ _)=_
   rw [pts_append,h3,k3,List.map_append]
  ·show match (f r1).2 with
    | none=>_
    | some q=>_
   unfold thenR
   cases hq:(f r1).2 with
   | none =>
    rw [hq] at k5
    refine ⟨k5.1,?_⟩
    show bads (es ++ _)=[]
    rw [bads_append,h6,k5.2]; rfl
   | some q =>
    rw [hq] at k5
    refine ⟨k5.1,?_⟩
    show bads (es ++ _)=[q]
    rw [bads_append,h6,k5.2]; rfl
theorem exact_st {n:Nat} {p:Int} {f:Rst→Out} {F:cgDom.Env→Res cgDom} {r:Rst} (hr:0<r.fuel) (h:∀ r1:Rst,r1.st=r.st→r1.fuel + 1=r.fuel→Exact n r1 (f r1) (F (conE r1.st)).1 (F (conE r1.st)).2) :
  Exact (1 + n) r (andThen (visit p r) f) (stP cgDom p F (some (conE r.st))).1 (stP cgDom p F (some (conE r.st))).2:=by
 unfold visit
 rw [if_neg (by omega)]
 obtain ⟨nv,h1,h2,hl,h3,h4,h5⟩:=h { r with vis:=r.vis ++ [(p,r.st)],fuel:=r.fuel - 1 } rfl (by show r.fuel - 1 + 1=r.fuel; omega)
 simp only at h1 h2
 refine ⟨(p,r.st) :: nv,?_,?_,by rw [List.length_cons]; omega,?_,h4,?_⟩
 ·show (f _).1.vis=_
  rw [h1,List.append_assoc]; rfl
 ·show (f _).1.fuel + _=_
  rw [List.length_cons]; omega
 ·show (p,conE r.st) :: pts (F (conE r.st)).1=_
  exact congrArg ((p,conE r.st) :: ·) h3
 ·exact h5
theorem st8_set {st:List Int} (h:St8 st) (k:Nat) {n:Int} (hn:I16 n):St8 (st.set k n):=by
 refine ⟨by rw [List.length_set]; exact h.1,fun j=>?_⟩
 rw [List.getD_eq_getElem?_getD,List.getElem?_set]
 split
 ·split
  ·exact hn
  ·unfold I16; simp
 ·rw [← List.getD_eq_getElem?_getD]; exact h.2 j
theorem assign_x {k:Nat} {x:Sm} (hx:OkS x) (nx:NmS x) (ct:Ct) (r:Rst) (hs:St8 r.st):Exact 0 r (doAssign k (eS x ct) r) (stAssign cgDom k x ct (conE r.st)).1 (stAssign cgDom k x ct (conE r.st)).2:=by
 have h:=anS_x x hx nx ct r.st hs
 unfold doAssign stAssign
 obtain ⟨hp,h⟩:=h
 cases ex:eS x ct r.st with
 | ok n =>
  rw [ex] at h
  obtain ⟨h1,h2,h3⟩:=h
  refine ⟨[],by simp [put],by simp [put],Nat.le_refl _,hp,st8_set hs k h3,?_,h2⟩
  show (anS cgDom x ct (conE r.st)).2.map _=_
  rw [h1]
  exact congrArg some (set_con hs.1 n)
 | error q =>
  rw [ex] at h
  obtain ⟨h1,h2⟩:=h
  refine ⟨[],by simp,by simp,Nat.le_refl _,hp,hs,?_,h2⟩
  show (anS cgDom x ct (conE r.st)).2.map _=_
  rw [h1]
  rfl
theorem assert_x {q:Int} {k:Nat} {x y:Sm} (hx:OkS x) (hy:OkS y) (nx:NmS x) (ny:NmS y) (ct:Ct) (r:Rst) (hs:St8 r.st):Exact 0 r (doAssert q (eC k x y ct) r) (stAssert cgDom q k x y ct (conE r.st)).1 (stAssert cgDom q k x y ct (conE r.st)).2:=by
 have h:=anC_x (k:=k) hx hy nx ny ct hs
 unfold doAssert stAssert
 generalize anC cgDom k x y ct (some (conE r.st))=a at h ⊢
 obtain ⟨es,s1,s2⟩:=a
 obtain ⟨hp,h⟩:=h
 simp only at hp
 have hp2:∀ b,pts (es ++ [.site q b])=[]:=fun b=>by rw [pts_append,hp]; rfl
 cases ex:eC k x y ct r.st with
 | error e =>
  rw [ex] at h
  obtain ⟨h1,h2⟩:=h
  cases h1
  exact ⟨[],by simp,by simp,Nat.le_refl _,hp2 _,hs,rfl,by show bads (es ++ [.site q false])=[e]; rw [bads_append,h2]; rfl⟩
 | ok b =>
  rw [ex] at h
  cases b with
  | true =>
   obtain ⟨h1,h2⟩:=h
   cases h1
   exact ⟨[],by simp,by simp,Nat.le_refl _,hp2 _,hs,rfl,by show bads (es ++ [.site q false])=[]; rw [bads_append,h2]; rfl⟩
  | false =>
   obtain ⟨h1,h2⟩:=h
   cases h1
   exact ⟨[],by simp,by simp,Nat.le_refl _,hp2 _,hs,rfl,by show bads (es ++ [.site q true])=[q]; rw [bads_append,h2]; rfl⟩
theorem exact_more {n:Nat} {r:Rst} {o:Out} {es0 es:List (Tel cgDom.V)} {s:cgDom.St} (h:Exact n r o es s) (hp:pts es0=[]) (hb:bads es0=[]) {s':cgDom.St} (hs:s'=s):Exact n r o (es0 ++ es) s':=by
 subst hs
 obtain ⟨nv,k1,k2,kl,k3,k4,k5⟩:=h
 refine ⟨nv,k1,k2,kl,by rw [pts_append,hp]; exact k3,k4,?_⟩
 cases hq:o.2 with
 | none =>
  rw [hq] at k5
  exact ⟨k5.1,by rw [bads_append,hb,k5.2]; rfl⟩
 | some q =>
  rw [hq] at k5
  exact ⟨k5.1,by rw [bads_append,hb,k5.2]; rfl⟩
theorem jn_none_r (s:cgDom.St):jn cgDom s none=s:=by cases s <;> rfl
theorem if_x {n:Nat} {k:Nat} {x y:Sm} (hx:OkS x) (hy:OkS y) (nx:NmS x) (ny:NmS y) (ct:Ct) {f g:Rst→Out} {F G:cgDom.St→Res cgDom} (hF:F none=([],none)) (hG:G none=([],none)) (r:Rst) (hs:St8 r.st)
  (hf:Exact n r (f r) (F (some (conE r.st))).1 (F (some (conE r.st))).2) (hg:Exact n r (g r) (G (some (conE r.st))).1 (G (some (conE r.st))).2) :
  Exact n r (doIf (eC k x y ct) f g r) (stIf cgDom (anC cgDom k x y ct) F G (conE r.st)).1 (stIf cgDom (anC cgDom k x y ct) F G (conE r.st)).2:=by
 have h:=anC_x (k:=k) hx hy nx ny ct hs
 unfold doIf stIf
 generalize anC cgDom k x y ct (some (conE r.st))=a at h ⊢
 obtain ⟨es,s1,s2⟩:=a
 obtain ⟨hp,h⟩:=h
 simp only at hp
 cases ex:eC k x y ct r.st with
 | error e =>
  rw [ex] at h
  obtain ⟨h1,h2⟩:=h
  cases h1
  simp only [hF,hG,List.append_nil]
  exact ⟨[],by simp,by simp,Nat.zero_le _,hp,hs,rfl,h2⟩
 | ok b =>
  rw [ex] at h
  cases b with
  | true =>
   obtain ⟨h1,h2⟩:=h
   cases h1
   simp only [hG,List.append_nil]
   exact exact_more hf hp h2 (jn_none_r _)
  | false =>
   obtain ⟨h1,h2⟩:=h
   cases h1
   simp only [hF,List.append_nil]
   exact exact_more hg hp h2 rfl
theorem anB_x (P:Pol):∀ (t:Bl) (_:OkB t) (_:NmB t) (_:NoLoop t) (_:NoRead t) (ct:Ct) (r:Rst),St8 r.st→pB t≤r.fuel→Exact (pB t) r (dB t ct r) (anB cgDom P t ct (some (conE r.st))).1 (anB cgDom P t ct (some (conE r.st))).2
 | .nil,_,_,_,_,ct,r,hs,_=>⟨[],by simp [dB,foldB,number,steps],by simp [dB,foldB,number,steps],Nat.zero_le _,rfl,hs,rfl,rfl⟩
 | .assign k x t,hn,hk,hl,hd,ct,r,hs,hf=>by
  have hx:OkS x:=fun n h=>hn n (by simp [nuB,h])
  have ht:OkB t:=fun n h=>hn n (by simp [nuB,h])
  have hf:1 + pB t≤r.fuel:=hf
  rw [dB_assign]
  exact exact_then (g:=anB cgDom P t (cS x (ptUp ct))) (exact_st (n:=0) (by omega) (fun r1 e _=>assign_x hx hk.2.1 _ r1 (by rw [e]; exact hs))) (anB_none P t _) (fun r1 hs1 hf1=>anB_x P t ht hk.2.2 hl hd _ r1 hs1 (by omega))
 | .read _ _,_,_,_,hd,_,_,_,_=>hd.elim
 | .loop _ _ _ _ _,_,_,hl,_,_,_,_,_=>hl.elim
 | .assert k x y t,hn,hk,hl,hd,ct,r,hs,hf=>by
  have hx:OkS x:=fun n h=>hn n (by simp [nuB,h])
  have hy:OkS y:=fun n h=>hn n (by simp [nuB,h])
  have ht:OkB t:=fun n h=>hn n (by simp [nuB,h])
  have hf:1 + pB t≤r.fuel:=hf
  rw [dB_assert]
  exact exact_then (g:=anB cgDom P t (cS y (cS x (siteUp (ptUp ct))))) (exact_st (n:=0) (by omega) (fun r1 e _=>assert_x hx hy hk.2.1 hk.2.2.1 _ r1 (by rw [e]; exact hs))) (anB_none P t _) (fun r1 hs1 hf1=>anB_x P t ht hk.2.2.2 hl hd _ r1 hs1 (by omega))
 | .ite k x y xs true ys t,hn,hk,hl,hd,ct,r,hs,hf=>by
  have hx:OkS x:=fun n h=>hn n (by simp [nuB,h])
  have hy:OkS y:=fun n h=>hn n (by simp [nuB,h])
  have h1:OkB xs:=fun n h=>hn n (by simp [nuB,h])
  have h2:OkB ys:=fun n h=>hn n (by simp [nuB,h])
  have ht:OkB t:=fun n h=>hn n (by simp [nuB,h])
  have hf:1 + pB xs + pB ys + pB t≤r.fuel:=hf
  rw [dB_else]
  refine Exact.mono (exact_then (n:=1 + (pB xs + pB ys)) (m:=pB t) (g:=anB cgDom P t (cB ys (cB xs (cS y (cS x (ptUp ct)))))) (exact_st (n:=pB xs + pB ys) (by omega) (fun r1 e hf1=>?_)) (anB_none P t _) (fun r1 hs1 hf1=>anB_x P t ht hk.2.2.2.2.2 hl.2.2 hd.2.2 _ r1 hs1 (by omega))) (by show 1 + (pB xs + pB ys) + pB t≤1 + pB xs + pB ys + pB t; omega)
  have hs1:St8 r1.st:=by rw [e]; exact hs
  exact if_x hx hy hk.2.1 hk.2.2.1 (ptUp ct) (anB_none P xs _) (anB_none P ys _) r1 hs1 ((anB_x P xs h1 hk.2.2.2.1 hl.1 hd.1 _ r1 hs1 (by omega)).mono (by omega)) ((anB_x P ys h2 hk.2.2.2.2.1 hl.2.1 hd.2.1 _ r1 hs1 (by omega)).mono (by omega))
 | .ite k x y xs false ys t,hn,hk,hl,hd,ct,r,hs,hf=>by
  have hx:OkS x:=fun n h=>hn n (by simp [nuB,h])
  have hy:OkS y:=fun n h=>hn n (by simp [nuB,h])
  have h1:OkB xs:=fun n h=>hn n (by simp [nuB,h])
  have ht:OkB t:=fun n h=>hn n (by simp [nuB,h])
  have hf:1 + pB xs + 0 + pB t≤r.fuel:=hf
  rw [dB_if]
  refine Exact.mono (exact_then (n:=1 + pB xs) (m:=pB t) (g:=anB cgDom P t (cB xs (cS y (cS x (ptUp ct))))) (exact_st (n:=pB xs) (by omega) (fun r1 e hf1=>?_)) (anB_none P t _) (fun r1 hs1 hf1=>anB_x P t ht hk.2.2.2.2.2 hl.2.2 hd.2.2 _ r1 hs1 (by omega))) (by show 1 + pB xs + pB t≤1 + pB xs + 0 + pB t; omega)
  have hs1:St8 r1.st:=by rw [e]; exact hs
  exact if_x hx hy hk.2.1 hk.2.2.1 (ptUp ct) (anB_none P xs _) rfl r1 hs1 (anB_x P xs h1 hk.2.2.2.1 hl.1 hd.1 _ r1 hs1 (by omega)) (⟨[],by simp,by simp,Nat.zero_le _,rfl,hs1,rfl,rfl⟩)
end Sp
end Go.Proofs.YtiopfihjmkfdmaaGreatDoor
namespace Go.Proofs.YtiopfihjmkfdmaaGreatDoor
namespace Sp
section
variable {D : Dom}
theorem tell_cons (F:Found D) (x:Tel D.V) (es:List (Tel D.V)):tell D F (x :: es)=tell D (tell1 D F x) es:=rfl
theorem tell1_len (F:Found D) (x:Tel D.V):(tell1 D F x).1.length=F.1.length∧(tell1 D F x).2.length=F.2.length:=by
 cases x with
 | point p s=>exact ⟨by simp [tell1],rfl⟩
 | site q b=>exact ⟨rfl,by simp [tell1]⟩
theorem tell_len:∀ (es:List (Tel D.V)) (F:Found D),(tell D F es).1.length=F.1.length∧(tell D F es).2.length=F.2.length
 | [],_=>⟨rfl,rfl⟩
 | x :: es,F=>by
  rw [tell_cons]
  obtain ⟨h1,h2⟩:=tell_len es (tell1 D F x)
  obtain ⟨h3,h4⟩:=tell1_len F x
  exact ⟨h1.trans h3,h2.trans h4⟩
variable (M : Snd D)
def FactHas (F:Found D) (p:Nat) (st:List Int):Prop:=∃ e,F.1[p]?=some (some e)∧Gm M e st
variable {M}
theorem fact1_keep {F:Found D} {p:Nat} {st:List Int} (h:FactHas M F p st) (x:Tel D.V):FactHas M (tell1 D F x) p st:=by
 obtain ⟨e,h1,h2⟩:=h
 cases x with
 | site q b=>exact ⟨e,h1,h2⟩
 | point q s =>
  unfold FactHas tell1
  simp only [List.getElem?_modify,h1,Option.map_eq_map,Option.map_some]
  by_cases hq:q.toNat=p
  ·rw [if_pos hq]
   obtain ⟨e',he',hm⟩:=inS_l (M:=M) (t:=some s) ⟨e,rfl,h2⟩
   exact ⟨e',by rw [he'],hm⟩
  ·rw [if_neg hq]
   exact ⟨e,rfl,h2⟩
theorem fact_keep {p:Nat} {st:List Int}:∀ (es:List (Tel D.V)) {F:Found D},FactHas M F p st→FactHas M (tell D F es) p st
 | [],_,h=>h
 | x :: es,_,h=>fact_keep es (fact1_keep h x)
theorem fact_told {p:Int} {s:D.Env} {st:List Int} (hm:Gm M s st):∀ (es:List (Tel D.V)) (F:Found D),.point p s ∈ es→p.toNat<F.1.length→FactHas M (tell D F es) p.toNat st
 | x :: es,F,h,hl=>by
  rw [tell_cons]
  rcases List.mem_cons.1 h with rfl | h
  ·refine fact_keep es ?_
   unfold FactHas tell1
   simp only [List.getElem?_modify,if_true]
   rw [List.getElem?_eq_getElem hl]
   simp only [Option.map_eq_map,Option.map_some]
   obtain ⟨e',he',hm'⟩:=inS_r (M:=M) (s:=F.1[p.toNat]) ⟨s,rfl,hm⟩
   exact ⟨e',by rw [he'],hm'⟩
  ·exact fact_told hm es _ h (by rw [(tell1_len F x).1]; exact hl)
theorem site1_keep {F:Found D} {q:Nat} (h:F.2[q]?=some 2) (x:Tel D.V):(tell1 D F x).2[q]?=some 2:=by
 cases x with
 | point p s=>exact h
 | site r b =>
  unfold tell1
  simp only [List.getElem?_modify,h,Option.map_eq_map,Option.map_some]
  by_cases hr:r.toNat=q
  ·rw [if_pos hr]
   cases b <;> rfl
  ·rw [if_neg hr]
theorem site_keep {q:Nat}:∀ (es:List (Tel D.V)) {F:Found D},F.2[q]?=some 2→(tell D F es).2[q]?=some 2
 | [],_,h=>h
 | x :: es,_,h=>site_keep es (site1_keep h x)
def SitesOk (F:Found D):Prop:=∀ (q n:Nat),F.2[q]?=some n→n≤2
theorem sites1_ok {F:Found D} (h:SitesOk F) (x:Tel D.V):SitesOk (tell1 D F x):=by
 cases x with
 | point p s=>exact h
 | site r b =>
  intro q n hn
  unfold tell1 at hn
  cases hq:F.2[q]? with
  | none=>simp only [List.getElem?_modify,hq] at hn; cases hn
  | some m =>
   simp only [List.getElem?_modify,hq,Option.map_eq_map,Option.map_some] at hn
   have:=h q m hq
   cases hn
   split
   ·cases b <;> simp <;> omega
   ·exact this
theorem site_told {q:Int}:∀ (es:List (Tel D.V)) (F:Found D),SitesOk F→.site q true ∈ es→q.toNat<F.2.length→(tell D F es).2[q.toNat]?=some 2
 | x :: es,F,ho,h,hl=>by
  rw [tell_cons]
  rcases List.mem_cons.1 h with rfl | h
  ·refine site_keep es ?_
   unfold tell1
   simp only [List.getElem?_modify,if_true]
   rw [List.getElem?_eq_getElem hl]
   have:=ho q.toNat _ (List.getElem?_eq_getElem hl)
   simp
   omega
  ·exact site_told es _ (sites1_ok ho x) h (by rw [(tell1_len F x).2]; exact hl)
theorem telP_mem {p:Int} {s:D.St} {x:Tel D.V} (h:x ∈ telP D p s):∃ e,s=some e∧x=.point p e:=by
 cases s with
 | none=>cases h
 | some e=>exact ⟨e,rfl,List.mem_singleton.1 h⟩
def tolds (D:Dom) (P:Pol) (t:Bl):List (Tel D.V):=(anB D P t (0,0) (some fun _=>D.num 0)).1 ++ telP D (cB t (0,0)).1 (anB D P t (0,0) (some fun _=>D.num 0)).2
theorem reportOf_eq (P:Pol) (t:Bl):reportOf D P t=tell D (List.replicate ((cB t (0,0)).1 + 1).toNat none,List.replicate (cB t (0,0)).2.toNat 0) (tolds D P t):=rfl
theorem run_cov (K:Rk D) (P:Pol) (t:Bl) (ht:OkB t) (ins:List Int) (hi:∀ n ∈ ins,I16 n) (fuel:Nat) (st0:Gm M (fun _=>D.num 0) (List.replicate 8 0)) :
  Cov M { vis:=[],st:=List.replicate 8 0,ins:=ins,fuel:=fuel } (andThen (dB t (0,0) { vis:=[],st:=List.replicate 8 0,ins:=ins,fuel:=fuel }) (visit (cB t (0,0)).1)) (tolds D P t) (anB D P t (0,0) (some fun _=>D.num 0)).2:=by
 have h1:=anB_sound (M:=M) K P t ht (0,0) { vis:=[],st:=List.replicate 8 0,ins:=ins,fuel:=fuel } (fun _=>D.num 0) hi (fun _=>K.wnum 0 (by unfold I16; omega)) st0
 refine h1.andThen (fun r1 _ hi1 hs1=>?_)
 obtain ⟨e,he,hm⟩:=hs1
 rw [he]
 exact visit_cov hi1 hm
theorem gm_zero:Gm M (fun _=>D.num 0) (List.replicate 8 0):=by
 refine ⟨by simp,fun k=>?_⟩
 have:(List.replicate 8 (0:Int)).getD k.val 0=0:=by
  rw [List.getD_eq_getElem?_getD,List.getElem?_replicate]
  split <;> rfl
 rw [this]
 exact ⟨M.num 0,by unfold I16; omega⟩
theorem report_sound (K:Rk D) (M:Snd D) (P:Pol) (t:Bl) (ht:OkB t) (hp:pB t≤400) (hq:qB t≤400) (ins:List Int) (hi:∀ n ∈ ins,I16 n) (fuel:Nat) :
  (∀ v ∈ (runOf (foldB Rn t) ins fuel).1,0≤v.1∧v.1.toNat<(reportOf D P t).1.length∧FactHas M (reportOf D P t) v.1.toNat v.2) ∧
  ((runOf (foldB Rn t) ins fuel).2<0∨((runOf (foldB Rn t) ins fuel).2.toNat<(reportOf D P t).2.length∧(reportOf D P t).2[(runOf (foldB Rn t) ins fuel).2.toNat]?=some 2)):=by
 have hsm:Small (0,0) (pB t) (qB t):=⟨by simp,by simp,by simp; omega,by simp; omega⟩
 have hc:cB t (0,0)=((pB t:Int),(qB t:Int)):=by rw [cB_sm t (0,0) hsm]; simp
 have hcov:=run_cov (M:=M) K P t ht ins hi fuel gm_zero
 have hin:∀ ev ∈ tolds D P t,EvIn (0,0) ((pB t:Int) + 1,(qB t:Int)) ev:=by
  intro ev h
  rcases List.mem_append.1 h with h | h
  ·have:=anB_in P t (0,0) hsm _ ev h
   exact this.mono (Int.le_refl _) (Int.le_refl _) (by simp; omega) (by simp)
  ·obtain ⟨e,_,rfl⟩:=telP_mem h
   rw [hc]
   exact ⟨by simp,by simp; omega⟩
 have hlen:(reportOf D P t).1.length=pB t + 1∧(reportOf D P t).2.length=qB t:=by
  rw [reportOf_eq]
  obtain ⟨h1,h2⟩:=tell_len (tolds D P t) ((List.replicate ((cB t (0,0)).1 + 1).toNat none,List.replicate (cB t (0,0)).2.toNat 0):Found D)
  rw [h1,h2,hc]
  simp
 have hrun:runOf (foldB Rn t) ins fuel=(match andThen (dB t (0,0) { vis:=[],st:=List.replicate 8 0,ins:=ins,fuel:=fuel }) (visit (cB t (0,0)).1) with
   | (r,none)=>(r.vis,-1)
   | (r,some s)=>(r.vis,s)):=by
  rw [← cB_eq]; rfl
 rw [hrun]
 generalize andThen (dB t (0,0) { vis:=[],st:=List.replicate 8 0,ins:=ins,fuel:=fuel }) (visit (cB t (0,0)).1)=o at hcov
 obtain ⟨r,oo⟩:=o
 obtain ⟨_,⟨nv,h2,h3⟩,h4⟩:=hcov
 have h2:r.vis=nv:=by simpa using h2
 have hvis:∀ v ∈ r.vis,0≤v.1∧v.1.toNat<(reportOf D P t).1.length∧FactHas M (reportOf D P t) v.1.toNat v.2:=by
  intro v hv
  rw [h2] at hv
  obtain ⟨e,he,hm⟩:=h3 v hv
  obtain ⟨b1,b2⟩:=hin _ he
  simp at b1 b2
  refine ⟨b1,by rw [hlen.1]; omega,?_⟩
  rw [reportOf_eq]
  refine fact_told hm _ _ he ?_
  rw [hc]
  simp
  omega
 cases oo with
 | none=>exact ⟨hvis,.inl (by simp)⟩
 | some q =>
  refine ⟨hvis,?_⟩
  rcases h4 with h4 | h4
  ·have h4:q=-2:=h4
   subst h4
   exact .inl (by simp)
  ·obtain ⟨b1,b2⟩:=hin _ h4
   simp at b1 b2
   refine .inr ⟨by rw [hlen.2]; show q.toNat<qB t; omega,?_⟩
   rw [reportOf_eq]
   refine site_told _ _ ?_ h4 (by rw [hc]; simp; omega)
   intro i n hn
   have:=List.getElem?_replicate (a:=0) (n:=(cB t (0,0)).2.toNat) (i:=i)
   have hn:(List.replicate (cB t (0,0)).2.toNat 0)[i]?=some n:=hn
   rw [this] at hn
   split at hn
   ·cases hn; omega
   ·cases hn
end
end Sp
end Go.Proofs.YtiopfihjmkfdmaaGreatDoor
