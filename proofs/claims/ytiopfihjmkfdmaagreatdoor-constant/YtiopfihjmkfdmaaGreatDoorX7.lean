import Derived.Test.YtiopfihjmkfdmaaGreatDoorX6
namespace Go.Proofs.YtiopfihjmkfdmaaGreatDoor
namespace Sp
structure Snd (D:Dom) where
 mem:D.V→Int→Prop
 num:∀ n,mem (D.num n) n
 whole:∀ n,I16 n→mem D.whole n
 neg:∀ x n,I16 n→mem x n→mem (D.neg x) (w16 (-n))
 work:∀ k x y a b c,I16 a→I16 b→mem x a→mem y b→work k a b=some c→∃ v,D.work k x y=some v∧mem v c
 nought:∀ x,mem x 0→D.nought x=true
 joinl:∀ x y n,mem x n→mem (D.join x y) n
 joinr:∀ x y n,mem y n→mem (D.join x y) n
 may:∀ r x y a b,I16 a→I16 b→mem x a→mem y b→holds r a b=true→D.may r x y=true
 bound:∀ r x y a b,I16 a→I16 b→mem x a→mem y b→holds r a b=true→∃ v,D.bound r x y=some v∧mem v a
 narrow:∀ x y n,mem x n→mem y n→mem (D.narrow x y) n
theorem w16_in (n:Int):I16 (w16 n):=by
 unfold I16 w16 IntKind.wrap
 have h:(2 ^ IntKind.i16.bits:Int)=65536:=rfl
 have h2:(2 ^ (IntKind.i16.bits - 1):Int)=32768:=rfl
 simp only [h,h2]
 show -32768≤(if (true && decide (n % 65536 ≥ 32768))=true then n % 65536 - 65536 else n % 65536)∧(if (true && decide (n % 65536 ≥ 32768))=true then n % 65536 - 65536 else n % 65536)≤32767
 by_cases hc:n % 65536 ≥ 32768
 ·rw [if_pos (by simp; exact hc)]; omega
 ·rw [if_neg (by simp; omega)]; omega
theorem work_in {k:Nat} {a b c:Int} (ha:I16 a) (h:work k a b=some c):I16 c:=by
 unfold work at h
 split at h
 ·cases h; exact w16_in _
 ·split at h
  ·cases h; exact w16_in _
  ·split at h
   ·cases h; exact w16_in _
   ·split at h
    ·cases h
    ·split at h
     ·cases h; exact w16_in _
     ·cases h
      next hb0 _ =>
      unfold I16 at *
      have h2:(a.tmod b).natAbs≤a.natAbs:=by
       rw [Int.natAbs_tmod]
       exact Nat.mod_le _ _
      have h3:a.tmod b≤a.natAbs:=by omega
      by_cases h0:0≤a
      ·have:=Int.tmod_nonneg b h0
       omega
      ·have h4:=Int.tmod_nonneg b (a:=-a) (by omega)
       rw [Int.neg_tmod] at h4
       omega
theorem holds_opp (k:Nat) (a b:Int):holds (opp k) a b=!holds k a b:=by
 match k with
 | 0=>rw [Bool.eq_iff_iff]; simp [holds,opp]
 | 1=>rw [Bool.eq_iff_iff]; simp [holds,opp]
 | 2=>simp [holds,opp,bne]
 | 3=>simp [holds,opp,bne]
 | 4=>rw [Bool.eq_iff_iff]; simp [holds,opp]
 | 5=>rw [Bool.eq_iff_iff]; simp [holds,opp]
 | n + 6=>rw [Bool.eq_iff_iff]; simp [holds,opp]
theorem holds_mirror (k:Nat) (a b:Int):holds (mirror k) b a=holds k a b:=by
 match k with
 | 0=>simp [holds,mirror]
 | 1=>simp [holds,mirror]
 | 2=>rw [Bool.eq_iff_iff]; simp [holds,mirror]; constructor <;> (intro h; exact h.symm)
 | 3=>rw [Bool.eq_iff_iff]; simp [holds,mirror]; constructor <;> (intro h k; exact h k.symm)
 | 4=>simp [holds,mirror]
 | 5=>simp [holds,mirror]
 | n + 6=>simp [holds,mirror]
section
variable {D : Dom} (M : Snd D)
def Gm (e:D.Env) (st:List Int):Prop:=st.length=8∧∀ k:Fin 8,M.mem (e k) (st.getD k.val 0)∧I16 (st.getD k.val 0)
def inS (s:D.St) (st:List Int):Prop:=∃ e,s=some e∧Gm M e st
variable {M}
theorem Gm.get {e:D.Env} {st:List Int} (h:Gm M e st) (k:Nat):M.mem (getV D e k) (st.getD k 0)∧I16 (st.getD k 0):=by
 by_cases hk:k<8
 ·have:=h.2 ⟨k,hk⟩
  unfold getV
  rw [dif_pos hk]; exact this
 ·have e0:st.getD k 0=0:=by
   rw [List.getD_eq_getElem?_getD,List.getElem?_eq_none (by have:=h.1; omega)]; rfl
  unfold getV
  rw [dif_neg hk,e0]
  exact ⟨M.whole 0 (by unfold I16; omega),by unfold I16; omega⟩
theorem Gm.set {e:D.Env} {st:List Int} (h:Gm M e st) (k:Nat) {v:D.V} {n:Int} (hv:M.mem v n) (hn:I16 n):Gm M (setV D e k v) (st.set k n):=by
 refine ⟨by rw [List.length_set]; exact h.1,fun j=>?_⟩
 have hj:j.val<st.length:=by rw [h.1]; exact j.isLt
 unfold setV
 by_cases e:j.val=k
 ·rw [if_pos e]
  have:(st.set k n).getD j.val 0=n:=by
   rw [List.getD_eq_getElem?_getD,e,List.getElem?_set_self (by omega)]; rfl
  rw [this]; exact ⟨hv,hn⟩
 ·rw [if_neg e]
  have:(st.set k n).getD j.val 0=st.getD j.val 0:=by
   rw [List.getD_eq_getElem?_getD,List.getD_eq_getElem?_getD,List.getElem?_set_ne (fun h=>e h.symm)]
  rw [this]; exact h.2 j
theorem inS_l {s t:D.St} {st:List Int} (h:inS M s st):inS M (jn D s t) st:=by
 obtain ⟨e,rfl,h⟩:=h
 cases t with
 | none=>exact ⟨e,rfl,h⟩
 | some t=>exact ⟨_,rfl,h.1,fun k=>⟨M.joinl _ _ _ (h.2 k).1,(h.2 k).2⟩⟩
theorem inS_r {s t:D.St} {st:List Int} (h:inS M t st):inS M (jn D s t) st:=by
 obtain ⟨e,rfl,h⟩:=h
 cases s with
 | none=>exact ⟨e,rfl,h⟩
 | some s=>exact ⟨_,rfl,h.1,fun k=>⟨M.joinr _ _ _ (h.2 k).1,(h.2 k).2⟩⟩
theorem inS_narrow {s t:D.St} {st:List Int} (h:inS M s st) (k:inS M t st):inS M (eachV D D.narrow s t) st:=by
 obtain ⟨e,rfl,h⟩:=h
 obtain ⟨g,rfl,k⟩:=k
 exact ⟨_,rfl,h.1,fun j=>⟨M.narrow _ _ _ (h.2 j).1 (k.2 j).1,(h.2 j).2⟩⟩
def eS (x:Sm) (ct:Ct):Ev:=((show Ct→Ev × Ct from foldS Rn x) ct).1
theorem cS_eq:∀ (x:Sm) (ct:Ct),((show Ct→Ev × Ct from foldS Rn x) ct).2=cS x ct
 | .num _,_=>rfl
 | .name _,_=>rfl
 | .neg x,ct=>cS_eq x ct
 | .bin k x y,ct=>by
  have hx:=cS_eq x ct
  show ((show Ct→Ev × Ct from Rn.bin k (foldS Rn x) (foldS Rn y)) ct).2=cS y (if 3≤k then siteUp (cS x ct) else cS x ct)
  by_cases h:3≤k
  ·rw [if_pos h,← cS_eq y (siteUp (cS x ct)),← hx]
   simp only [Rn,if_pos h]
  ·rw [if_neg h,← cS_eq y (cS x ct),← hx]
   simp only [Rn,if_neg h]
theorem eS_bin (k:Nat) (x y:Sm) (ct:Ct):eS (.bin k x y) ct=evBin k (if 3≤k then (cS x ct).2 else 0) (eS x ct) (eS y (if 3≤k then siteUp (cS x ct) else cS x ct)):=by
 rw [← cS_eq x ct]
 show ((show Ct→Ev × Ct from Rn.bin k (foldS Rn x) (foldS Rn y)) ct).1=_
 by_cases h:3≤k
 ·simp only [Rn,if_pos h]; rfl
 ·simp only [Rn,if_neg h]; rfl
def SumOk (M:Snd D) (r:Except Int Int) (a:List (Tel D.V) × Option D.V):Prop:=match r with
 | .ok n=>I16 n∧∃ v,a.2=some v∧M.mem v n
 | .error q=>.site q true ∈ a.1
theorem anS_sound:∀ (x:Sm) (_:OkS x) (ct:Ct) (e:D.Env) (st:List Int),Gm M e st→SumOk M (eS x ct st) (anS D x ct e)
 | .num n,hn,_,e,st,_=>⟨hn _ (by simp [nuS]),_,rfl,M.num _⟩
 | .name k,_,_,e,st,h=>⟨(h.get k).2,_,rfl,(h.get k).1⟩
 | .neg x,hn,ct,e,st,h=>by
  have ih:=anS_sound x hn ct e st h
  show SumOk M (evNeg (eS x ct) st) _
  unfold evNeg
  cases hx:eS x ct st with
  | error q=>rw [hx] at ih; exact ih
  | ok n =>
   rw [hx] at ih
   obtain ⟨h1,v,h2,h3⟩:=ih
   exact ⟨w16_in _,D.neg v,by show (anS D x ct e).2.map D.neg=_; rw [h2]; rfl,M.neg _ _ h1 h3⟩
 | .bin k x y,hn,ct,e,st,h=>by
  have hnx:OkS x:=fun n h=>hn n (by simp [nuS,h])
  have hny:OkS y:=fun n h=>hn n (by simp [nuS,h])
  have ih1:=anS_sound x hnx ct e st h
  have ih2:=anS_sound y hny (if 3≤k then siteUp (cS x ct) else cS x ct) e st h
  rw [eS_bin]
  unfold evBin
  show SumOk M _ (anS D (.bin k x y) ct e)
  unfold anS
  cases hx:eS x ct st with
  | error q =>
   rw [hx] at ih1
   have ih1:Tel.site q true ∈ (anS D x ct e).1:=ih1
   simp only
   split
   ·next e1 h1=>rw [h1] at ih1; exact ih1
   ·next e1 a h1 =>
    rw [h1] at ih1
    split
    ·next e2 h2=>exact List.mem_append_left _ ih1
    ·next e2 b h2=>exact List.mem_append_left _ (List.mem_append_left _ ih1)
  | ok n =>
   rw [hx] at ih1
   obtain ⟨n16,a,ha,hma⟩:=ih1
   have ea:anS D x ct e=((anS D x ct e).1,some a):=by rw [← ha]
   rw [ea]
   simp only
   cases hy:eS y (if 3≤k then siteUp (cS x ct) else cS x ct) st with
   | error q =>
    rw [hy] at ih2
    have ih2:Tel.site q true ∈ (anS D y (if 3≤k then siteUp (cS x ct) else cS x ct) e).1:=ih2
    simp only
    split
    ·next e2 h2=>rw [h2] at ih2; exact List.mem_append_right _ ih2
    ·next e2 b h2=>rw [h2] at ih2; exact List.mem_append_left _ (List.mem_append_right _ ih2)
   | ok m =>
    rw [hy] at ih2
    obtain ⟨m16,b,hb,hmb⟩:=ih2
    have eb:anS D y (if 3≤k then siteUp (cS x ct) else cS x ct) e=((anS D y (if 3≤k then siteUp (cS x ct) else cS x ct) e).1,some b):=by rw [← hb]
    rw [eb]
    simp only
    cases hw:work k n m with
    | some c =>
     obtain ⟨v,hv,hmv⟩:=M.work k a b n m c n16 m16 hma hmb hw
     exact ⟨work_in n16 hw,v,hv,hmv⟩
    | none =>
     have h3:3≤k∧m=0:=by
      unfold work at hw
      repeat' split at hw
      all_goals first
       | (constructor <;> omega)
       | cases hw
     obtain ⟨h3,rfl⟩:=h3
     show Tel.site (if 3≤k then (cS x ct).2 else 0) true ∈ _ ++ _ ++ (if 3≤k then [Tel.site (cS x ct).2 (D.nought b)] else [])
     rw [if_pos (c:=3≤k) (t:=(cS x ct).2) h3,if_pos (c:=3≤k) (t:=[Tel.site (cS x ct).2 (D.nought b)]) h3,M.nought b hmb]
     exact List.mem_append_right _ (List.mem_singleton.2 rfl)
def eC (k:Nat) (x y:Sm) (ct:Ct):List Int→Except Int Bool:=evCond k (eS x ct) (eS y (cS x ct))
def CondOk (M:Snd D) (c:List Int→Except Int Bool) (cond:CondF D):Prop:=∀ (e:D.Env) (st:List Int),Gm M e st→match c st with
 | .error q=>.site q true ∈ (cond (some e)).1
 | .ok true=>inS M (cond (some e)).2.1 st
 | .ok false=>inS M (cond (some e)).2.2 st
theorem bnd_sound {side:Sm} {r:Nat} {other:D.V} {s:D.St} {st:List Int} {ct:Ct} {a b:Int} (h:inS M s st) (ha:eS side ct st=.ok a) (hb:M.mem other b) (hbi:I16 b) (hh:holds r a b=true):inS M (bndV D side r other s) st:=by
 obtain ⟨e,rfl,h⟩:=h
 unfold bndV
 simp only
 split
 ·next k =>
  have ea:a=st.getD k 0:=by
   have:eS (.name k) ct st=.ok (st.getD k 0):=rfl
   rw [this] at ha
   cases ha; rfl
  subst ea
  obtain ⟨v,hv,hm⟩:=M.bound r _ other _ b (h.get k).2 hbi (h.get k).1 hb hh
  rw [hv]
  refine ⟨_,rfl,?_⟩
  have:=h.set k hm (h.get k).2
  have e2:st.set k (st.getD k 0)=st:=by
   apply List.ext_getElem?
   intro j
   by_cases hj:k=j
   ·subst hj
    by_cases hl:k<st.length
    ·rw [List.getElem?_set_self hl,List.getD_eq_getElem?_getD,List.getElem?_eq_getElem hl]; rfl
    ·rw [List.getElem?_eq_none (by simp; omega),List.getElem?_eq_none (by omega)]
   ·rw [List.getElem?_set_ne hj]
  rwa [e2] at this
 ·exact ⟨e,rfl,h⟩
theorem behind_sound {k:Nat} {x y:Sm} {ct ct':Ct} {va vb:D.V} {e:D.Env} {st:List Int} {a b:Int} (h:Gm M e st) (hx:eS x ct st=.ok a) (hy:eS y ct' st=.ok b) (ha:M.mem va a) (hb:M.mem vb b) (hai:I16 a) (hbi:I16 b) (hh:holds k a b=true):inS M (behindV D k x y va vb e) st:=by
 unfold behindV
 rw [if_pos (M.may k _ _ _ _ hai hbi ha hb hh)]
 exact bnd_sound (bnd_sound ⟨e,rfl,h⟩ hx hb hbi hh) hy ha hai (by rw [holds_mirror]; exact hh)
theorem anC_sound {k:Nat} {x y:Sm} (hx:OkS x) (hy:OkS y) (ct:Ct):CondOk M (eC k x y ct) (anC D k x y ct):=by
 intro e st h
 have ih1:=anS_sound (M:=M) x hx ct e st h
 have ih2:=anS_sound (M:=M) y hy (cS x ct) e st h
 unfold eC evCond anC
 cases h1:eS x ct st with
 | error q =>
  rw [h1] at ih1
  have ih1:Tel.site q true ∈ (anS D x ct e).1:=ih1
  simp only
  split
  ·next e1 k1=>rw [k1] at ih1; exact ih1
  ·next e1 a k1 =>
   rw [k1] at ih1
   split
   ·exact List.mem_append_left _ ih1
   ·exact List.mem_append_left _ ih1
 | ok n =>
  rw [h1] at ih1
  obtain ⟨n16,a,ha,hma⟩:=ih1
  have ea:anS D x ct e=((anS D x ct e).1,some a):=by rw [← ha]
  simp only
  rw [ea]
  simp only
  cases h2:eS y (cS x ct) st with
  | error q =>
   rw [h2] at ih2
   have ih2:Tel.site q true ∈ (anS D y (cS x ct) e).1:=ih2
   simp only
   split
   ·next e2 k2=>rw [k2] at ih2; exact List.mem_append_right _ ih2
   ·next e2 b k2=>rw [k2] at ih2; exact List.mem_append_right _ ih2
  | ok m =>
   rw [h2] at ih2
   obtain ⟨m16,b,hb,hmb⟩:=ih2
   have eb:anS D y (cS x ct) e=((anS D y (cS x ct) e).1,some b):=by rw [← hb]
   simp only
   rw [eb]
   simp only
   cases hh:holds k n m with
   | true=>exact behind_sound h h1 h2 hma hmb n16 m16 hh
   | false=>exact behind_sound h h1 h2 hma hmb n16 m16 (by rw [holds_opp,hh]; rfl)
def InsOk (r:Rst):Prop:=∀ n ∈ r.ins,I16 n
def Cov (M:Snd D) (r:Rst) (o:Out) (es:List (Tel D.V)) (s:D.St):Prop :=
 InsOk o.1∧(∃ nv,o.1.vis=r.vis ++ nv∧∀ v ∈ nv,∃ e,.point v.1 e ∈ es∧Gm M e v.2) ∧
 (match o.2 with
   | none=>inS M s o.1.st
   | some q=>q=-2∨.site q true ∈ es)
theorem Cov.mono {r:Rst} {o:Out} {es es':List (Tel D.V)} {s s':D.St} (h:Cov M r o es s) (he:∀ x ∈ es,x ∈ es') (hs:∀ st,inS M s st→inS M s' st):Cov M r o es' s':=by
 obtain ⟨h1,⟨nv,h2,h3⟩,h4⟩:=h
 refine ⟨h1,⟨nv,h2,fun v hv=>?_⟩,?_⟩
 ·obtain ⟨e,a,b⟩:=h3 v hv
  exact ⟨e,he _ a,b⟩
 ·cases ho:o.2 with
  | none=>rw [ho] at h4; exact hs _ h4
  | some q =>
   rw [ho] at h4
   rcases h4 with h4 | h4
   ·exact .inl h4
   ·exact .inr (he _ h4)
theorem Cov.andThen {r:Rst} {o:Out} {f:Rst→Out} {es es2:List (Tel D.V)} {s s2:D.St} (h:Cov M r o es s) (hf:∀ r1,o=(r1,none)→InsOk r1→inS M s r1.st→Cov M r1 (f r1) es2 s2):Cov M r (andThen o f) (es ++ es2) s2:=by
 obtain ⟨r1,oo⟩:=o
 obtain ⟨h1,⟨nv,h2,h3⟩,h4⟩:=h
 cases oo with
 | some q =>
  refine ⟨h1,⟨nv,h2,fun v hv=>?_⟩,?_⟩
  ·obtain ⟨e,a,b⟩:=h3 v hv
   exact ⟨e,List.mem_append_left _ a,b⟩
  ·rcases h4 with h4 | h4
   ·exact .inl h4
   ·exact .inr (List.mem_append_left _ h4)
 | none =>
  obtain ⟨k1,⟨mv,k2,k3⟩,k4⟩:=hf r1 rfl h1 h4
  have h2:r1.vis=r.vis ++ nv:=h2
  show Cov M r (f r1) _ _
  refine ⟨k1,⟨nv ++ mv,by rw [k2,h2,List.append_assoc],fun v hv=>?_⟩,?_⟩
  ·rcases List.mem_append.1 hv with hv | hv
   ·obtain ⟨e,a,b⟩:=h3 v hv
    exact ⟨e,List.mem_append_left _ a,b⟩
   ·obtain ⟨e,a,b⟩:=k3 v hv
    exact ⟨e,List.mem_append_right _ a,b⟩
  ·cases ho:(f r1).2 with
   | none=>rw [ho] at k4; exact k4
   | some q =>
    rw [ho] at k4
    rcases k4 with k4 | k4
    ·exact .inl k4
    ·exact .inr (List.mem_append_right _ k4)
theorem visit_cov {p:Int} {r:Rst} {e:D.Env} (hi:InsOk r) (h:Gm M e r.st):Cov M r (visit p r) [.point p e] (some e):=by
 unfold visit
 split
 ·exact ⟨hi,⟨[],by simp,fun v hv=>by cases hv⟩,.inl rfl⟩
 ·exact ⟨hi,⟨[(p,r.st)],rfl,fun v hv=>by
   have:=List.mem_singleton.1 hv
   subst this
   exact ⟨e,by simp,h⟩⟩,⟨e,rfl,h⟩⟩
theorem cov_go {r r1:Rst} {s:D.St} {es:List (Tel D.V)} (hv:r1.vis=r.vis) (hi:InsOk r1) (h:inS M s r1.st):Cov M r (r1,none) es s :=
 ⟨hi,⟨[],by simp [hv],fun v hv=>by cases hv⟩,h⟩
theorem cov_stop {r:Rst} {s:D.St} {es:List (Tel D.V)} {q:Int} (hi:InsOk r) (h:.site q true ∈ es):Cov M r (r,some q) es s :=
 ⟨hi,⟨[],by simp,fun v hv=>by cases hv⟩,.inr h⟩
theorem cov_spent {r:Rst} {s:D.St} {es:List (Tel D.V)} (hi:InsOk r):Cov M r (r,some (-2)) es s :=
 ⟨hi,⟨[],by simp,fun v hv=>by cases hv⟩,.inl rfl⟩
def StOk (M:Snd D) (K:Rk D) (f:Rst→Out) (g:D.Env→Res D):Prop:=∀ r e,InsOk r→(∀ k,K.wf (e k))→Gm M e r.st→Cov M r (f r) (g e).1 (g e).2
def BodyOk (M:Snd D) (K:Rk D) (f:Rst→Out) (g:BodyF D):Prop:=∀ r e,InsOk r→(∀ k,K.wf (e k))→Gm M e r.st→Cov M r (f r) (g (some e)).1 (g (some e)).2
theorem assign_ok (K:Rk D) {k:Nat} {x:Sm} (hx:OkS x) (ct:Ct):StOk M K (doAssign k (eS x ct)) (stAssign D k x ct):=by
 intro r e hi we h
 have ih:=anS_sound (M:=M) x hx ct e r.st h
 unfold doAssign stAssign
 cases h1:eS x ct r.st with
 | error q=>rw [h1] at ih; exact cov_stop hi ih
 | ok n =>
  rw [h1] at ih
  obtain ⟨n16,v,hv,hm⟩:=ih
  exact cov_go rfl hi ⟨setV D e k v,by rw [hv]; rfl,h.set k hm n16⟩
theorem read_ok (K:Rk D) (k:Nat):StOk M K (doRead k) (stRead D k):=by
 intro r e hi we h
 unfold doRead stRead
 split
 ·exact cov_go rfl hi ⟨_,rfl,h.set k (M.whole 0 (by unfold I16; omega)) (by unfold I16; omega)⟩
 ·next n rest hr =>
  have hn:I16 n:=hi n (by rw [hr]; simp)
  refine cov_go rfl (fun m hm=>hi m (by rw [hr]; exact List.mem_cons_of_mem _ hm)) ⟨_,rfl,h.set k (M.whole n hn) hn⟩
theorem assert_ok (K:Rk D) {site:Int} {k:Nat} {x y:Sm} (hx:OkS x) (hy:OkS y) (ct:Ct):StOk M K (doAssert site (eC k x y ct)) (stAssert D site k x y ct):=by
 intro r e hi we h
 have ih:=anC_sound (M:=M) (k:=k) hx hy ct e r.st h
 unfold doAssert stAssert
 cases h1:eC k x y ct r.st with
 | error q=>rw [h1] at ih; exact cov_stop hi (List.mem_append_left _ ih)
 | ok b =>
  rw [h1] at ih
  cases b with
  | true=>exact cov_go rfl hi ih
  | false =>
   obtain ⟨s,hs,_⟩:=ih
   exact cov_stop hi (by rw [hs]; simp)
theorem if_ok (K:Rk D) {c:List Int→Except Int Bool} {cond:CondF D} {f g:Rst→Out} {fa ga:BodyF D} (hc:CondOk M c cond) (wc:CondWf K cond) (hf:BodyOk M K f fa) (hg:BodyOk M K g ga):StOk M K (doIf c f g) (stIf D cond fa ga):=by
 intro r e hi we h
 have ih:=hc e r.st h
 unfold doIf stIf
 cases h1:c r.st with
 | error q=>rw [h1] at ih; exact cov_stop hi (List.mem_append_left _ (List.mem_append_left _ ih))
 | ok b =>
  rw [h1] at ih
  cases b with
  | true =>
   obtain ⟨s,hs,hm⟩:=ih
   rw [hs]
   exact (hf r s hi ((wc _ (Wf.some we)).1 _ hs) hm).mono (fun x hx=>List.mem_append_left _ (List.mem_append_right _ hx)) (fun st hst=>inS_l hst)
  | false =>
   obtain ⟨s,hs,hm⟩:=ih
   rw [hs]
   exact (hg r s hi ((wc _ (Wf.some we)).2 _ hs) hm).mono (fun x hx=>List.mem_append_right _ hx) (fun st hst=>inS_r hst)
inductive Rch (M:Snd D) (c:List Int→Except Int Bool) (body:Rst→Out) (e:D.Env):List Int→Prop
 | base {st:List Int}:Gm M e st→Rch M c body e st
 | step {r:Rst}:Rch M c body e r.st→InsOk r→c r.st=.ok true→(body r).2=none→Rch M c body e (body r).1.st
section
variable {K : Rk D} {P : Pol} {c : List Int → Except Int Bool} {cond : CondF D} {f : Rst → Out} {g : BodyF D} (hc : CondOk M c cond) (wc : CondWf K cond) (hb : BodyOk M K f g) (wb : BodyWf K g)
include hc wc hb
theorem round_in {s i:D.St} (wi:Wf K i) {r:Rst} (h:inS M i r.st) (hi:InsOk r) (ht:c r.st=.ok true) (hn:(f r).2=none):inS M (nxtV D cond g s i) (f r).1.st:=by
 obtain ⟨e,rfl,h⟩:=h
 have h1:=hc e r.st h
 rw [ht] at h1
 obtain ⟨s',hs',hm⟩:=h1
 obtain ⟨_,_,h4⟩:=hb r s' hi ((wc _ wi).1 _ hs') hm
 rw [hn] at h4
 unfold nxtV
 rw [hs']
 exact inS_r h4
theorem nxt_in {e:D.Env} {i:D.St} (wi:Wf K i) (h:∀ st,Rch M c f e st→inS M i st):∀ st,Rch M c f e st→inS M (nxtV D cond g (some e) i) st:=by
 intro st hr
 cases hr with
 | base h0=>exact inS_l ⟨e,rfl,h0⟩
 | step h1 h2 h3 h4=>exact round_in hc wc hb wi (h _ h1) h2 h3 h4
theorem fix_in {e:D.Env} {i:D.St} (wi:Wf K i) (hfix:jn D i (nxtV D cond g (some e) i)=i):∀ st,Rch M c f e st→inS M i st:=by
 intro st hr
 induction hr with
 | base h0=>rw [← hfix]; exact inS_r (inS_l ⟨e,rfl,h0⟩)
 | step h1 h2 h3 h4 ih=>rw [← hfix]; exact inS_r (round_in hc wc hb wi ih h2 h3 h4)
include wb
theorem nar_in {e:D.Env} (we:∀ k,K.wf (e k)):∀ (n:Nat) (i:D.St),Wf K i→subS K (some e) i→(∀ st,Rch M c f e st→inS M i st)→∀ st,Rch M c f e st→inS M (narF D (nxtV D cond g (some e)) n i) st
 | 0,_,_,_,h=>h
 | n + 1,_,wi,hsub,h=>nar_in we n _ (narrow_wf we wi (nxt_wf wc wb (Wf.some we) wi) hsub (subS_l _ _)).1 (narrow_wf we wi (nxt_wf wc wb (Wf.some we) wi) hsub (subS_l _ _)).2 (fun st hr=>inS_narrow (h st hr) (nxt_in hc wc hb wi h st hr))
theorem all_in {e:D.Env} (he:∀ k,K.wf (e k)):∀ st,Rch M c f e st→inS M (allV D P cond g (some e)) st:=by
 have hn:∀ i,Wf K i→Wf K (nxtV D cond g (some e) i):=fun i hi=>nxt_wf wc wb (Wf.some he) hi
 obtain ⟨i,h1,h2⟩:=fixF_fix (K:=K) (next:=nxtV D cond g (some e)) hn P.delay D.fuel 1 e he (by have:=K.fuel; omega)
 have wi:=fixF_wf hn P.delay D.fuel 1 (some e) (Wf.some he)
 unfold allV
 rw [h1] at wi ⊢
 refine nar_in hc wc hb wb he _ _ wi (fix_sub h2) ?_
 exact fix_in hc wc hb wi h2
omit wb
theorem loop_cov (p:Int) {e i:D.Env} (wi:∀ k,K.wf (i k)) (hin:∀ st,Rch M c f e st→Gm M i st) {es:List (Tel D.V)} (h1:.point p i ∈ es) (h2:∀ x ∈ (cond (some i)).1,x ∈ es) (h3:∀ x ∈ (g (cond (some i)).2.1).1,x ∈ es) :
  ∀ (n:Nat) (r:Rst),InsOk r→Rch M c f e r.st→Cov M r (loopF c f p n r) es (cond (some i)).2.2
 | 0,r,hi,_=>cov_spent hi
 | n + 1,r,hi,hr=>by
  have k1:=hc i r.st (hin _ hr)
  unfold loopF
  cases hcr:c r.st with
  | error q=>rw [hcr] at k1; exact cov_stop hi (h2 _ k1)
  | ok b =>
   rw [hcr] at k1
   cases b with
   | false=>exact cov_go rfl hi k1
   | true =>
    obtain ⟨s',hs',hm⟩:=k1
    have hbody:=hb r s' hi ((wc _ (Wf.some wi)).1 _ hs') hm
    have h3':=h3
    rw [hs'] at h3'
    have hb':Cov M r (f r) es (g (some s')).2:=hbody.mono h3' (fun _ h=>h)
    have hreach:∀ r1,f r=(r1,none)→Rch M c f e r1.st:=fun r1 hfr=>by
     have:=Rch.step (M:=M) (c:=c) (body:=f) (e:=e) hr hi hcr (by rw [hfr])
     rwa [hfr] at this
    have hv:Cov M r (andThen (f r) (visit p)) (es ++ [.point p i]) (some i):=hb'.andThen (fun r1 hfr hi1 _=>visit_cov hi1 (hin _ (hreach r1 hfr)))
    have hst:∀ r2,andThen (f r) (visit p)=(r2,none)→Rch M c f e r2.st:=fun r2 h=>by
     cases hfr:f r with
     | mk r1 oo =>
      rw [hfr] at h
      cases oo with
      | some q=>cases h
      | none =>
       have h:visit p r1=(r2,none):=h
       have e2:(visit p r1).1.st=r1.st:=by unfold visit; split <;> rfl
       rw [h] at e2
       have e2:r2.st=r1.st:=e2
       rw [e2]; exact hreach r1 hfr
    have hfin:=hv.andThen (f:=loopF c f p n) (es2:=es) (s2:=(cond (some i)).2.2) (fun r2 hfr hi2 _=>loop_cov p wi hin h1 h2 h3 n r2 hi2 (hst r2 hfr))
    refine hfin.mono (fun x hx=>?_) (fun _ h=>h)
    rcases List.mem_append.1 hx with hx | hx
    ·rcases List.mem_append.1 hx with hx | hx
     ·exact hx
     ·have:=List.mem_singleton.1 hx
      subst this
      exact h1
    ·exact hx
end
def anWF (D:Dom) (P:Pol) (cond:CondF D) (body:BodyF D) (p:Int) (u:Nat) (out s:D.St):Res D :=
 ((unrF D cond body p u out s).1 ++ telP D p (allV D P cond body (unrF D cond body p u out s).2.2) ++ (cond (allV D P cond body (unrF D cond body p u out s).2.2)).1 ++ (body (cond (allV D P cond body (unrF D cond body p u out s).2.2)).2.1).1,
   jn D (unrF D cond body p u out s).2.1 (cond (allV D P cond body (unrF D cond body p u out s).2.2)).2.2)
theorem anW_eq (P:Pol) (cond:CondF D) (body:BodyF D) (p:Int) (s:D.St):anW D P cond body p s=anWF D P cond body p P.unroll none s:=rfl
theorem anWF_succ (P:Pol) (cond:CondF D) (body:BodyF D) (p:Int) (u:Nat) (out s:D.St) :
  anWF D P cond body p (u + 1) out s=(telP D p s ++ ((cond s).1 ++ ((body (cond s).2.1).1 ++ (anWF D P cond body p u (jn D out (cond s).2.2) (body (cond s).2.1).2).1)),(anWF D P cond body p u (jn D out (cond s).2.2) (body (cond s).2.1).2).2):=by
 unfold anWF
 rw [show unrF D cond body p (u + 1) out s=(telP D p s ++ (cond s).1 ++ (body (cond s).2.1).1 ++ (unrF D cond body p u (jn D out (cond s).2.2) (body (cond s).2.1).2).1,(unrF D cond body p u (jn D out (cond s).2.2) (body (cond s).2.1).2).2) from rfl]
 simp only [List.append_assoc]
theorem out_in {P:Pol} {cond:CondF D} {body:BodyF D} {p:Int} {st:List Int}:∀ (u:Nat) (out s:D.St),inS M out st→inS M (anWF D P cond body p u out s).2 st
 | 0,_,_,h=>inS_l h
 | u + 1,out,s,h=>by rw [anWF_succ]; exact out_in u _ _ (inS_l h)
theorem andThen_assoc (o:Out) (f g:Rst→Out):andThen (andThen o f) g=andThen o (fun r=>andThen (f r) g):=by
 obtain ⟨r,oo⟩:=o
 cases oo <;> rfl
section
variable {K : Rk D} {P : Pol} {c : List Int → Except Int Bool} {cond : CondF D} {f : Rst → Out} {g : BodyF D} (hc : CondOk M c cond) (wc : CondWf K cond) (hb : BodyOk M K f g) (wb : BodyWf K g)
include hc wc hb wb
theorem unr_cov (p:Int):∀ (u:Nat) (out:D.St) (e:D.Env) (_:∀ k,K.wf (e k)) (n:Nat) (r:Rst),InsOk r→Gm M e r.st→Cov M r (andThen (visit p r) (loopF c f p n)) (anWF D P cond g p u out (some e)).1 (anWF D P cond g p u out (some e)).2
 | 0,out,e,we,n,r,hi,h=>by
  have hall:=all_in (P:=P) hc wc hb wb we
  obtain ⟨i,hie,hig⟩:=hall r.st (.base h)
  have wi:∀ k,K.wf (i k):=(allV_some (P:=P) wc wb we).1 _ hie
  have hin:∀ st,Rch M c f e st→Gm M i st:=fun st hst=>by
   obtain ⟨i',h1,h2⟩:=hall st hst
   rw [hie] at h1
   cases h1; exact h2
  have ev:(anWF D P cond g p 0 out (some e)).1=[.point p i] ++ ((cond (some i)).1 ++ (g (cond (some i)).2.1).1):=by
   show [] ++ telP D p (allV D P cond g (some e)) ++ (cond (allV D P cond g (some e))).1 ++ (g (cond (allV D P cond g (some e))).2.1).1=_
   rw [hie]; simp [telP]
  have es:(anWF D P cond g p 0 out (some e)).2=jn D out (cond (some i)).2.2:=by
   show jn D out (cond (allV D P cond g (some e))).2.2=_
   rw [hie]
  rw [ev,es]
  have hv:=visit_cov (p:=p) hi hig
  have hst:∀ r1,visit p r=(r1,none)→r1.st=r.st:=fun r1 h1=>by
   have e2:(visit p r).1.st=r.st:=by unfold visit; split <;> rfl
   rw [h1] at e2; exact e2
  have hfin:=hv.andThen (f:=loopF c f p n) (fun r1 hr1 hi1 _=>loop_cov hc wc hb p wi hin (es:=[.point p i] ++ ((cond (some i)).1 ++ (g (cond (some i)).2.1).1)) (by simp) (fun x hx=>by simp [hx]) (fun x hx=>by simp [hx]) n r1 hi1 (.base (by rw [hst r1 hr1]; exact h)))
  refine hfin.mono (fun x hx=>?_) (fun st hst=>inS_r hst)
  rcases List.mem_append.1 hx with hx | hx
  ·exact List.mem_append_left _ hx
  ·exact hx
 | u + 1,out,e,we,n,r,hi,h=>by
  rw [anWF_succ]
  refine Cov.andThen (visit_cov (p:=p) hi h) (fun r1 hr1 hi1 hs1=>?_)
  obtain ⟨e',he',h1⟩:=hs1
  cases he'
  have k1:=hc e r1.st h1
  cases n with
  | zero=>exact cov_spent hi1
  | succ n =>
   unfold loopF
   cases hcr:c r1.st with
   | error q=>rw [hcr] at k1; exact cov_stop hi1 (List.mem_append_left _ k1)
   | ok b =>
    rw [hcr] at k1
    cases b with
    | false=>exact cov_go rfl hi1 (out_in u _ _ (inS_r k1))
    | true =>
     obtain ⟨s',hs',hm⟩:=k1
     have ws':=(wc _ (Wf.some we)).1 _ hs'
     have hbody:=hb r1 s' hi1 ws' hm
     simp only
     rw [andThen_assoc,hs']
     have:=hbody.andThen (f:=fun r=>andThen (visit p r) (loopF c f p n)) (es2:=(anWF D P cond g p u (jn D out (cond (some e)).2.2) (g (some s')).2).1) (s2:=(anWF D P cond g p u (jn D out (cond (some e)).2.2) (g (some s')).2).2) (fun r2 hr2 hi2 hs2=>by
      obtain ⟨e2,he2,h2⟩:=hs2
      rw [he2]
      exact unr_cov p u _ e2 (wb _ (Wf.some ws') _ he2) n r2 hi2 h2)
     exact this.mono (fun x hx=>List.mem_append_right _ hx) (fun _ h=>h)
theorem while_cov (p:Int) (e:D.Env) (we:∀ k,K.wf (e k)) (r:Rst) (hi:InsOk r) (h:Gm M e r.st):Cov M r (andThen (visit p r) (doWhile c f p)) (anW D P cond g p (some e)).1 (anW D P cond g p (some e)).2:=by
 rw [anW_eq]
 have e1:andThen (visit p r) (doWhile c f p)=andThen (visit p r) (loopF c f p ((visit p r).1.fuel + 1)):=by
  cases hv:visit p r with
  | mk r1 oo=>cases oo <;> rfl
 rw [e1]
 exact unr_cov hc wc hb wb p _ _ e we _ r hi h
end
def dB (t:Bl) (ct:Ct):Rst→Out:=steps (number (show List (Ct→(Rst→Out) × Ct) from foldB Rn t) ct).1
theorem cB_eq:∀ (t:Bl) (ct:Ct),(number (show List (Ct→(Rst→Out) × Ct) from foldB Rn t) ct).2=cB t ct
 | .nil,_=>rfl
 | .assign k x t,ct=>by
  show (number (foldB Rn t) ((show Ct→Ev × Ct from foldS Rn x) (ptUp ct)).2).2=cB t (cS x (ptUp ct))
  rw [cS_eq]; exact cB_eq t _
 | .read k t,ct=>cB_eq t _
 | .assert k x y t,ct=>by
  show (number (foldB Rn t) ((show Ct→Ev × Ct from foldS Rn y) ((show Ct→Ev × Ct from foldS Rn x) (siteUp (ptUp ct))).2).2).2=cB t (cS y (cS x (siteUp (ptUp ct))))
  rw [cS_eq,cS_eq]; exact cB_eq t _
 | .ite k x y xs true ys t,ct=>by
  show (number (foldB Rn t) (number (foldB Rn ys) (number (foldB Rn xs) ((show Ct→Ev × Ct from foldS Rn y) ((show Ct→Ev × Ct from foldS Rn x) (ptUp ct)).2).2).2).2).2=cB t (cB ys (cB xs (cS y (cS x (ptUp ct)))))
  rw [cS_eq,cS_eq]
  rw [show (number (foldB Rn xs) (cS y (cS x (ptUp ct)))).2=cB xs (cS y (cS x (ptUp ct))) from cB_eq xs _,show (number (foldB Rn ys) (cB xs (cS y (cS x (ptUp ct))))).2=_ from cB_eq ys _]
  exact cB_eq t _
 | .ite k x y xs false ys t,ct=>by
  show (number (foldB Rn t) (number (foldB Rn xs) ((show Ct→Ev × Ct from foldS Rn y) ((show Ct→Ev × Ct from foldS Rn x) (ptUp ct)).2).2).2).2=cB t (cB xs (cS y (cS x (ptUp ct))))
  rw [cS_eq,cS_eq]
  rw [show (number (foldB Rn xs) (cS y (cS x (ptUp ct)))).2=cB xs (cS y (cS x (ptUp ct))) from cB_eq xs _]
  exact cB_eq t _
 | .loop k x y xs t,ct=>by
  show (number (foldB Rn t) (number (foldB Rn xs) ((show Ct→Ev × Ct from foldS Rn y) ((show Ct→Ev × Ct from foldS Rn x) (ptUp ct)).2).2).2).2=cB t (cB xs (cS y (cS x (ptUp ct))))
  rw [cS_eq,cS_eq]
  rw [show (number (foldB Rn xs) (cS y (cS x (ptUp ct)))).2=cB xs (cS y (cS x (ptUp ct))) from cB_eq xs _]
  exact cB_eq t _
theorem dB_assign (k:Nat) (x:Sm) (t:Bl) (ct:Ct) (r:Rst):dB (.assign k x t) ct r=andThen (andThen (visit ct.1 r) (doAssign k (eS x (ptUp ct)))) (dB t (cS x (ptUp ct))):=by
 rw [← cS_eq]; rfl
theorem dB_read (k:Nat) (t:Bl) (ct:Ct) (r:Rst):dB (.read k t) ct r=andThen (andThen (visit ct.1 r) (doRead k)) (dB t (ptUp ct)):=rfl
theorem dB_assert (k:Nat) (x y:Sm) (t:Bl) (ct:Ct) (r:Rst):dB (.assert k x y t) ct r=andThen (andThen (visit ct.1 r) (doAssert ct.2 (eC k x y (siteUp (ptUp ct))))) (dB t (cS y (cS x (siteUp (ptUp ct))))):=by
 unfold eC
 rw [← cS_eq x,← cS_eq y]; rfl
theorem dB_else (k:Nat) (x y:Sm) (xs ys t:Bl) (ct:Ct) (r:Rst):dB (.ite k x y xs true ys t) ct r=andThen (andThen (visit ct.1 r) (doIf (eC k x y (ptUp ct)) (dB xs (cS y (cS x (ptUp ct)))) (dB ys (cB xs (cS y (cS x (ptUp ct))))))) (dB t (cB ys (cB xs (cS y (cS x (ptUp ct)))))):=by
 unfold eC
 rw [← cS_eq x,← cS_eq y,← cB_eq xs,← cB_eq ys]; rfl
theorem dB_if (k:Nat) (x y:Sm) (xs ys t:Bl) (ct:Ct) (r:Rst):dB (.ite k x y xs false ys t) ct r=andThen (andThen (visit ct.1 r) (doIf (eC k x y (ptUp ct)) (dB xs (cS y (cS x (ptUp ct)))) (fun r=>(r,none)))) (dB t (cB xs (cS y (cS x (ptUp ct))))):=by
 unfold eC
 rw [← cS_eq x,← cS_eq y,← cB_eq xs]; rfl
theorem dB_loop (k:Nat) (x y:Sm) (xs t:Bl) (ct:Ct) (r:Rst):dB (.loop k x y xs t) ct r=andThen (andThen (visit ct.1 r) (doWhile (eC k x y (ptUp ct)) (dB xs (cS y (cS x (ptUp ct)))) ct.1)) (dB t (cB xs (cS y (cS x (ptUp ct))))):=by
 unfold eC
 rw [← cS_eq x,← cS_eq y,← cB_eq xs]; rfl
theorem then_cov {K:Rk D} {p:Int} {f:Rst→Out} {F:D.Env→Res D} {h:Rst→Out} {H:BodyF D} (hf:StOk M K f F) (wF:∀ e,(∀ k,K.wf (e k))→Wf K (F e).2) (hh:BodyOk M K h H) (r:Rst) (e:D.Env) (hi:InsOk r) (we:∀ k,K.wf (e k)) (hm:Gm M e r.st) :
  Cov M r (andThen (andThen (visit p r) f) h) (thenR D (stP D p F (some e)) H).1 (thenR D (stP D p F (some e)) H).2:=by
 have h1:Cov M r (andThen (visit p r) f) ([.point p e] ++ (F e).1) (F e).2:=(visit_cov hi hm).andThen (fun r1 _ hi1 hs1=>by
  obtain ⟨e',he',h1⟩:=hs1
  cases he'
  exact hf r1 e hi1 we h1)
 show Cov M r _ (([.point p e] ++ (F e).1) ++ (H (F e).2).1) (H (F e).2).2
 refine h1.andThen (fun r1 _ hi1 hs1=>?_)
 obtain ⟨e1,he1,hm1⟩:=hs1
 rw [he1]
 exact hh r1 e1 hi1 (wF e we _ he1) hm1
theorem anB_sound (K:Rk D) (P:Pol):∀ (t:Bl) (_:OkB t) (ct:Ct),BodyOk M K (dB t ct) (anB D P t ct)
 | .nil,_,ct=>fun r e hi we hm=>cov_go rfl hi ⟨e,rfl,hm⟩
 | .assign k x t,hn,ct=>fun r e hi we hm=>by
  have ox:OkS x:=fun n h=>hn n (by simp [nuB,h])
  rw [dB_assign]
  refine then_cov (assign_ok K ox _) (fun e we=>?_) (anB_sound K P t (fun n h=>hn n (by simp [nuB,h])) _) r e hi we hm
  intro e' h'
  cases hv:(anS D x (ptUp ct) e).2 with
  | none=>simp [stAssign,hv] at h'
  | some v =>
   simp [stAssign,hv] at h'
   subst h'
   exact wf_set we k (anS_wf x ox _ e we v hv)
 | .read k t,hn,ct=>fun r e hi we hm=>by
  rw [dB_read]
  exact then_cov (read_ok K k) (fun e we=>Wf.some (wf_set we k K.wwhole)) (anB_sound K P t (fun n h=>hn n (by simp [nuB,h])) _) r e hi we hm
 | .assert k x y t,hn,ct=>fun r e hi we hm=>by
  have ox:OkS x:=fun n h=>hn n (by simp [nuB,h])
  have oy:OkS y:=fun n h=>hn n (by simp [nuB,h])
  rw [dB_assert]
  exact then_cov (assert_ok K ox oy _) (fun e we=>(anC_wf ox oy (Wf.some we)).1) (anB_sound K P t (fun n h=>hn n (by simp [nuB,h])) _) r e hi we hm
 | .ite k x y xs true ys t,hn,ct=>fun r e hi we hm=>by
  have ox:OkS x:=fun n h=>hn n (by simp [nuB,h])
  have oy:OkS y:=fun n h=>hn n (by simp [nuB,h])
  have oxs:OkB xs:=fun n h=>hn n (by simp [nuB,h])
  have oys:OkB ys:=fun n h=>hn n (by simp [nuB,h])
  rw [dB_else]
  refine then_cov (if_ok K (anC_sound ox oy _) (fun s hs=>anC_wf ox oy hs) (anB_sound K P xs oxs _) (anB_sound K P ys oys _)) (fun e we=>?_) (anB_sound K P t (fun n h=>hn n (by simp [nuB,h])) _) r e hi we hm
  have hc:=anC_wf (k:=k) (ct:=ptUp ct) ox oy (Wf.some we)
  exact wf_jn (anB_wf P xs oxs _ _ hc.1) (anB_wf P ys oys _ _ hc.2)
 | .ite k x y xs false ys t,hn,ct=>fun r e hi we hm=>by
  have ox:OkS x:=fun n h=>hn n (by simp [nuB,h])
  have oy:OkS y:=fun n h=>hn n (by simp [nuB,h])
  have oxs:OkB xs:=fun n h=>hn n (by simp [nuB,h])
  rw [dB_if]
  refine then_cov (if_ok K (anC_sound ox oy _) (fun s hs=>anC_wf ox oy hs) (anB_sound K P xs oxs _) (fun r e hi we hm=>cov_go rfl hi ⟨e,rfl,hm⟩)) (fun e we=>?_) (anB_sound K P t (fun n h=>hn n (by simp [nuB,h])) _) r e hi we hm
  have hc:=anC_wf (k:=k) (ct:=ptUp ct) ox oy (Wf.some we)
  exact wf_jn (anB_wf P xs oxs _ _ hc.1) hc.2
 | .loop k x y xs t,hn,ct=>fun r e hi we hm=>by
  have ox:OkS x:=fun n h=>hn n (by simp [nuB,h])
  have oy:OkS y:=fun n h=>hn n (by simp [nuB,h])
  have oxs:OkB xs:=fun n h=>hn n (by simp [nuB,h])
  have wc:CondWf K (anC D k x y (ptUp ct)):=fun s hs=>anC_wf ox oy hs
  have wb:BodyWf K (anB D P xs (cS y (cS x (ptUp ct)))):=fun s hs=>anB_wf P xs oxs _ s hs
  rw [dB_loop]
  have h1:=while_cov (P:=P) (anC_sound (M:=M) (k:=k) ox oy (ptUp ct)) wc (anB_sound K P xs oxs (cS y (cS x (ptUp ct)))) wb ct.1 e we r hi hm
  refine (h1.andThen (f:=dB t (cB xs (cS y (cS x (ptUp ct))))) (es2:=(anB D P t (cB xs (cS y (cS x (ptUp ct)))) (anW D P (anC D k x y (ptUp ct)) (anB D P xs (cS y (cS x (ptUp ct)))) ct.1 (some e)).2).1) (s2:=(anB D P t (cB xs (cS y (cS x (ptUp ct)))) (anW D P (anC D k x y (ptUp ct)) (anB D P xs (cS y (cS x (ptUp ct)))) ct.1 (some e)).2).2) (fun r1 _ hi1 hs1=>?_)).mono (fun z hz=>?_) (fun _ h=>h)
  ·obtain ⟨e1,he1,hm1⟩:=hs1
   rw [he1]
   exact anB_sound K P t (fun n h=>hn n (by simp [nuB,h])) _ r1 e1 hi1 (anW_wf wc wb rfl (anB_none P xs _) ct.1 (Wf.some we) _ he1) hm1
  ·show z ∈ (.point ct.1 e :: (anW D P (anC D k x y (ptUp ct)) (anB D P xs (cS y (cS x (ptUp ct)))) ct.1 (some e)).1) ++ _
   rcases List.mem_append.1 hz with hz | hz
   ·exact List.mem_append_left _ (List.mem_cons_of_mem _ hz)
   ·exact List.mem_append_right _ hz
end
end Sp
end Go.Proofs.YtiopfihjmkfdmaaGreatDoor
namespace Go.Proofs.YtiopfihjmkfdmaaGreatDoor
namespace Sp
def NoLoop:Bl→Prop
 | .nil=>True
 | .assign _ _ t=>NoLoop t
 | .read _ t=>NoLoop t
 | .assert _ _ _ t=>NoLoop t
 | .ite _ _ _ xs _ ys t=>NoLoop xs∧NoLoop ys∧NoLoop t
 | .loop _ _ _ _ _=>False
end Sp
end Go.Proofs.YtiopfihjmkfdmaaGreatDoor
