import Derived.Test.YtiopfihjmkfdmaaGreatDoorV7
namespace Go.Proofs.YtiopfihjmkfdmaaGreatDoor
namespace Sp
theorem report_len (D:Dom) (P:Pol) (t:Bl) (h:Small (0,0) (pB t) (qB t)):(reportOf D P t).1.length=pB t + 1∧(reportOf D P t).2.length=qB t:=by
 rw [reportOf_eq,(tell_len _ _).1,(tell_len _ _).2,cB_sm t (0,0) h]
 simp
end Sp
end Go.Proofs.YtiopfihjmkfdmaaGreatDoor
namespace Go.Proofs.YtiopfihjmkfdmaaGreatDoor
namespace Sp
section
variable (D : Dom) (P : Pol)
def LoopsB (T:Int→D.St→Res D):Bl→Ct→Prop
 | .nil,_=>True
 | .assign _ x t,ct=>LoopsB T t (cS x (ptUp ct))
 | .read _ t,ct=>LoopsB T t (ptUp ct)
 | .assert _ x y t,ct=>LoopsB T t (cS y (cS x (siteUp (ptUp ct))))
 | .ite _ x y xs true ys t,ct=>LoopsB T xs (cS y (cS x (ptUp ct)))∧LoopsB T ys (cB xs (cS y (cS x (ptUp ct))))∧LoopsB T t (cB ys (cB xs (cS y (cS x (ptUp ct)))))
 | .ite _ x y xs false _ t,ct=>LoopsB T xs (cS y (cS x (ptUp ct)))∧LoopsB T t (cB xs (cS y (cS x (ptUp ct))))
 | .loop k x y xs t,ct=>((0≤ct.1∧ct.1≤1000000)∧∀ s,T ct.1 s=anW D P (anC D k x y (ptUp ct)) (anB D P xs (cS y (cS x (ptUp ct)))) ct.1 s)∧LoopsB T xs (cS y (cS x (ptUp ct)))∧LoopsB T t (cB xs (cS y (cS x (ptUp ct))))
def tabB:Bl→Ct→Int→D.St→Res D
 | .nil,_,_,s=>([],s)
 | .assign _ x t,ct,p,s=>tabB t (cS x (ptUp ct)) p s
 | .read _ t,ct,p,s=>tabB t (ptUp ct) p s
 | .assert _ x y t,ct,p,s=>tabB t (cS y (cS x (siteUp (ptUp ct)))) p s
 | .ite _ x y xs true ys t,ct,p,s=>if p<(cB xs (cS y (cS x (ptUp ct)))).1 then tabB xs (cS y (cS x (ptUp ct))) p s else if p<(cB ys (cB xs (cS y (cS x (ptUp ct))))).1 then tabB ys (cB xs (cS y (cS x (ptUp ct)))) p s else tabB t (cB ys (cB xs (cS y (cS x (ptUp ct))))) p s
 | .ite _ x y xs false _ t,ct,p,s=>if p<(cB xs (cS y (cS x (ptUp ct)))).1 then tabB xs (cS y (cS x (ptUp ct))) p s else tabB t (cB xs (cS y (cS x (ptUp ct)))) p s
 | .loop k x y xs t,ct,p,s=>if p=ct.1 then anW D P (anC D k x y (ptUp ct)) (anB D P xs (cS y (cS x (ptUp ct)))) ct.1 s else if p<(cB xs (cS y (cS x (ptUp ct)))).1 then tabB xs (cS y (cS x (ptUp ct))) p s else tabB t (cB xs (cS y (cS x (ptUp ct)))) p s
theorem tab_loops (T:Int→D.St→Res D):∀ (t:Bl) (ct:Ct),Small ct (pB t) (qB t)→(∀ p s,ct.1≤p→p<ct.1 + pB t→T p s=tabB D P t ct p s)→LoopsB D P T t ct
 | .nil,_,_,_=>trivial
 | .assign k x t,ct,⟨h1,h2,h3,h4⟩,h=>by
  simp only [pB,qB] at h3 h4 h
  have e0:=ptUp_eq h1 (by omega)
  have ec:cS x (ptUp ct)=(ct.1 + 1,ct.2 + nS x):=by rw [e0,cS_sm x _ (by simp; omega) (by simp; omega)]
  show LoopsB D P T t (cS x (ptUp ct))
  simp only [tabB,ec] at h
  rw [ec]
  exact tab_loops T t _ ⟨by simp; omega,by simp; omega,by simp; omega,by simp; omega⟩ (fun p s h5 h6=>h p s (by simp at h5; omega) (by simp at h6; omega))
 | .read k t,ct,⟨h1,h2,h3,h4⟩,h=>by
  simp only [pB,qB] at h3 h4 h
  have e0:=ptUp_eq h1 (by omega)
  show LoopsB D P T t (ptUp ct)
  simp only [tabB,e0] at h
  rw [e0]
  exact tab_loops T t _ ⟨by simp; omega,by simp; omega,by simp; omega,by simp; omega⟩ (fun p s h5 h6=>h p s (by simp at h5; omega) (by simp at h6; omega))
 | .assert k x y t,ct,⟨h1,h2,h3,h4⟩,h=>by
  simp only [pB,qB] at h3 h4 h
  have e0:siteUp (ptUp ct)=(ct.1 + 1,ct.2 + 1):=by rw [ptUp_eq h1 (by omega),siteUp_eq (by simp; omega) (by simp; omega)]
  have ec:cS y (cS x (siteUp (ptUp ct)))=(ct.1 + 1,ct.2 + 1 + nS x + nS y):=by
   rw [e0,cS_sm x _ (by simp; omega) (by simp; omega),cS_sm y _ (by simp; omega) (by simp; omega)]
  show LoopsB D P T t (cS y (cS x (siteUp (ptUp ct))))
  simp only [tabB,ec] at h
  rw [ec]
  exact tab_loops T t _ ⟨by simp; omega,by simp; omega,by simp; omega,by simp; omega⟩ (fun p s h5 h6=>h p s (by simp at h5; omega) (by simp at h6; omega))
 | .ite k x y xs true ys t,ct,⟨h1,h2,h3,h4⟩,h=>by
  simp only [pB,qB,if_true] at h3 h4 h
  have e0:=ptUp_eq h1 (by omega)
  have ec:cS y (cS x (ptUp ct))=(ct.1 + 1,ct.2 + nS x + nS y):=by
   rw [e0,cS_sm x _ (by simp; omega) (by simp; omega),cS_sm y _ (by simp; omega) (by simp; omega)]
  have ex:=cB_sm xs (ct.1 + 1,ct.2 + nS x + nS y) ⟨by simp; omega,by simp; omega,by simp; omega,by simp; omega⟩
  have ey:=cB_sm ys (ct.1 + 1 + pB xs,ct.2 + nS x + nS y + qB xs) ⟨by simp; omega,by simp; omega,by simp; omega,by simp; omega⟩
  show LoopsB D P T xs (cS y (cS x (ptUp ct)))∧LoopsB D P T ys (cB xs (cS y (cS x (ptUp ct))))∧LoopsB D P T t (cB ys (cB xs (cS y (cS x (ptUp ct)))))
  simp only [tabB,ec,ex,ey] at h
  rw [ec,ex,ey]
  refine ⟨tab_loops T xs _ ⟨by simp; omega,by simp; omega,by simp; omega,by simp; omega⟩ (fun p s h5 h6=>?_),tab_loops T ys _ ⟨by simp; omega,by simp; omega,by simp; omega,by simp; omega⟩ (fun p s h5 h6=>?_),tab_loops T t _ ⟨by simp; omega,by simp; omega,by simp; omega,by simp; omega⟩ (fun p s h5 h6=>?_)⟩
  all_goals
   simp at h5 h6
   have:=h p s (by omega) (by omega)
  ·rw [if_pos (by omega)] at this; exact this
  ·rw [if_neg (by omega),if_pos (by omega)] at this; exact this
  ·rw [if_neg (by omega),if_neg (by omega)] at this; exact this
 | .ite k x y xs false ys t,ct,⟨h1,h2,h3,h4⟩,h=>by
  simp only [pB,qB,Bool.false_eq_true,if_false] at h3 h4 h
  have e0:=ptUp_eq h1 (by omega)
  have ec:cS y (cS x (ptUp ct))=(ct.1 + 1,ct.2 + nS x + nS y):=by
   rw [e0,cS_sm x _ (by simp; omega) (by simp; omega),cS_sm y _ (by simp; omega) (by simp; omega)]
  have ex:=cB_sm xs (ct.1 + 1,ct.2 + nS x + nS y) ⟨by simp; omega,by simp; omega,by simp; omega,by simp; omega⟩
  show LoopsB D P T xs (cS y (cS x (ptUp ct)))∧LoopsB D P T t (cB xs (cS y (cS x (ptUp ct))))
  simp only [tabB,ec,ex] at h
  rw [ec,ex]
  refine ⟨tab_loops T xs _ ⟨by simp; omega,by simp; omega,by simp; omega,by simp; omega⟩ (fun p s h5 h6=>?_),tab_loops T t _ ⟨by simp; omega,by simp; omega,by simp; omega,by simp; omega⟩ (fun p s h5 h6=>?_)⟩
  all_goals
   simp at h5 h6
   have:=h p s (by omega) (by omega)
  ·rw [if_pos (by omega)] at this; exact this
  ·rw [if_neg (by omega)] at this; exact this
 | .loop k x y xs t,ct,⟨h1,h2,h3,h4⟩,h=>by
  simp only [pB,qB] at h3 h4 h
  have e0:=ptUp_eq h1 (by omega)
  have ec:cS y (cS x (ptUp ct))=(ct.1 + 1,ct.2 + nS x + nS y):=by
   rw [e0,cS_sm x _ (by simp; omega) (by simp; omega),cS_sm y _ (by simp; omega) (by simp; omega)]
  have ex:=cB_sm xs (ct.1 + 1,ct.2 + nS x + nS y) ⟨by simp; omega,by simp; omega,by simp; omega,by simp; omega⟩
  show ((0≤ct.1∧ct.1≤1000000)∧∀ s,T ct.1 s=anW D P (anC D k x y (ptUp ct)) (anB D P xs (cS y (cS x (ptUp ct)))) ct.1 s)∧LoopsB D P T xs (cS y (cS x (ptUp ct)))∧LoopsB D P T t (cB xs (cS y (cS x (ptUp ct))))
  refine ⟨⟨⟨h1,by omega⟩,fun s=>?_⟩,?_⟩
  ·rw [h ct.1 s (by omega) (by omega)]
   exact if_pos rfl
  ·simp only [tabB,ec,ex] at h
   rw [ec,ex]
   refine ⟨tab_loops T xs _ ⟨by simp; omega,by simp; omega,by simp; omega,by simp; omega⟩ (fun p s h5 h6=>?_),tab_loops T t _ ⟨by simp; omega,by simp; omega,by simp; omega,by simp; omega⟩ (fun p s h5 h6=>?_)⟩
   all_goals
    simp at h5 h6
    have:=h p s (by omega) (by omega)
   ·rw [if_neg (by omega),if_pos (by omega)] at this; exact this
   ·rw [if_neg (by omega),if_neg (by omega)] at this; exact this
end
end Sp
end Go.Proofs.YtiopfihjmkfdmaaGreatDoor
namespace Go.Proofs.YtiopfihjmkfdmaaGreatDoor
namespace Sp
theorem anS_b1 (D:Dom) (k:Nat) (x y:Sm) (ct:Ct) (s:D.Env) (es:List (Tel D.V)) (h:anS D x ct s=(es,none)):anS D (.bin k x y) ct s=(es,none):=by
 unfold anS
 rw [h]
theorem anS_b2 (D:Dom) (k:Nat) (x y:Sm) (ct:Ct) (s:D.Env) (es:List (Tel D.V)) (a:D.V) (es2:List (Tel D.V)) (h:anS D x ct s=(es,some a)) (h2:anS D y (if 3≤k then siteUp (cS x ct) else cS x ct) s=(es2,none)):anS D (.bin k x y) ct s=(es ++ es2,none):=by
 unfold anS
 rw [h]
 simp only
 rw [h2]
theorem anS_b3 (D:Dom) (k:Nat) (x y:Sm) (ct:Ct) (s:D.Env) (es:List (Tel D.V)) (a:D.V) (es2:List (Tel D.V)) (c:D.V) (h:anS D x ct s=(es,some a)) (h2:anS D y (if 3≤k then siteUp (cS x ct) else cS x ct) s=(es2,some c)) (h3:3≤k):anS D (.bin k x y) ct s=(es ++ es2 ++ [.site (cS x ct).2 (D.nought c)],D.work k a c):=by
 unfold anS
 rw [h]
 simp only
 rw [h2]
 simp only
 rw [if_pos h3]
theorem anS_b4 (D:Dom) (k:Nat) (x y:Sm) (ct:Ct) (s:D.Env) (es:List (Tel D.V)) (a:D.V) (es2:List (Tel D.V)) (c:D.V) (h:anS D x ct s=(es,some a)) (h2:anS D y (if 3≤k then siteUp (cS x ct) else cS x ct) s=(es2,some c)) (h3:¬ 3≤k):anS D (.bin k x y) ct s=(es ++ es2,D.work k a c):=by
 unfold anS
 rw [h]
 simp only
 rw [h2]
 simp only
 rw [if_neg h3,List.append_nil]
theorem bnd_none (D:Dom) (k r:Nat) (y:D.V) (e:D.Env) (h:D.bound r (getV D e k) y=none):bndV D (.name k) r y (some e)=none:=by
 unfold bndV
 simp only
 rw [h]
theorem bnd_some (D:Dom) (k r:Nat) (y:D.V) (e:D.Env) (v:D.V) (h:D.bound r (getV D e k) y=some v):bndV D (.name k) r y (some e)=some (setV D e k v):=by
 unfold bndV
 simp only
 rw [h]
theorem behind_none (D:Dom) (r:Nat) (x y:Sm) (a b:D.V) (e:D.Env) (h:D.may r a b=false):behindV D r x y a b e=none:=by
 unfold behindV
 rw [if_neg (by rw [h]; simp)]
theorem behind_some (D:Dom) (r:Nat) (x y:Sm) (a b:D.V) (e:D.Env) (h:D.may r a b=true):behindV D r x y a b e=bndV D y (mirror r) a (bndV D x r b (some e)):=by
 unfold behindV
 rw [if_pos h]
theorem anC_c1 (D:Dom) (k:Nat) (x y:Sm) (ct:Ct) (e:D.Env) (es:List (Tel D.V)) (h:anS D x ct e=(es,none)):anC D k x y ct (some e)=(es,none,none):=by
 unfold anC
 simp only
 rw [h]
theorem anC_c2 (D:Dom) (k:Nat) (x y:Sm) (ct:Ct) (e:D.Env) (es:List (Tel D.V)) (a:D.V) (es2:List (Tel D.V)) (h:anS D x ct e=(es,some a)) (h2:anS D y (cS x ct) e=(es2,none)):anC D k x y ct (some e)=(es ++ es2,none,none):=by
 unfold anC
 simp only
 rw [h]
 simp only
 rw [h2]
theorem anC_c3 (D:Dom) (k:Nat) (x y:Sm) (ct:Ct) (e:D.Env) (es:List (Tel D.V)) (a:D.V) (es2:List (Tel D.V)) (c:D.V) (h:anS D x ct e=(es,some a)) (h2:anS D y (cS x ct) e=(es2,some c)):anC D k x y ct (some e)=(es ++ es2,behindV D k x y a c e,behindV D (opp k) x y a c e):=by
 unfold anC
 simp only
 rw [h]
 simp only
 rw [h2]
end Sp
end Go.Proofs.YtiopfihjmkfdmaaGreatDoor
namespace Go.Proofs.YtiopfihjmkfdmaaGreatDoor
namespace Sp
section
variable {D : Dom} (K : Rk D)
structure Ab:Prop where
 keep:∀ x y,K.wf x→K.sub y x→D.join x y=x
def TelWf:Tel D.V→Prop
 | .point _ s=>∀ k,K.wf (s k)
 | .site _ _=>True
def TelsWf (es:List (Tel D.V)):Prop:=∀ ev ∈ es,TelWf K ev
variable {K}
theorem telsWf_nil:TelsWf K []:=fun _ h=>by cases h
theorem TelsWf.append {es es':List (Tel D.V)} (h:TelsWf K es) (h':TelsWf K es'):TelsWf K (es ++ es'):=fun ev hv=>(List.mem_append.1 hv).elim (h ev) (h' ev)
theorem TelsWf.left {es es':List (Tel D.V)} (h:TelsWf K (es ++ es')):TelsWf K es:=fun ev hv=>h ev (List.mem_append.2 (.inl hv))
theorem TelsWf.right {es es':List (Tel D.V)} (h:TelsWf K (es ++ es')):TelsWf K es':=fun ev hv=>h ev (List.mem_append.2 (.inr hv))
theorem telP_wf {p:Int} {s:D.St} (h:Wf K s):TelsWf K (telP D p s):=by
 cases s with
 | none=>exact telsWf_nil
 | some e=>intro ev hv; have:=List.mem_singleton.1 hv; subst this; exact h _ rfl
theorem anS_tw:∀ (x:Sm) (ct:Ct) (e:D.Env),TelsWf K (anS D x ct e).1
 | .num _,_,_=>telsWf_nil
 | .name _,_,_=>telsWf_nil
 | .neg x,ct,e=>anS_tw x ct e
 | .bin k x y,ct,e=>by
  have hx:=anS_tw x ct e
  have hy:=anS_tw y (if 3≤k then siteUp (cS x ct) else cS x ct) e
  unfold anS
  split
  ·next e1 k1=>rw [k1] at hx; exact hx
  ·next e1 a k1 =>
   rw [k1] at hx
   split
   ·next e2 k2=>rw [k2] at hy; exact hx.append hy
   ·next e2 b k2 =>
    rw [k2] at hy
    refine (hx.append hy).append ?_
    split
    ·intro ev hv
     have:=List.mem_singleton.1 hv
     subst this
     trivial
    ·exact telsWf_nil
theorem anC_tw (k:Nat) (x y:Sm) (ct:Ct) (s:D.St):TelsWf K (anC D k x y ct s).1:=by
 cases s with
 | none=>exact telsWf_nil
 | some e =>
  have hx:=anS_tw (K:=K) x ct e
  have hy:=anS_tw (K:=K) y (cS x ct) e
  unfold anC
  simp only
  split
  ·next e1 k1=>rw [k1] at hx; exact hx
  ·next e1 a k1 =>
   rw [k1] at hx
   split
   ·next e2 k2=>rw [k2] at hy; exact hx.append hy
   ·next e2 b k2=>rw [k2] at hy; exact hx.append hy
def CondTw (K:Rk D) (cond:CondF D):Prop:=∀ s,Wf K s→TelsWf K (cond s).1
def BodyTw (K:Rk D) (body:BodyF D):Prop:=∀ s,Wf K s→TelsWf K (body s).1
theorem unrF_tw {cond:CondF D} {body:BodyF D} (hc:CondWf K cond) (hb:BodyWf K body) (tc:CondTw K cond) (tb:BodyTw K body) (p:Int):∀ (n:Nat) (out s:D.St),Wf K s→TelsWf K (unrF D cond body p n out s).1
 | 0,_,_,_=>telsWf_nil
 | n + 1,_,s,h=>(((telP_wf h).append (tc s h)).append (tb _ (hc s h).1)).append (unrF_tw hc hb tc tb p n _ _ (hb _ (hc s h).1))
theorem anW_tw {P:Pol} {cond:CondF D} {body:BodyF D} (hc:CondWf K cond) (hb:BodyWf K body) (nc:CondNo cond) (nb:BodyNo body) (tc:CondTw K cond) (tb:BodyTw K body) (p:Int) {s:D.St} (hs:Wf K s):TelsWf K (anW D P cond body p s).1:=by
 have hu:=(unrF_wf hc hb p P.unroll none s wf_none hs).2
 have hi:=allV_wf (P:=P) hc hb nc nb hu
 exact (((unrF_tw hc hb tc tb p _ _ _ hs).append (telP_wf hi)).append (tc _ hi)).append (tb _ (hc _ hi).1)
theorem stP_tw {p:Int} {f:D.Env→Res D} (hw:∀ e,(∀ k,K.wf (e k))→Wf K (f e).2) (hf:∀ e,(∀ k,K.wf (e k))→TelsWf K (f e).1) {g:D.St→Res D} (hg:∀ s,Wf K s→TelsWf K (g s).1) {s:D.St} (hs:Wf K s):TelsWf K (thenR D (stP D p f s) g).1:=by
 refine TelsWf.append ?_ (hg _ (stP_wf hw hs))
 cases s with
 | none=>exact telsWf_nil
 | some e =>
  intro ev hv
  rcases List.mem_cons.1 hv with rfl | hv
  ·exact hs _ rfl
  ·exact hf e (hs _ rfl) ev hv
theorem assign_wf' {k:Nat} {x:Sm} (hx:OkS x) (ct:Ct) (e:D.Env) (he:∀ k,K.wf (e k)):Wf K (stAssign D k x ct e).2:=by
 unfold stAssign
 intro e' h'
 cases hv:(anS D x ct e).2 with
 | none=>rw [hv] at h'; cases h'
 | some v =>
  rw [hv] at h'
  cases h'
  exact wf_set he k (anS_wf x hx ct e he v hv)
theorem if_wf' {cond:CondF D} {f g:D.St→Res D} (hc:CondWf K cond) (hf:BodyWf K f) (hg:BodyWf K g) (e:D.Env) (he:∀ k,K.wf (e k)):Wf K (stIf D cond f g e).2 :=
 wf_jn (hf _ (hc _ (Wf.some he)).1) (hg _ (hc _ (Wf.some he)).2)
theorem if_tw {cond:CondF D} {f g:D.St→Res D} (hc:CondWf K cond) (tc:CondTw K cond) (tf:BodyTw K f) (tg:BodyTw K g) (e:D.Env) (he:∀ k,K.wf (e k)):TelsWf K (stIf D cond f g e).1 :=
 ((tc _ (Wf.some he)).append (tf _ (hc _ (Wf.some he)).1)).append (tg _ (hc _ (Wf.some he)).2)
theorem anB_tw (P:Pol):∀ (t:Bl) (_:OkB t) (ct:Ct) (s:D.St),Wf K s→TelsWf K (anB D P t ct s).1
 | .nil,_,_,_,_=>telsWf_nil
 | .assign k x t,hn,ct,s,hs=>by
  have hx:OkS x:=fun n h=>hn n (by simp [nuB,h])
  have ht:OkB t:=fun n h=>hn n (by simp [nuB,h])
  exact stP_tw (fun e he=>assign_wf' hx _ e he) (fun e _=>anS_tw x _ e) (fun s hs=>anB_tw P t ht _ s hs) hs
 | .read k t,hn,ct,s,hs=>by
  have ht:OkB t:=fun n h=>hn n (by simp [nuB,h])
  exact stP_tw (fun e he=>Wf.some (wf_set he k K.wwhole)) (fun e _=>telsWf_nil) (fun s hs=>anB_tw P t ht _ s hs) hs
 | .assert k x y t,hn,ct,s,hs=>by
  have hx:OkS x:=fun n h=>hn n (by simp [nuB,h])
  have hy:OkS y:=fun n h=>hn n (by simp [nuB,h])
  have ht:OkB t:=fun n h=>hn n (by simp [nuB,h])
  refine stP_tw (fun e he=>(anC_wf hx hy (Wf.some he)).1) (fun e _=>(anC_tw k x y _ _).append ?_) (fun s hs=>anB_tw P t ht _ s hs) hs
  intro ev hv
  have:=List.mem_singleton.1 hv
  subst this
  trivial
 | .ite k x y xs true ys t,hn,ct,s,hs=>by
  have hx:OkS x:=fun n h=>hn n (by simp [nuB,h])
  have hy:OkS y:=fun n h=>hn n (by simp [nuB,h])
  have h1:OkB xs:=fun n h=>hn n (by simp [nuB,h])
  have h2:OkB ys:=fun n h=>hn n (by simp [nuB,h])
  have ht:OkB t:=fun n h=>hn n (by simp [nuB,h])
  exact stP_tw (fun e he=>if_wf' (fun s hs=>anC_wf hx hy hs) (fun s hs=>anB_wf P xs h1 _ s hs) (fun s hs=>anB_wf P ys h2 _ s hs) e he)
   (fun e he=>if_tw (fun s hs=>anC_wf hx hy hs) (fun s _=>anC_tw k x y _ s) (fun s hs=>anB_tw P xs h1 _ s hs) (fun s hs=>anB_tw P ys h2 _ s hs) e he) (fun s hs=>anB_tw P t ht _ s hs) hs
 | .ite k x y xs false ys t,hn,ct,s,hs=>by
  have hx:OkS x:=fun n h=>hn n (by simp [nuB,h])
  have hy:OkS y:=fun n h=>hn n (by simp [nuB,h])
  have h1:OkB xs:=fun n h=>hn n (by simp [nuB,h])
  have ht:OkB t:=fun n h=>hn n (by simp [nuB,h])
  exact stP_tw (fun e he=>if_wf' (fun s hs=>anC_wf hx hy hs) (fun s hs=>anB_wf P xs h1 _ s hs) (fun s hs=>hs) e he)
   (fun e he=>if_tw (fun s hs=>anC_wf hx hy hs) (fun s _=>anC_tw k x y _ s) (fun s hs=>anB_tw P xs h1 _ s hs) (fun s _=>telsWf_nil) e he) (fun s hs=>anB_tw P t ht _ s hs) hs
 | .loop k x y xs t,hn,ct,s,hs=>by
  have hx:OkS x:=fun n h=>hn n (by simp [nuB,h])
  have hy:OkS y:=fun n h=>hn n (by simp [nuB,h])
  have h1:OkB xs:=fun n h=>hn n (by simp [nuB,h])
  have ht:OkB t:=fun n h=>hn n (by simp [nuB,h])
  exact stP_tw (fun e he=>anW_wf (fun s hs=>anC_wf hx hy hs) (fun s hs=>anB_wf P xs h1 _ s hs) rfl (anB_none P xs _) _ (Wf.some he))
   (fun e he=>anW_tw (fun s hs=>anC_wf hx hy hs) (fun s hs=>anB_wf P xs h1 _ s hs) rfl (anB_none P xs _) (fun s _=>anC_tw k x y _ s) (fun s hs=>anB_tw P xs h1 _ s hs) _ (Wf.some he)) (fun s hs=>anB_tw P t ht _ s hs) hs
variable (K)
def WfF (F:Found D):Prop:=∀ s ∈ F.1,Wf K s
def Told (F:Found D):Tel D.V→Prop
 | .point p s=>∀ f,F.1[p.toNat]?=some f→subS K (some s) f
 | .site q bad=>∀ n,F.2[q.toNat]?=some n→(if bad then 2 else 1)≤n
def ToldAll (F:Found D) (es:List (Tel D.V)):Prop:=∀ ev ∈ es,Told K F ev
variable {K}
theorem modify_get {α:Type} {l:List α} {p i:Nat} {f:α→α} {y:α} (h:(l.modify p f)[i]?=some y):∃ x,l[i]?=some x∧y=if p=i then f x else x:=by
 rw [List.getElem?_modify] at h
 cases hx:l[i]? with
 | none=>rw [hx] at h; simp at h
 | some x =>
  rw [hx] at h
  refine ⟨x,rfl,?_⟩
  by_cases hp:p=i
  ·rw [if_pos hp]; simpa [hp] using h.symm
  ·rw [if_neg hp]; simpa [hp] using h.symm
theorem told_grow {F:Found D} {x:Tel D.V} (h:Told K F x) (y:Tel D.V):Told K (tell1 D F y) x:=by
 cases x with
 | point p s =>
  cases y with
  | site q b=>exact h
  | point q t =>
   intro f hf
   obtain ⟨g,hg,rfl⟩:=modify_get hf
   split
   ·exact subS_trans (h g hg) (subS_l g _)
   ·exact h g hg
 | site q b =>
  cases y with
  | point p t=>exact h
  | site q' b' =>
   intro n hn
   obtain ⟨m,hm,rfl⟩:=modify_get hn
   have:=h m hm
   by_cases hq:q'.toNat=q.toNat
   ·rw [if_pos hq]; exact Nat.le_trans this (Nat.le_max_left _ _)
   ·rw [if_neg hq]; exact this
theorem told_grows {F:Found D} {x:Tel D.V}:∀ (es:List (Tel D.V)) {F:Found D},Told K F x→Told K (tell D F es) x
 | [],_,h=>h
 | y :: es,_,h=>told_grows (F:=F) es (told_grow h y)
theorem ToldAll.grow {F:Found D} {es:List (Tel D.V)} (h:ToldAll K F es) (es':List (Tel D.V)):ToldAll K (tell D F es') es:=fun ev hv=>told_grows (F:=F) es' (h ev hv)
theorem told_now (F:Found D) (x:Tel D.V):Told K (tell1 D F x) x:=by
 cases x with
 | point p s =>
  intro f hf
  obtain ⟨g,_,rfl⟩:=modify_get hf
  rw [if_pos rfl]
  exact subS_r g _
 | site q b =>
  intro n hn
  obtain ⟨m,_,rfl⟩:=modify_get hn
  rw [if_pos rfl]
  omega
theorem toldAll_now:∀ (es:List (Tel D.V)) (F:Found D),ToldAll K (tell D F es) es
 | [],_=>fun _ h=>by cases h
 | x :: es,F=>fun ev hv=>by
  rcases List.mem_cons.1 hv with rfl | hv
  ·exact told_grows (F:=F) es (told_now F ev)
  ·exact toldAll_now es (tell1 D F x) ev hv
theorem jn_keep (A:Ab K) {f:D.St} {s:D.Env} (hf:Wf K f) (h:subS K (some s) f):jn D f (some s)=f:=by
 obtain ⟨g,rfl,hg⟩:=h s rfl
 show some (fun k=>D.join (g k) (s k))=some g
 congr 1
 funext k
 exact A.keep _ _ (hf _ rfl k) (hg k)
theorem tell1_keep (A:Ab K) {F:Found D} (hF:WfF K F) {x:Tel D.V} (h:Told K F x):tell1 D F x=F:=by
 obtain ⟨fs,ns⟩:=F
 cases x with
 | point p s =>
  show (fs.modify p.toNat (fun f=>jn D f (some s)),ns)=(fs,ns)
  congr 1
  refine List.ext_getElem? fun i=>?_
  rw [List.getElem?_modify]
  cases hi:fs[i]? with
  | none=>rfl
  | some f =>
   by_cases hp:p.toNat=i
   ·subst hp
    simp only [if_true,Option.map_eq_map,Option.map_some]
    rw [jn_keep A (hF f (List.mem_of_getElem? hi)) (h f hi)]
   ·simp [hp]
 | site q b =>
  show (fs,ns.modify q.toNat (fun n=>max n (if b then 2 else 1)))=(fs,ns)
  congr 1
  refine List.ext_getElem? fun i=>?_
  rw [List.getElem?_modify]
  cases hi:ns[i]? with
  | none=>rfl
  | some n =>
   by_cases hp:q.toNat=i
   ·subst hp
    have:=h n hi
    simp only [if_true,Option.map_eq_map,Option.map_some]
    rw [Nat.max_eq_left this]
   ·simp [hp]
theorem tell_keep (A:Ab K) {F:Found D} (hF:WfF K F):∀ {es:List (Tel D.V)},ToldAll K F es→tell D F es=F
 | [],_=>rfl
 | x :: es,h=>by
  show tell D (tell1 D F x) es=F
  rw [tell1_keep A hF (h x (List.mem_cons_self ..))]
  exact tell_keep A hF fun ev hv=>h ev (List.mem_cons_of_mem _ hv)
theorem wfF_tell1 {F:Found D} (hF:WfF K F) {x:Tel D.V} (h:TelWf K x):WfF K (tell1 D F x):=by
 cases x with
 | site q b=>exact hF
 | point p s =>
  intro f hf
  obtain ⟨i,hi⟩:=List.getElem?_of_mem hf
  obtain ⟨g,hg,rfl⟩:=modify_get hi
  have hw:=hF g (List.mem_of_getElem? hg)
  split
  ·exact wf_jn hw (Wf.some h)
  ·exact hw
theorem wfF_tell:∀ {es:List (Tel D.V)} {F:Found D},WfF K F→TelsWf K es→WfF K (tell D F es)
 | [],_,hF,_=>hF
 | x :: es,_,hF,h=>wfF_tell (es:=es) (wfF_tell1 hF (h x (List.mem_cons_self ..))) fun ev hv=>h ev (List.mem_cons_of_mem _ hv)
end
end Sp
end Go.Proofs.YtiopfihjmkfdmaaGreatDoor
namespace Go.Proofs.YtiopfihjmkfdmaaGreatDoor
namespace Sp
structure Cg where
 m:Nat
 r:Int
deriving DecidableEq
def cgMem (x:Cg) (n:Int):Prop:=if x.m=0 then n=x.r else (n - x.r) % (x.m:Int)=0
instance (x:Cg) (n:Int):Decidable (cgMem x n):=by unfold cgMem; infer_instance
def cgWhole:Cg:=⟨1,0⟩
def cgTwo (k:Nat) (v:Int):Cg:=⟨Nat.gcd k 65536,v % (Nat.gcd k 65536:Nat)⟩
def cgBy (g:Nat) (v:Int):Cg:=⟨g,v % (g:Int)⟩
def cgNeg (x:Cg):Cg:=if x.m=0 then ⟨0,w16 (-x.r)⟩ else cgTwo x.m (-x.r)
def cgWork (k:Nat) (x y:Cg):Option Cg :=
 if x.m=0∧y.m=0 then (work k x.r y.r).map fun n=>⟨0,n⟩
 else if 3≤k∧y.m=0∧y.r=0 then none
 else if k=0 then some (cgTwo (Nat.gcd x.m y.m) (x.r + y.r))
 else if k=1 then some (cgTwo (Nat.gcd x.m y.m) (x.r - y.r))
 else if k=2 then (if (x.m=0∧x.r=0)∨(y.m=0∧y.r=0) then some ⟨0,0⟩ else some (cgTwo (Nat.gcd (Nat.gcd (x.m * y.m) ((x.m:Int) * y.r).natAbs) ((y.m:Int) * x.r).natAbs) (x.r * y.r)))
 else if k=3 then some cgWhole
 else some (cgBy (Nat.gcd (Nat.gcd x.m y.m) y.r.natAbs) x.r)
def cgJoin (x y:Cg):Cg:=if Nat.gcd (Nat.gcd x.m y.m) (x.r - y.r).natAbs=0 then x else cgBy (Nat.gcd (Nat.gcd x.m y.m) (x.r - y.r).natAbs) x.r
theorem w16_eq (n:Int):∃ k:Int,w16 n=n - 65536 * k:=by
 unfold w16 IntKind.wrap
 have h:(2 ^ IntKind.i16.bits:Int)=65536:=rfl
 have h2:(2 ^ (IntKind.i16.bits - 1):Int)=32768:=rfl
 simp only [h,h2]
 show ∃ k:Int,(if (true && decide (n % 65536 ≥ 32768))=true then n % 65536 - 65536 else n % 65536)=n - 65536 * k
 by_cases hc:n % 65536 ≥ 32768
 ·rw [if_pos (by simp; exact hc)]
  exact ⟨n / 65536 + 1,by omega⟩
 ·rw [if_neg (by simp; omega)]
  exact ⟨n / 65536,by omega⟩
theorem mem_iff (x:Cg) (n:Int):cgMem x n ↔ (x.m:Int) ∣ (n - x.r):=by
 unfold cgMem
 by_cases h:x.m=0
 ·rw [if_pos h,h]
  simp
  omega
 ·rw [if_neg h]
  exact Int.dvd_iff_emod_eq_zero.symm
theorem mem_by {g:Nat} {v n:Int} (h:(g:Int) ∣ n - v):cgMem (cgBy g v) n:=by
 rw [mem_iff]
 show (g:Int) ∣ n - v % (g:Int)
 have e:n - v % (g:Int)=(n - v) + (g:Int) * (v / (g:Int)):=by
  have:=Int.emod_add_mul_ediv v g
  omega
 rw [e]
 exact Int.dvd_add h (Int.dvd_mul_right _ _)
theorem mem_two {k:Nat} {v n:Int} (h:(k:Int) ∣ n - v):cgMem (cgTwo k v) (w16 n):=by
 have hk:((Nat.gcd k 65536:Nat):Int) ∣ (k:Int):=Int.natCast_dvd_natCast.2 (Nat.gcd_dvd_left _ _)
 have h2:((Nat.gcd k 65536:Nat):Int) ∣ (65536:Int):=Int.natCast_dvd_natCast.2 (Nat.gcd_dvd_right k 65536)
 obtain ⟨j,hj⟩:=w16_eq n
 refine mem_by ?_
 rw [hj,show n - 65536 * j - v=(n - v) - 65536 * j by omega]
 exact Int.dvd_sub (Int.dvd_trans hk h) (Int.dvd_trans h2 (Int.dvd_mul_right _ _))
theorem cg_join_l (x y:Cg) (n:Int) (h:cgMem x n):cgMem (cgJoin x y) n:=by
 unfold cgJoin
 by_cases hg:Nat.gcd (Nat.gcd x.m y.m) (x.r - y.r).natAbs=0
 ·rw [if_pos hg]; exact h
 ·rw [if_neg hg]
  rw [mem_iff] at h
  exact mem_by (Int.dvd_trans (Int.natCast_dvd_natCast.2 (Nat.dvd_trans (Nat.gcd_dvd_left _ _) (Nat.gcd_dvd_left _ _))) h)
theorem cg_join_r (x y:Cg) (n:Int) (h:cgMem y n):cgMem (cgJoin x y) n:=by
 unfold cgJoin
 rw [mem_iff] at h
 by_cases hg:Nat.gcd (Nat.gcd x.m y.m) (x.r - y.r).natAbs=0
 ·rw [if_pos hg,mem_iff]
  obtain ⟨h1,h2⟩:=Nat.gcd_eq_zero_iff.1 hg
  obtain ⟨h3,h4⟩:=Nat.gcd_eq_zero_iff.1 h1
  rw [h4] at h
  rw [h3]
  simp at h ⊢
  omega
 ·rw [if_neg hg]
  refine mem_by ?_
  have d1:((Nat.gcd (Nat.gcd x.m y.m) (x.r - y.r).natAbs:Nat):Int) ∣ (y.m:Int):=Int.natCast_dvd_natCast.2 (Nat.dvd_trans (Nat.gcd_dvd_left _ _) (Nat.gcd_dvd_right _ _))
  have d2:((Nat.gcd (Nat.gcd x.m y.m) (x.r - y.r).natAbs:Nat):Int) ∣ x.r - y.r:=Int.ofNat_dvd_left.2 (Nat.gcd_dvd_right _ _)
  rw [show n - x.r=(n - y.r) - (x.r - y.r) by omega]
  exact Int.dvd_sub (Int.dvd_trans d1 h) d2
theorem cg_neg (x:Cg) (n:Int) (h:cgMem x n):cgMem (cgNeg x) (w16 (-n)):=by
 unfold cgNeg
 by_cases hm:x.m=0
 ·rw [if_pos hm]
  unfold cgMem at *
  rw [if_pos hm] at h
  rw [if_pos rfl,h]
 ·rw [if_neg hm]
  rw [mem_iff] at h
  refine mem_two ?_
  rw [show -n - -x.r=-(n - x.r) by omega]
  exact Int.dvd_neg.2 h
theorem tmod_dvd (a b:Int):b ∣ a - a.tmod b:=by
 have:=Int.tmod_add_mul_tdiv a b
 exact ⟨a.tdiv b,by omega⟩
theorem cg_work (k:Nat) (x y:Cg) (a b c:Int) (_:I16 a) (_:I16 b) (ha:cgMem x a) (hb:cgMem y b) (h:work k a b=some c):∃ v,cgWork k x y=some v∧cgMem v c:=by
 unfold cgWork
 by_cases h0:x.m=0∧y.m=0
 ·rw [if_pos h0]
  unfold cgMem at ha hb
  rw [if_pos h0.1] at ha
  rw [if_pos h0.2] at hb
  subst ha; subst hb
  rw [h]
  refine ⟨_,rfl,?_⟩
  unfold cgMem
  rw [if_pos rfl]
 ·rw [if_neg h0]
  have hz:¬ (3≤k∧y.m=0∧y.r=0):=by
   rintro ⟨h3,h4,h5⟩
   unfold cgMem at hb
   rw [if_pos h4] at hb
   unfold work at h
   rw [if_neg (by omega),if_neg (by omega),if_neg (by omega),if_pos (by omega)] at h
   cases h
  rw [if_neg hz]
  rw [mem_iff] at ha hb
  have dx:((Nat.gcd x.m y.m:Nat):Int) ∣ a - x.r:=Int.dvd_trans (Int.natCast_dvd_natCast.2 (Nat.gcd_dvd_left _ _)) ha
  have dy:((Nat.gcd x.m y.m:Nat):Int) ∣ b - y.r:=Int.dvd_trans (Int.natCast_dvd_natCast.2 (Nat.gcd_dvd_right _ _)) hb
  by_cases k0:k=0
  ·subst k0
   rw [if_pos rfl]
   have hc:c=w16 (a + b):=by unfold work at h; simp at h; exact h.symm
   subst hc
   refine ⟨_,rfl,mem_two ?_⟩
   rw [show a + b - (x.r + y.r)=(a - x.r) + (b - y.r) by omega]
   exact Int.dvd_add dx dy
  rw [if_neg k0]
  by_cases k1:k=1
  ·subst k1
   rw [if_pos rfl]
   have hc:c=w16 (a - b):=by unfold work at h; simp at h; exact h.symm
   subst hc
   refine ⟨_,rfl,mem_two ?_⟩
   rw [show a - b - (x.r - y.r)=(a - x.r) - (b - y.r) by omega]
   exact Int.dvd_sub dx dy
  rw [if_neg k1]
  by_cases k2:k=2
  ·subst k2
   rw [if_pos rfl]
   have hc:c=w16 (a * b):=by unfold work at h; simp at h; exact h.symm
   subst hc
   by_cases hzz:(x.m=0∧x.r=0)∨(y.m=0∧y.r=0)
   ·rw [if_pos hzz]
    refine ⟨_,rfl,?_⟩
    have:a * b=0:=by
     rcases hzz with ⟨h1,h2⟩ | ⟨h1,h2⟩
     ·rw [h1] at ha
      have:a=0:=by simp at ha; omega
      rw [this]; simp
     ·rw [h1] at hb
      have:b=0:=by simp at hb; omega
      rw [this]; simp
    rw [this]
    decide
   ·rw [if_neg hzz]
    refine ⟨_,rfl,mem_two ?_⟩
    obtain ⟨p,hp⟩:=ha
    obtain ⟨q,hq⟩:=hb
    have ea:a=x.r + x.m * p:=by omega
    have eb:b=y.r + y.m * q:=by omega
    have d1:((Nat.gcd (Nat.gcd (x.m * y.m) ((x.m:Int) * y.r).natAbs) ((y.m:Int) * x.r).natAbs:Nat):Int) ∣ (x.m:Int) * y.m:=by
     have:=Int.natCast_dvd_natCast.2 (Nat.dvd_trans (Nat.gcd_dvd_left (Nat.gcd (x.m * y.m) ((x.m:Int) * y.r).natAbs) ((y.m:Int) * x.r).natAbs) (Nat.gcd_dvd_left _ _))
     simpa using this
    have d2:((Nat.gcd (Nat.gcd (x.m * y.m) ((x.m:Int) * y.r).natAbs) ((y.m:Int) * x.r).natAbs:Nat):Int) ∣ (x.m:Int) * y.r:=Int.ofNat_dvd_left.2 (Nat.dvd_trans (Nat.gcd_dvd_left _ _) (Nat.gcd_dvd_right _ _))
    have d3:((Nat.gcd (Nat.gcd (x.m * y.m) ((x.m:Int) * y.r).natAbs) ((y.m:Int) * x.r).natAbs:Nat):Int) ∣ (y.m:Int) * x.r:=Int.ofNat_dvd_left.2 (Nat.gcd_dvd_right _ _)
    have e:a * b - x.r * y.r=(x.m * y.m) * (p * q) + (x.m * y.r) * p + (y.m * x.r) * q:=by
     rw [ea,eb,Int.add_mul,Int.mul_add,Int.mul_add]
     have e1:x.r * (↑y.m * q)=(y.m * x.r) * q:=by rw [← Int.mul_assoc,Int.mul_comm x.r]
     have e2:↑x.m * p * y.r=(x.m * y.r) * p:=by rw [Int.mul_assoc,Int.mul_comm p,← Int.mul_assoc]
     have e3:↑x.m * p * (↑y.m * q)=(x.m * y.m) * (p * q):=by
      rw [Int.mul_assoc,Int.mul_assoc,← Int.mul_assoc p,Int.mul_comm p,Int.mul_assoc]
     rw [e1,e2,e3]
     omega
    rw [e]
    exact Int.dvd_add (Int.dvd_add (Int.dvd_trans d1 (Int.dvd_mul_right _ _)) (Int.dvd_trans d2 (Int.dvd_mul_right _ _))) (Int.dvd_trans d3 (Int.dvd_mul_right _ _))
  rw [if_neg k2]
  by_cases k3:k=3
  ·rw [if_pos k3]
   refine ⟨_,rfl,?_⟩
   rw [mem_iff]
   exact Int.one_dvd _
  ·rw [if_neg k3]
   refine ⟨_,rfl,mem_by ?_⟩
   have hc:c=a.tmod b:=by
    unfold work at h
    rw [if_neg k0,if_neg k1,if_neg k2] at h
    split at h
    ·cases h
    ·cases h
     rfl
   subst hc
   have g1:((Nat.gcd (Nat.gcd x.m y.m) y.r.natAbs:Nat):Int) ∣ ((Nat.gcd x.m y.m:Nat):Int):=Int.natCast_dvd_natCast.2 (Nat.gcd_dvd_left _ _)
   have g2:((Nat.gcd (Nat.gcd x.m y.m) y.r.natAbs:Nat):Int) ∣ y.r:=Int.ofNat_dvd_left.2 (Nat.gcd_dvd_right _ _)
   have g3:((Nat.gcd (Nat.gcd x.m y.m) y.r.natAbs:Nat):Int) ∣ b:=by
    rw [show b=(b - y.r) + y.r by omega]
    exact Int.dvd_add (Int.dvd_trans g1 dy) g2
   rw [show a.tmod b - x.r=(a - x.r) - (a - a.tmod b) by omega]
   exact Int.dvd_sub (Int.dvd_trans g1 dx) (Int.dvd_trans g3 (tmod_dvd a b))
def cgFirst (p:Int→Bool):Nat→Int→Option Int
 | 0,_=>none
 | f + 1,n=>if p n then some n else cgFirst p f (n + 1)
theorem cgFirst_some {p:Int→Bool}:∀ {f:Nat} {n g:Int},cgFirst p f n=some g→p g=true∧n≤g∧g<n + f∧∀ k,n≤k→k<g→p k=false
 | 0,_,_,h=>by cases h
 | f + 1,n,g,h=>by
  unfold cgFirst at h
  by_cases hp:p n=true
  ·rw [if_pos hp] at h
   cases h
   exact ⟨hp,Int.le_refl _,by omega,fun k h1 h2=>by omega⟩
  ·rw [if_neg hp] at h
   obtain ⟨h1,h2,h3,h4⟩:=cgFirst_some h
   refine ⟨h1,by omega,by omega,fun k k1 k2=>?_⟩
   by_cases e:k=n
   ·subst e; simpa using hp
   ·exact h4 k (by omega) k2
theorem cgFirst_none {p:Int→Bool}:∀ {f:Nat} {n:Int},cgFirst p f n=none→∀ k,n≤k→k<n + f→p k=false
 | 0,_,_,k,h1,h2=>by omega
 | f + 1,n,h,k,h1,h2=>by
  unfold cgFirst at h
  by_cases hp:p n=true
  ·rw [if_pos hp] at h; cases h
  ·rw [if_neg hp] at h
   by_cases e:k=n
   ·subst e; simpa using hp
   ·exact cgFirst_none h k (by omega) (by omega)
def cgBoth (x y:Cg) (n:Int):Bool:=decide (cgMem x n) && decide (cgMem y n)
def cgMeet (x y:Cg):Option Cg:=match cgFirst (cgBoth x y) 65536 (-32768) with
 | none=>none
 | some f=>some (match cgFirst (cgBoth x y) (32767 - f).toNat (f + 1) with
  | none=>⟨0,f⟩
  | some g=>cgBy (g - f).toNat f)
theorem both_iff {x y:Cg} {n:Int}:cgBoth x y n=true ↔ ((x.m:Int) ∣ n - x.r)∧((y.m:Int) ∣ n - y.r):=by
 unfold cgBoth
 rw [Bool.and_eq_true,decide_eq_true_eq,decide_eq_true_eq,mem_iff,mem_iff]
theorem cg_meet {x y:Cg} {n:Int} (hn:I16 n) (hx:cgMem x n) (hy:cgMem y n):∃ v,cgMeet x y=some v∧cgMem v n:=by
 have hb:cgBoth x y n=true:=by unfold cgBoth; simp [hx,hy]
 unfold I16 at hn
 unfold cgMeet
 cases hf:cgFirst (cgBoth x y) 65536 (-32768) with
 | none =>
  have:=cgFirst_none hf n (by omega) (by omega)
  rw [this] at hb; cases hb
 | some f =>
  obtain ⟨f1,f2,f3,f4⟩:=cgFirst_some hf
  have hfn:f≤n:=by
   rcases Int.lt_or_le n f with h | h
   ·have:=f4 n (by omega) h
    rw [this] at hb; cases hb
   ·exact h
  refine ⟨_,rfl,?_⟩
  cases hg:cgFirst (cgBoth x y) (32767 - f).toNat (f + 1) with
  | none =>
   have:n=f:=by
    rcases Int.lt_or_le f n with h | h
    ·have:=cgFirst_none hg n (by omega) (by omega)
     rw [this] at hb; cases hb
    ·omega
   rw [this,mem_iff]
   simp
  | some g =>
   obtain ⟨g1,g2,g3,g4⟩:=cgFirst_some hg
   refine mem_by ?_
   have hD:(((g - f).toNat:Nat):Int)=g - f:=by omega
   rw [hD]
   obtain ⟨fx,fy⟩:=both_iff.1 f1
   obtain ⟨gx,gy⟩:=both_iff.1 g1
   obtain ⟨nx,ny⟩:=both_iff.1 hb
   have dx:(x.m:Int) ∣ g - f:=by
    rw [show g - f=(g - x.r) - (f - x.r) by omega]; exact Int.dvd_sub gx fx
   have dy:(y.m:Int) ∣ g - f:=by
    rw [show g - f=(g - y.r) - (f - y.r) by omega]; exact Int.dvd_sub gy fy
   have hpos:0<g - f:=by omega
   have e:=Int.emod_add_mul_ediv (n - f) (g - f)
   have t1:=Int.emod_nonneg (n - f) (b:=g - f) (by omega)
   have t2:=Int.emod_lt_of_pos (n - f) hpos
   rw [Int.dvd_iff_emod_eq_zero]
   rcases Int.lt_or_le 0 ((n - f) % (g - f)) with ht | ht
   ·have hc:cgBoth x y (f + (n - f) % (g - f))=true:=by
     rw [both_iff]
     constructor
     ·rw [show f + (n - f) % (g - f) - x.r=(n - x.r) - (g - f) * ((n - f) / (g - f)) by omega]
      exact Int.dvd_sub nx (Int.dvd_trans dx (Int.dvd_mul_right _ _))
     ·rw [show f + (n - f) % (g - f) - y.r=(n - y.r) - (g - f) * ((n - f) / (g - f)) by omega]
      exact Int.dvd_sub ny (Int.dvd_trans dy (Int.dvd_mul_right _ _))
    have:=g4 (f + (n - f) % (g - f)) (by omega) (by omega)
    rw [this] at hc; cases hc
   ·omega
def cgMay (r:Nat) (x y:Cg):Bool:=!(decide (x.m=0) && decide (y.m=0) && !holds r x.r y.r) && !(decide (r=2) && (cgMeet x y).isNone)
def cgBound (r:Nat) (x y:Cg):Option Cg:=if r=2 then cgMeet x y else some x
theorem cg_may (r:Nat) (x y:Cg) (a b:Int) (ha:I16 a) (hx:cgMem x a) (hy:cgMem y b) (h:holds r a b=true):cgMay r x y=true:=by
 unfold cgMay
 rw [Bool.and_eq_true]
 constructor
 ·by_cases h0:x.m=0∧y.m=0
  ·unfold cgMem at hx hy
   rw [if_pos h0.1] at hx
   rw [if_pos h0.2] at hy
   subst hx; subst hy
   simp [h]
  ·rcases Decidable.not_and_iff_or_not.1 h0 with h1 | h1
   ·simp [h1]
   ·simp [h1]
 ·by_cases h2:r=2
  ·subst h2
   have e:a=b:=by simpa [holds] using h
   subst e
   obtain ⟨v,hv,_⟩:=cg_meet ha hx hy
   simp [hv]
  ·simp [h2]
theorem cg_bound (r:Nat) (x y:Cg) (a b:Int) (ha:I16 a) (hx:cgMem x a) (hy:cgMem y b) (h:holds r a b=true):∃ v,cgBound r x y=some v∧cgMem v a:=by
 unfold cgBound
 by_cases h2:r=2
 ·subst h2
  rw [if_pos rfl]
  have e:a=b:=by simpa [holds] using h
  subst e
  exact cg_meet ha hx hy
 ·rw [if_neg h2]
  exact ⟨x,rfl,hx⟩
def cgDom:Dom where
 V:=Cg
 dec:=inferInstance
 num n:=⟨0,n⟩
 whole:=cgWhole
 neg:=cgNeg
 work:=cgWork
 nought x:=decide (cgMem x 0)
 join:=cgJoin
 may:=cgMay
 bound:=cgBound
 widen _ y:=y
 narrow x _:=x
 fuel:=1100000
end Sp
end Go.Proofs.YtiopfihjmkfdmaaGreatDoor
namespace Go.Proofs.YtiopfihjmkfdmaaGreatDoor
namespace Sp
theorem cg_nought (x:Cg) (h:cgMem x 0):decide (cgMem x 0)=true:=by simp [h]
def cgSnd:Snd cgDom where
 mem:=cgMem
 num n:=by show cgMem ⟨0,n⟩ n; rw [mem_iff]; simp
 whole n _:=by show cgMem cgWhole n; rw [mem_iff]; exact Int.one_dvd _
 neg x n _ h:=cg_neg x n h
 work:=cg_work
 nought:=cg_nought
 joinl:=cg_join_l
 joinr:=cg_join_r
 may r x y a b ha _:=cg_may r x y a b ha
 bound r x y a b ha _:=cg_bound r x y a b ha
 narrow _ _ _ h _:=h
def cgWf (x:Cg):Prop:=(x.m=0∧I16 x.r)∨(1≤x.m∧x.m≤65536∧0≤x.r∧x.r<x.m)
theorem wf_by {g:Nat} (h1:1≤g) (h2:g≤65536) (v:Int):cgWf (cgBy g v) :=
 .inr ⟨h1,h2,Int.emod_nonneg _ (by show (g:Int) ≠ 0; omega),Int.emod_lt_of_pos _ (by show (0:Int)<g; omega)⟩
theorem wf_two (k:Nat) (v:Int):cgWf (cgTwo k v) :=
 wf_by (Nat.gcd_pos_of_pos_right k (by omega)) (Nat.gcd_le_right k (by omega)) v
theorem wf_num {n:Int} (h:I16 n):cgWf ⟨0,n⟩:=.inl ⟨rfl,h⟩
theorem wf_m {x:Cg} (h:cgWf x):x.m≤65536:=by
 rcases h with h | h
 ·omega
 ·exact h.2.1
theorem cg_wwork (k:Nat) (x y v:Cg) (hx:cgWf x) (hy:cgWf y) (h:cgWork k x y=some v):cgWf v:=by
 unfold cgWork at h
 split at h
 ·next h0 =>
  rcases hx with ⟨_,hx⟩ | hx
  ·cases hw:work k x.r y.r with
   | none=>rw [hw] at h; cases h
   | some n =>
    rw [hw] at h
    cases h
    exact wf_num (work_in hx hw)
  ·omega
 ·next h0 =>
  split at h
  ·cases h
  ·split at h
   ·cases h; exact wf_two _ _
   ·split at h
    ·cases h; exact wf_two _ _
    ·split at h
     ·split at h
      ·cases h; exact wf_num (by unfold I16; omega)
      ·cases h; exact wf_two _ _
     ·split at h
      ·cases h; exact .inr ⟨by decide,by decide,by decide,by decide⟩
      ·cases h
       have mx:=wf_m hx
       have my:=wf_m hy
       have hg:0<Nat.gcd x.m y.m:=by
        by_cases e:x.m=0
        ·exact Nat.gcd_pos_of_pos_right _ (by have:y.m ≠ 0:=fun e2=>h0 ⟨e,e2⟩; omega)
        ·exact Nat.gcd_pos_of_pos_left _ (by omega)
       have hle:Nat.gcd x.m y.m≤65536:=by
        by_cases e:x.m=0
        ·have:y.m ≠ 0:=fun e2=>h0 ⟨e,e2⟩
         exact Nat.le_trans (Nat.gcd_le_right _ (by omega)) my
        ·exact Nat.le_trans (Nat.gcd_le_left _ (by omega)) mx
       exact wf_by (Nat.gcd_pos_of_pos_left _ hg) (Nat.le_trans (Nat.gcd_le_left _ hg) hle) _
theorem cg_wjoin (x y:Cg) (hx:cgWf x) (hy:cgWf y):cgWf (cgJoin x y):=by
 unfold cgJoin
 by_cases hg:Nat.gcd (Nat.gcd x.m y.m) (x.r - y.r).natAbs=0
 ·rw [if_pos hg]; exact hx
 ·rw [if_neg hg]
  have mx:=wf_m hx
  have my:=wf_m hy
  refine wf_by (by omega) ?_ _
  by_cases e:Nat.gcd x.m y.m=0
  ·obtain ⟨e1,e2⟩:=Nat.gcd_eq_zero_iff.1 e
   rw [e,Nat.gcd_zero_left]
   rcases hx with ⟨_,hx⟩ | hx
   ·rcases hy with ⟨_,hy⟩ | hy
    ·unfold I16 at *; omega
    ·omega
   ·omega
  ·refine Nat.le_trans (Nat.gcd_le_left _ (by omega)) ?_
   by_cases e1:x.m=0
   ·rw [e1,Nat.gcd_zero_left]; exact my
   ·exact Nat.le_trans (Nat.gcd_le_left _ (by omega)) mx
theorem cg_wbound (r:Nat) (x y v:Cg) (hx:cgWf x) (_:cgWf y) (h:cgBound r x y=some v):cgWf v:=by
 unfold cgBound at h
 split at h
 ·unfold cgMeet at h
  cases hf:cgFirst (cgBoth x y) 65536 (-32768) with
  | none=>rw [hf] at h; cases h
  | some f =>
   rw [hf] at h
   simp only at h
   obtain ⟨_,f2,f3,_⟩:=cgFirst_some hf
   cases hg:cgFirst (cgBoth x y) (32767 - f).toNat (f + 1) with
   | none =>
    rw [hg] at h
    cases h
    exact wf_num (by unfold I16; omega)
   | some g =>
    rw [hg] at h
    obtain ⟨_,g2,g3,_⟩:=cgFirst_some hg
    cases h
    exact wf_by (by omega) (by omega) _
 ·cases h; exact hx
def cgRank (x:Cg):Nat:=if x.m=0 then 0 else 65537 - x.m
theorem cg_join_lt (x y:Cg) (hx:cgWf x) (hy:cgWf y) (h:cgJoin x y ≠ x):cgRank x<cgRank (cgJoin x y):=by
 have hw:=cg_wjoin x y hx hy
 unfold cgJoin at *
 by_cases hg:Nat.gcd (Nat.gcd x.m y.m) (x.r - y.r).natAbs=0
 ·rw [if_pos hg] at h; exact absurd rfl h
 ·rw [if_neg hg] at h hw ⊢
  have mx:=wf_m hx
  have hgm:=wf_m hw
  unfold cgRank
  show (if x.m=0 then 0 else 65537 - x.m)<(if Nat.gcd (Nat.gcd x.m y.m) (x.r - y.r).natAbs=0 then 0 else 65537 - Nat.gcd (Nat.gcd x.m y.m) (x.r - y.r).natAbs)
  rw [if_neg hg]
  have hgm:Nat.gcd (Nat.gcd x.m y.m) (x.r - y.r).natAbs≤65536:=hgm
  by_cases hm:x.m=0
  ·rw [if_pos hm]; omega
  ·rw [if_neg hm]
   have hd:Nat.gcd (Nat.gcd x.m y.m) (x.r - y.r).natAbs ∣ x.m:=Nat.dvd_trans (Nat.gcd_dvd_left _ _) (Nat.gcd_dvd_left _ _)
   have hle:=Nat.le_of_dvd (by omega) hd
   have hne:Nat.gcd (Nat.gcd x.m y.m) (x.r - y.r).natAbs ≠ x.m:=fun e=>by
    apply h
    rw [e]
    rcases hx with ⟨hx,_⟩ | ⟨_,_,h3,h4⟩
    ·exact absurd hx hm
    ·unfold cgBy
     rw [Int.emod_eq_of_lt h3 h4]
   omega
def cgRk:Rk cgDom where
 wf:=cgWf
 rk:=cgRank
 top:=65536
 le x h:=by
  unfold cgRank
  split <;> omega
 wnum _ h:=wf_num h
 wwhole:=.inr ⟨by decide,by decide,by decide,by decide⟩
 wneg x _:=by
  show cgWf (cgNeg x)
  unfold cgNeg
  split
  ·exact wf_num (w16_in _)
  ·exact wf_two _ _
 wwork:=cg_wwork
 wjoin:=cg_wjoin
 wbound:=cg_wbound
 wwiden _ _ _ h:=h
 sub x y:=∀ n,cgMem x n→cgMem y n
 sub_refl _ _ h:=h
 sub_trans _ _ _ h k n hn:=k n (h n hn)
 sub_joinl:=cg_join_l
 sub_joinr x y:=cg_join_r x y
 sub_narrow _ _ _ h _:=h
 wnarrow _ _ _ h _ _ _ _:=h
 join_lt:=cg_join_lt
 widen_le _ _ _ _:=Nat.le_refl _
 fuel:=by decide
end Sp
end Go.Proofs.YtiopfihjmkfdmaaGreatDoor
namespace Go.Proofs.YtiopfihjmkfdmaaGreatDoor
namespace Sp
theorem cg_keep (x y:Cg) (hx:cgWf x) (h:∀ n,cgMem y n→cgMem x n):cgJoin x y=x:=by
 have h1:(x.m:Int) ∣ y.r - x.r:=(mem_iff x y.r).1 (h y.r ((mem_iff y y.r).2 (by simp)))
 have h2:(x.m:Int) ∣ y.r + y.m - x.r:=(mem_iff x (y.r + y.m)).1 (h (y.r + y.m) ((mem_iff y _).2 (by rw [show y.r + (y.m:Int) - y.r=y.m by omega]; exact Int.dvd_refl _)))
 have h3:(x.m:Int) ∣ (y.m:Int):=by
  have:=Int.dvd_sub h2 h1
  rwa [show y.r + (y.m:Int) - x.r - (y.r - x.r)=y.m by omega] at this
 have d1:x.m ∣ y.m:=Int.natCast_dvd_natCast.1 h3
 have d2:x.m ∣ (x.r - y.r).natAbs:=by
  have:(x.m:Int) ∣ x.r - y.r:=by
   have:=Int.dvd_neg.2 h1
   rwa [show -(y.r - x.r)=x.r - y.r by omega] at this
  exact Int.ofNat_dvd_left.1 this
 have hg:Nat.gcd (Nat.gcd x.m y.m) (x.r - y.r).natAbs=x.m:=by
  rw [Nat.gcd_eq_left d1,Nat.gcd_eq_left d2]
 unfold cgJoin
 rw [hg]
 by_cases hm:x.m=0
 ·rw [if_pos hm]
 ·rw [if_neg hm]
  rcases hx with ⟨h0,_⟩ | ⟨_,_,h3,h4⟩
  ·exact absurd h0 hm
  ·unfold cgBy
   rw [Int.emod_eq_of_lt h3 h4]
theorem cgAb:Ab cgRk where
 keep x y hx h:=cg_keep x y hx h
end Sp
end Go.Proofs.YtiopfihjmkfdmaaGreatDoor
