import Derived.Test.YtiopfihjmkfdmaaGreatDoorS22
namespace Go.Proofs.YtiopfihjmkfdmaaGreatDoor
namespace Sp
theorem anS_b1 (D : Dom) (k : Nat) (x y : Sm) (ct : Ct) (s : D.Env) (es : List (Tel D.V)) (h : anS D x ct s = (es, none)) : anS D (.bin k x y) ct s = (es, none) := by
 unfold anS
 rw [h]
theorem anS_b2 (D : Dom) (k : Nat) (x y : Sm) (ct : Ct) (s : D.Env) (es : List (Tel D.V)) (a : D.V) (es2 : List (Tel D.V)) (h : anS D x ct s = (es, some a)) (h2 : anS D y (if 3 ≤ k then siteUp (cS x ct) else cS x ct) s = (es2, none)) : anS D (.bin k x y) ct s = (es ++ es2, none) := by
 unfold anS
 rw [h]
 simp only
 rw [h2]
theorem anS_b3 (D : Dom) (k : Nat) (x y : Sm) (ct : Ct) (s : D.Env) (es : List (Tel D.V)) (a : D.V) (es2 : List (Tel D.V)) (c : D.V) (h : anS D x ct s = (es, some a)) (h2 : anS D y (if 3 ≤ k then siteUp (cS x ct) else cS x ct) s = (es2, some c)) (h3 : 3 ≤ k) : anS D (.bin k x y) ct s = (es ++ es2 ++ [.site (cS x ct).2 (D.nought c)], D.work k a c) := by
 unfold anS
 rw [h]
 simp only
 rw [h2]
 simp only
 rw [if_pos h3]
theorem anS_b4 (D : Dom) (k : Nat) (x y : Sm) (ct : Ct) (s : D.Env) (es : List (Tel D.V)) (a : D.V) (es2 : List (Tel D.V)) (c : D.V) (h : anS D x ct s = (es, some a)) (h2 : anS D y (if 3 ≤ k then siteUp (cS x ct) else cS x ct) s = (es2, some c)) (h3 : ¬ 3 ≤ k) : anS D (.bin k x y) ct s = (es ++ es2, D.work k a c) := by
 unfold anS
 rw [h]
 simp only
 rw [h2]
 simp only
 rw [if_neg h3, List.append_nil]
theorem bnd_none (D : Dom) (k r : Nat) (y : D.V) (e : D.Env) (h : D.bound r (getV D e k) y = none) : bndV D (.name k) r y (some e) = none := by
 unfold bndV
 simp only
 rw [h]
theorem bnd_some (D : Dom) (k r : Nat) (y : D.V) (e : D.Env) (v : D.V) (h : D.bound r (getV D e k) y = some v) : bndV D (.name k) r y (some e) = some (setV D e k v) := by
 unfold bndV
 simp only
 rw [h]
theorem behind_none (D : Dom) (r : Nat) (x y : Sm) (a b : D.V) (e : D.Env) (h : D.may r a b = false) : behindV D r x y a b e = none := by
 unfold behindV
 rw [if_neg (by rw [h]; simp)]
theorem behind_some (D : Dom) (r : Nat) (x y : Sm) (a b : D.V) (e : D.Env) (h : D.may r a b = true) : behindV D r x y a b e = bndV D y (mirror r) a (bndV D x r b (some e)) := by
 unfold behindV
 rw [if_pos h]
theorem anC_c1 (D : Dom) (k : Nat) (x y : Sm) (ct : Ct) (e : D.Env) (es : List (Tel D.V)) (h : anS D x ct e = (es, none)) : anC D k x y ct (some e) = (es, none, none) := by
 unfold anC
 simp only
 rw [h]
theorem anC_c2 (D : Dom) (k : Nat) (x y : Sm) (ct : Ct) (e : D.Env) (es : List (Tel D.V)) (a : D.V) (es2 : List (Tel D.V)) (h : anS D x ct e = (es, some a)) (h2 : anS D y (cS x ct) e = (es2, none)) : anC D k x y ct (some e) = (es ++ es2, none, none) := by
 unfold anC
 simp only
 rw [h]
 simp only
 rw [h2]
theorem anC_c3 (D : Dom) (k : Nat) (x y : Sm) (ct : Ct) (e : D.Env) (es : List (Tel D.V)) (a : D.V) (es2 : List (Tel D.V)) (c : D.V) (h : anS D x ct e = (es, some a)) (h2 : anS D y (cS x ct) e = (es2, some c)) : anC D k x y ct (some e) = (es ++ es2, behindV D k x y a c e, behindV D (opp k) x y a c e) := by
 unfold anC
 simp only
 rw [h]
 simp only
 rw [h2]
end Sp
end Go.Proofs.YtiopfihjmkfdmaaGreatDoor
namespace Go.Proofs.YtiopfihjmkfdmaaGreatDoor
namespace Sp
section
variable {D : Dom}
structure WdTo (K : Rk D) (next : D.St → D.St) (delay : Nat) (U : D.St) (k f : Nat) (sj : D.St) : Prop where
 sum : f + k = D.fuel + 1
 eq : fixF D next delay f k sj = U
 wf : Wf K sj
 no : sj = none → next none = none
 up : ∀ e, sj = some e → 8 * K.top < rkE K e + f
theorem WdTo.start {K : Rk D} {next : D.St → D.St} {delay : Nat} {U s : D.St} (hU : fixF D next delay D.fuel 1 s = U) (hs : Wf K s) (h0 : s = none → next none = none) : WdTo K next delay U 1 D.fuel s :=
 ⟨rfl, hU, hs, h0, fun _ _ => Nat.lt_of_lt_of_le K.fuel (Nat.le_add_left _ _)⟩
theorem WdTo.end {K : Rk D} {next : D.St → D.St} {delay : Nat} {U : D.St} {k f : Nat} {sj : D.St} (h : WdTo K next delay U k f sj) (he : eqS D (jn D sj (next sj)) sj = true) : sj = U := by
 have := h.eq
 cases f with
 | zero => exact this
 | succ f =>
  rw [fixF_succ, if_pos he] at this
  exact this
theorem WdTo.on {K : Rk D} {next : D.St → D.St} {delay : Nat} {U : D.St} {k f : Nat} {sj : D.St} (h : WdTo K next delay U k f sj) (hn : ∀ i, Wf K i → Wf K (next i)) (he : eqS D (jn D sj (next sj)) sj = false) :
  ∃ e n f', sj = some e ∧ (∀ k, K.wf (e k)) ∧ jn D sj (next sj) = some n ∧ (∀ k, K.wf (n k)) ∧ f = f' + 1 ∧ WdTo K next delay U (k + 1) f' (stepV D next delay k sj) := by
 have hne : ¬ jn D sj (next sj) = sj := fun e => by rw [(eqS_iff D _ _).2 e] at he; cases he
 cases sj with
 | none => rw [h.no rfl] at hne; exact absurd rfl hne
 | some e =>
  have we := h.wf e rfl
  have hj : Wf K (jn D (some e) (next (some e))) := wf_jn h.wf (hn _ h.wf)
  obtain ⟨n, hn'⟩ : ∃ n, jn D (some e) (next (some e)) = some n := by
   cases hx : next (some e) with
   | none => exact ⟨_, rfl⟩
   | some t => exact ⟨_, rfl⟩
  obtain ⟨g, h1, h2, h3⟩ := step_rise (K := K) we (hn _ h.wf) delay k hne
  have hup := h.up e rfl
  have hle := rkE_le (K := K) we
  obtain ⟨f', rfl⟩ : ∃ f', f = f' + 1 := ⟨f - 1, by omega⟩
  refine ⟨e, n, f', rfl, we, hn', hj n hn', rfl, ?_⟩
  have hsum := h.sum
  have heq := h.eq
  rw [fixF_succ, if_neg (by rw [he]; exact Bool.noConfusion)] at heq
  refine ⟨by omega, heq, ?_, ?_, ?_⟩
  ·rw [h1]; exact Wf.some h2
  ·intro e; rw [h1] at e; cases e
  ·intro e he'
   rw [h1] at he'
   cases he'
   omega
structure NrTo (K : Rk D) (cond : CondF D) (body : BodyF D) (s U : D.St) (n : Nat) (sj : D.St) : Prop where
 eq : narF D (nxtV D cond body s) n sj = U
 wf : Wf K sj
 no : s = none → sj = none
 sub : ∀ e, s = some e → subS K (some e) sj
theorem NrTo.start {K : Rk D} {P : Pol} {cond : CondF D} {body : BodyF D} (hc : CondWf K cond) (hb : BodyWf K body) (nc : CondNo cond) (nb : BodyNo body) {s : D.St} (hs : Wf K s) :
  NrTo K cond body s (allV D P cond body s) P.narrow (fixF D (nxtV D cond body s) P.delay D.fuel 1 s) := by
 have hn : ∀ i, Wf K i → Wf K (nxtV D cond body s i) := fun i hi => nxt_wf hc hb hs hi
 have h0 : s = none → nxtV D cond body s none = none := fun e => by
  subst e
  unfold nxtV
  rw [nc, nb]; rfl
 refine ⟨rfl, fixF_wf hn P.delay D.fuel 1 s hs, fun e => ?_, fun e he => ?_⟩
 ·have h1 := h0 e
  subst e
  exact fixF_none h1 _ _ _
 ·subst he
  obtain ⟨i, h1, h2⟩ := fixF_fix hn P.delay D.fuel 1 e (hs e rfl) (by have := K.fuel; omega)
  rw [h1]
  exact fix_sub h2
theorem NrTo.on {K : Rk D} {cond : CondF D} {body : BodyF D} (hc : CondWf K cond) (hb : BodyWf K body) {s U : D.St} (hs : Wf K s) {n : Nat} {sj : D.St} (h : NrTo K cond body s U (n + 1) sj) :
  NrTo K cond body s U n (eachV D D.narrow sj (nxtV D cond body s sj)) ∧ (sj = none ∨ ∃ e e', sj = some e ∧ nxtV D cond body s sj = some e' ∧ (∀ k, K.wf (e k)) ∧ (∀ k, K.wf (e' k))) := by
 have hw := nxt_wf hc hb hs h.wf
 cases s with
 | none =>
  have h1 := h.no rfl
  have h2 := h.eq
  subst h1
  exact ⟨⟨h2, wf_none, fun _ => rfl, fun e he => by cases he⟩, .inl rfl⟩
 | some e =>
  obtain ⟨h1, h2⟩ := narrow_wf (hs e rfl) h.wf hw (h.sub e rfl) (subS_l _ _)
  obtain ⟨g, hg, _⟩ := h.sub e rfl e rfl
  obtain ⟨q, hq, _⟩ := (subS_l (K := K) (some e) (body (cond sj).2.1).2) e rfl
  have hq' : nxtV D cond body (some e) sj = some q := hq
  refine ⟨⟨h.eq, h1, (fun e => by cases e), fun e' he' => by cases he'; exact h2⟩, .inr ⟨g, q, hg, hq', h.wf g hg, hw q hq'⟩⟩
theorem nxt_none {cond : CondF D} {body : BodyF D} (nc : CondNo cond) (nb : BodyNo body) {s : D.St} (h : s = none) : nxtV D cond body s none = none := by
 subst h
 unfold nxtV
 rw [nc, nb]; rfl
theorem anW_point {K : Rk D} {P : Pol} {cond : CondF D} {body : BodyF D} (hc : CondWf K cond) (hb : BodyWf K body) (p : Int) {e : D.Env} (he : ∀ k, K.wf (e k)) : ∃ s', Tel.point p s' ∈ (anW D P cond body p (some e)).1 := by
 unfold anW
 cases hn : P.unroll with
 | zero =>
  obtain ⟨g, hg, _⟩ := (allV_some (P := P) hc hb he).2 e rfl
  refine ⟨g, ?_⟩
  simp only [unrF, List.nil_append]
  rw [hg]
  simp [telP]
 | succ n =>
  refine ⟨e, ?_⟩
  simp [unrF, telP]
structure UnTo (K : Rk D) (cond : CondF D) (body : BodyF D) (p : Int) (U : List (Tel D.V) × D.St × D.St) (m : Nat) (ej : List (Tel D.V)) (oj sj : D.St) : Prop where
 eq : U = (ej ++ (unrF D cond body p m oj sj).1, (unrF D cond body p m oj sj).2)
 wo : Wf K oj
 ws : Wf K sj
theorem UnTo.start {K : Rk D} (cond : CondF D) (body : BodyF D) (p : Int) (m : Nat) {s : D.St} (hs : Wf K s) : UnTo K cond body p (unrF D cond body p m none s) m [] none s := ⟨rfl, wf_none, hs⟩
theorem UnTo.end {K : Rk D} {cond : CondF D} {body : BodyF D} {p : Int} {U : List (Tel D.V) × D.St × D.St} {ej : List (Tel D.V)} {oj sj : D.St} (h : UnTo K cond body p U 0 ej oj sj) : U = (ej, oj, sj) := by
 rw [h.eq]
 simp [unrF]
theorem UnTo.parts {K : Rk D} {cond : CondF D} {body : BodyF D} {p : Int} {U : List (Tel D.V) × D.St × D.St} {m : Nat} {ej : List (Tel D.V)} {oj sj : D.St} (h : UnTo K cond body p U (m + 1) ej oj sj) :
  ∃ more, U.1 = ej ++ telP D p sj ++ (cond sj).1 ++ (body (cond sj).2.1).1 ++ more := by
 rw [h.eq]
 exact ⟨(unrF D cond body p m (jn D oj (cond sj).2.2) (body (cond sj).2.1).2).1, by simp [unrF]⟩
theorem UnTo.on {K : Rk D} {cond : CondF D} {body : BodyF D} (hc : CondWf K cond) (hb : BodyWf K body) {p : Int} {U : List (Tel D.V) × D.St × D.St} {m : Nat} {ej : List (Tel D.V)} {oj sj : D.St} (h : UnTo K cond body p U (m + 1) ej oj sj) :
  UnTo K cond body p U m (ej ++ telP D p sj ++ (cond sj).1 ++ (body (cond sj).2.1).1) (jn D oj (cond sj).2.2) (body (cond sj).2.1).2 := by
 refine ⟨?_, wf_jn h.wo (hc _ h.ws).2, hb _ (hc _ h.ws).1⟩
 rw [h.eq]
 simp [unrF]
end
end Sp
end Go.Proofs.YtiopfihjmkfdmaaGreatDoor
namespace Go.Proofs.YtiopfihjmkfdmaaGreatDoor
namespace Sp
def NoLoop : Bl → Prop
 | .nil => True
 | .assign _ _ t => NoLoop t
 | .read _ t => NoLoop t
 | .assert _ _ _ t => NoLoop t
 | .ite _ _ _ xs _ ys t => NoLoop xs ∧ NoLoop ys ∧ NoLoop t
 | .loop _ _ _ _ _ => False
abbrev Dom.wide (D : Dom) (w : D.V → D.V → D.V) : Dom := { D with widen := w }
theorem anS_wide (D : Dom) (w : D.V → D.V → D.V) : ∀ (x : Sm) (ct : Ct) (e : D.Env), anS (D.wide w) x ct e = anS D x ct e
 | .num _, _, _ => rfl
 | .name _, _, _ => rfl
 | .neg x, ct, e => by
  have h := anS_wide D w x ct e
  simp only [anS]
  rw [h]
 | .bin k x y, ct, e => by
  have h1 := anS_wide D w x ct e
  have h2 := anS_wide D w y (if 3 ≤ k then siteUp (cS x ct) else cS x ct) e
  simp only [anS]
  rw [h1, h2]
  generalize anS D x ct e = r1
  generalize anS D y (if 3 ≤ k then siteUp (cS x ct) else cS x ct) e = r2
  obtain ⟨e1, _ | a⟩ := r1
  ·rfl
  ·obtain ⟨e2, _ | b⟩ := r2
   ·rfl
   ·rfl
theorem jn_wide (D : Dom) (w : D.V → D.V → D.V) (s t : D.St) : jn (D.wide w) s t = jn D s t := by
 cases s with
 | none => rfl
 | some s =>
  cases t with
  | none => rfl
  | some t => rfl
theorem bndV_wide (D : Dom) (w : D.V → D.V → D.V) (x : Sm) (r : Nat) (a : D.V) (s : D.St) : bndV (D.wide w) x r a s = bndV D x r a s := by
 cases s with
 | none => rfl
 | some s =>
  cases x with
  | name k =>
   generalize hq : D.bound r (getV D s k) a = q
   have hq' : (D.wide w).bound r (getV (D.wide w) s k) a = q := hq
   simp only [bndV]
   rw [hq', hq]
   cases q with
   | none => rfl
   | some v => rfl
  | num n => rfl
  | neg x => rfl
  | bin k x y => rfl
theorem behindV_wide (D : Dom) (w : D.V → D.V → D.V) (r : Nat) (x y : Sm) (a b : D.V) (s : D.Env) : behindV (D.wide w) r x y a b s = behindV D r x y a b s := by
 unfold behindV
 rw [bndV_wide D w y, bndV_wide D w x]
theorem anC_wide (D : Dom) (w : D.V → D.V → D.V) (k : Nat) (x y : Sm) (ct : Ct) (s : D.St) : anC (D.wide w) k x y ct s = anC D k x y ct s := by
 cases s with
 | none => rfl
 | some e =>
  simp only [anC]
  rw [anS_wide D w x ct e, anS_wide D w y (cS x ct) e]
  generalize anS D x ct e = r1
  generalize anS D y (cS x ct) e = r2
  obtain ⟨e1, _ | a⟩ := r1
  ·rfl
  ·obtain ⟨e2, _ | b⟩ := r2
   ·rfl
   ·show (e1 ++ e2, behindV (D.wide w) k x y a b e, behindV (D.wide w) (opp k) x y a b e) = (e1 ++ e2, behindV D k x y a b e, behindV D (opp k) x y a b e)
    rw [behindV_wide D w k, behindV_wide D w (opp k)]
theorem stAssign_wide (D : Dom) (w : D.V → D.V → D.V) (k : Nat) (x : Sm) (ct : Ct) (e : D.Env) : stAssign (D.wide w) k x ct e = stAssign D k x ct e := by
 unfold stAssign
 rw [anS_wide D w x ct e]
 rfl
theorem stAssert_wide (D : Dom) (w : D.V → D.V → D.V) (q : Int) (k : Nat) (x y : Sm) (ct : Ct) (e : D.Env) : stAssert (D.wide w) q k x y ct e = stAssert D q k x y ct e := by
 unfold stAssert
 rw [anC_wide D w k x y ct (some e)]
theorem stP_wide (D : Dom) (w : D.V → D.V → D.V) (p : Int) {f g : D.Env → Res D} (h : ∀ e, f e = g e) (s : D.St) : stP (D.wide w) p f s = stP D p g s := by
 cases s with
 | none => rfl
 | some e =>
  simp only [stP]
  rw [h e]
theorem thenR_wide (D : Dom) (w : D.V → D.V → D.V) {r r' : Res D} {f g : D.St → Res D} (hr : r = r') (h : ∀ s, f s = g s) : thenR (D.wide w) r f = thenR D r' g := by
 subst hr
 simp only [thenR]
 rw [h r.2]
theorem stIf_wide (D : Dom) (w : D.V → D.V → D.V) {c c' : D.St → List (Tel D.V) × D.St × D.St} {f f' g g' : D.St → Res D} (hc : ∀ s, c s = c' s) (hf : ∀ s, f s = f' s) (hg : ∀ s, g s = g' s) (e : D.Env) : stIf (D.wide w) c f g e = stIf D c' f' g' e := by
 simp only [stIf]
 rw [hc (some e), hf, hg, jn_wide]
theorem anB_wide (D : Dom) (w : D.V → D.V → D.V) (P P' : Pol) : ∀ (t : Bl) (_ : NoLoop t) (ct : Ct) (s : D.St), anB (D.wide w) P t ct s = anB D P' t ct s
 | .nil, _, _, _ => rfl
 | .assign k x t, h, ct, s => by
  simp only [anB]
  exact thenR_wide D w (stP_wide D w _ (stAssign_wide D w k x _) s) (anB_wide D w P P' t h _)
 | .read k t, h, ct, s => by
  simp only [anB]
  exact thenR_wide D w (stP_wide D w _ (fun _ => rfl) s) (anB_wide D w P P' t h _)
 | .assert k x y t, h, ct, s => by
  simp only [anB]
  exact thenR_wide D w (stP_wide D w _ (stAssert_wide D w _ k x y _) s) (anB_wide D w P P' t h _)
 | .ite k x y xs true ys t, h, ct, s => by
  simp only [anB]
  exact thenR_wide D w (stP_wide D w _ (stIf_wide D w (anC_wide D w k x y _) (anB_wide D w P P' xs h.1 _) (anB_wide D w P P' ys h.2.1 _)) s) (anB_wide D w P P' t h.2.2 _)
 | .ite k x y xs false ys t, h, ct, s => by
  simp only [anB]
  exact thenR_wide D w (stP_wide D w _ (stIf_wide D w (anC_wide D w k x y _) (anB_wide D w P P' xs h.1 _) (fun _ => rfl)) s) (anB_wide D w P P' t h.2.2 _)
 | .loop k x y xs t, h, ct, s => h.elim
theorem telP_wide (D : Dom) (w : D.V → D.V → D.V) (p : Int) (s : D.St) : telP (D.wide w) p s = telP D p s := by
 cases s with
 | none => rfl
 | some e => rfl
theorem tell1_wide (D : Dom) (w : D.V → D.V → D.V) (F : Found D) (x : Tel D.V) : tell1 (D.wide w) F x = tell1 D F x := by
 cases x with
 | point p s =>
  show (F.1.modify p.toNat (fun f => jn (D.wide w) f (some s)), F.2) = (F.1.modify p.toNat (fun f => jn D f (some s)), F.2)
  have : (fun f => jn (D.wide w) f (some s)) = (fun f => jn D f (some s)) := funext fun f => jn_wide D w f (some s)
  rw [this]
 | site q b => rfl
theorem tell_wide (D : Dom) (w : D.V → D.V → D.V) : ∀ (es : List (Tel D.V)) (F : Found D), tell (D.wide w) F es = tell D F es
 | [], _ => rfl
 | x :: es, F => by
  have h := tell_wide D w es (tell1 D F x)
  show tell (D.wide w) (tell1 (D.wide w) F x) es = tell D (tell1 D F x) es
  rw [tell1_wide]
  exact h
theorem reportOf_wide (D : Dom) (w : D.V → D.V → D.V) (P P' : Pol) (t : Bl) (h : NoLoop t) : reportOf (D.wide w) P t = reportOf D P' t := by
 have h1 := anB_wide D w P P' t h (0, 0) (some fun _ => D.num 0)
 show tell (D.wide w) _ ((anB (D.wide w) P t (0, 0) (some fun _ => D.num 0)).1 ++ telP (D.wide w) (cB t (0, 0)).1 (anB (D.wide w) P t (0, 0) (some fun _ => D.num 0)).2) = tell D _ ((anB D P' t (0, 0) (some fun _ => D.num 0)).1 ++ telP D (cB t (0, 0)).1 (anB D P' t (0, 0) (some fun _ => D.num 0)).2)
 rw [h1, telP_wide, tell_wide]
theorem straight (s s' : List Int) (P P' : Pol) (t : Bl) (h : NoLoop t) : (show List (Option (Fin 8 → Iv)) × List Nat from reportOf (ivDom s) P t) = (show List (Option (Fin 8 → Iv)) × List Nat from reportOf (ivDom s') P' t) :=
 reportOf_wide (ivDom s') (ivWiden s) P P' t h
end Sp
end Go.Proofs.YtiopfihjmkfdmaaGreatDoor
namespace Go.Proofs.YtiopfihjmkfdmaaGreatDoor
namespace Sp
def HasW (w s : Bs) : Prop := ∃ a b, s = a ++ w ++ b
theorem HasW.suf {w l s : Bs} (h : HasW w l) (hl : l <:+ s) : HasW w s := by
 obtain ⟨a, b, rfl⟩ := h
 obtain ⟨c, rfl⟩ := hl
 exact ⟨c ++ a, b, by simp⟩
theorem hasW_tok {w l : Bs} (h : tok l = w) : HasW w l := ⟨[], l.drop (tokLen l), by rw [← h]; unfold tok; simp⟩
section
variable {A : Alg}
theorem pChain_suf {lv : Nat} {u : Bs → R A.S} (hu : ∀ l x l', u l = .ok (x, l') → l' <:+ l) : ∀ m (x : A.S) l (y : A.S) l', pChain A lv u m x l = .ok (y, l') → l' <:+ l := by
 intro m
 induction m with
 | zero => intro x l y l' h; cases h; exact List.suffix_refl _
 | succ m ih =>
  intro x l y l' h
  rw [pChain_succ A lv u m x l] at h
  split at h
  ·split at h
   ·split at h
    ·next z l1 hz => exact ((ih _ _ _ _ h).trans (hu _ _ _ hz)).trans (next_suffix l)
    ·cases h
   ·cases h; exact List.suffix_refl _
  ·cases h; exact List.suffix_refl _
theorem pWith_suf {lv : Nat} {u : Bs → R A.S} (hu : ∀ l x l', u l = .ok (x, l') → l' <:+ l) : ∀ l x l', pWith A lv u l = .ok (x, l') → l' <:+ l := by
 intro l x l' h
 unfold pWith at h
 split at h
 ·next y l1 hy => exact (pChain_suf hu _ _ _ _ _ h).trans (hu _ _ _ hy)
 ·cases h
theorem pSum_suf {u : Bs → R A.S} (hu : ∀ l x l', u l = .ok (x, l') → l' <:+ l) : ∀ l x l', pSum A u l = .ok (x, l') → l' <:+ l := pWith_suf (pWith_suf hu)
theorem pUnary_suf : ∀ n o l (x : A.S) l', pUnary A n o l = .ok (x, l') → l' <:+ l := by
 intro n
 induction n with
 | zero => intro o l x l' h; cases h
 | succ n ih =>
  intro o l x l' h
  unfold pUnary at h
  split at h
  ·split at h
   ·cases h; exact next_suffix l
   ·cases h
  ·split at h
   ·split at h
    ·next k l1 hk =>
     obtain ⟨_, h6⟩ := pName_ok_iff hk
     cases h
     rw [h6]; exact next_suffix l
    ·cases h
   ·split at h
    ·split at h
     ·next l1 he =>
      obtain ⟨_, _, rfl⟩ := enter_ok_iff he
      split at h
      ·next y l2 hy => cases h; exact (ih _ _ _ _ hy).trans (next_suffix l)
      ·cases h
     ·cases h
    ·split at h
     ·next l1 he =>
      obtain ⟨_, _, rfl⟩ := enter_ok_iff he
      split at h
      ·next y l2 hy =>
       split at h
       ·next l3 ht3 =>
        obtain ⟨_, rfl⟩ := take_ok_iff ht3
        cases h
        exact ((next_suffix l2).trans (pSum_suf (ih _) _ _ _ hy)).trans (next_suffix l)
       ·cases h
      ·cases h
     ·cases h
theorem pS_suf {o : Nat} {l : Bs} {x : A.S} {l' : Bs} (h : pS A o l = .ok (x, l')) : l' <:+ l := pSum_suf (pUnary_suf _ _) _ _ _ h
theorem pCond_suf {o : Nat} {l : Bs} {c : Nat × A.S × A.S} {l' : Bs} (h : pCond A o l = .ok (c, l')) : l' <:+ l := by
 unfold pCond at h
 split at h
 ·next x1 l1 hx =>
  split at h
  ·split at h
   ·next y1 l2 hy => cases h; exact ((pS_suf hy).trans (next_suffix l1)).trans (pS_suf hx)
   ·cases h
  ·cases h
 ·cases h
structure Bars (A : Alg) (src : Bs) (Q : A.T → Prop) : Prop where
 assign : ∀ k x, Q (A.assign k x)
 read : HasW wRead src → ∀ k, Q (A.read k)
 assert : ∀ k x y, Q (A.assert k x y)
 ite : ∀ k x y xs, (∀ z ∈ xs, Q z) → Q (A.ite k x y xs none)
 iteElse : ∀ k x y xs ys, (∀ z ∈ xs, Q z) → (∀ z ∈ ys, Q z) → Q (A.ite k x y xs (some ys))
 loop : HasW wWhile src → ∀ k x y xs, (∀ z ∈ xs, Q z) → Q (A.loop k x y xs)
variable {src : Bs} {Q : A.T → Prop}
def BarsR (src : Bs) (Q : A.T → Prop) (st : Bs → R A.T) : Prop := ∀ l x l', l <:+ src → st l = .ok (x, l') → l' <:+ l ∧ Q x
theorem pMany_bar {st : Bs → R A.T} (hs : BarsR src Q st) : ∀ m (acc : List A.T) l ys l', l <:+ src → (∀ z ∈ acc, Q z) → pMany A st m acc l = .ok (ys, l') → l' <:+ l ∧ ∀ z ∈ ys, Q z := by
 intro m
 induction m with
 | zero => intro acc l ys l' _ ha h; cases h; exact ⟨List.suffix_refl _, ha⟩
 | succ m ih =>
  intro acc l ys l' hl ha h
  rw [pMany_succ A st m acc l] at h
  split at h
  ·split at h
   ·next x l1 hx =>
    obtain ⟨h1, h2⟩ := hs _ _ _ hl hx
    obtain ⟨h3, h4⟩ := ih _ _ _ _ (h1.trans hl) (fun z hz => by
     rcases List.mem_append.1 hz with hz | hz
     ·exact ha z hz
     ·rw [List.mem_singleton.1 hz]; exact h2) h
    exact ⟨h3.trans h1, h4⟩
   ·cases h
  ·cases h; exact ⟨List.suffix_refl _, ha⟩
theorem pBlock_bar {st : Bs → R A.T} (hs : BarsR src Q st) {o : Nat} {l : Bs} {xs : List A.T} {l' : Bs} (hl : l <:+ src) (h : pBlock A st o l = .ok (xs, l')) : l' <:+ l ∧ ∀ z ∈ xs, Q z := by
 unfold pBlock at h
 split at h
 ·next l1 he =>
  obtain ⟨_, _, rfl⟩ := enter_ok_iff he
  split at h
  ·next ys l2 hm =>
   obtain ⟨h1, h2⟩ := pMany_bar hs _ [] _ _ _ ((next_suffix l).trans hl) (fun z hz => by cases hz) hm
   split at h
   ·next l3 ht3 =>
    obtain ⟨_, rfl⟩ := take_ok_iff ht3
    cases h
    exact ⟨((next_suffix l2).trans h1).trans (next_suffix l), h2⟩
   ·cases h
  ·cases h
 ·cases h
theorem pStmt_bar (H : Bars A src Q) : ∀ n o, BarsR src Q (pStmt A n o) := by
 intro n
 induction n with
 | zero => intro o l x l' _ h; cases h
 | succ n ih =>
  intro o l x l' hl h
  have hn : next l <:+ src := (next_suffix l).trans hl
  unfold pStmt at h
  split at h
  ·next ht =>
   unfold pRead at h
   split at h
   ·next k l1 hk =>
    obtain ⟨h5, rfl⟩ := pName_ok_iff hk
    split at h
    ·next l2 h2 =>
     obtain ⟨_, rfl⟩ := take_ok_iff h2
     cases h
     exact ⟨((next_suffix _).trans (next_suffix _)).trans (next_suffix l), H.read ((hasW_tok ht).suf hl) k⟩
    ·cases h
   ·cases h
  ·split at h
   ·unfold pAssert at h
    split at h
    ·next k x1 y1 l1 hc =>
     split at h
     ·next l2 h6 =>
      obtain ⟨_, rfl⟩ := take_ok_iff h6
      cases h
      exact ⟨((next_suffix _).trans (pCond_suf hc)).trans (next_suffix l), H.assert _ _ _⟩
     ·cases h
    ·cases h
   ·split at h
    ·unfold pIf at h
     split at h
     ·next k x1 y1 l1 hc =>
      have s1 := pCond_suf hc
      split at h
      ·next xs l2 hb =>
       obtain ⟨h6, h7⟩ := pBlock_bar (ih _) (s1.trans hn) hb
       split at h
       ·split at h
        ·next ys l3 hb2 =>
         obtain ⟨h8, h9⟩ := pBlock_bar (ih _) (((next_suffix l2).trans h6).trans (s1.trans hn)) hb2
         cases h
         exact ⟨((h8.trans (next_suffix l2)).trans h6).trans (s1.trans (next_suffix l)), H.iteElse _ _ _ _ _ h7 h9⟩
        ·cases h
       ·cases h; exact ⟨h6.trans (s1.trans (next_suffix l)), H.ite _ _ _ _ h7⟩
      ·cases h
     ·cases h
    ·split at h
     ·next ht =>
      unfold pWhile at h
      split at h
      ·next k x1 y1 l1 hc =>
       have s1 := pCond_suf hc
       split at h
       ·next xs l2 hb =>
        obtain ⟨h6, h7⟩ := pBlock_bar (ih _) (s1.trans hn) hb
        cases h
        exact ⟨h6.trans (s1.trans (next_suffix l)), H.loop ((hasW_tok ht).suf hl) _ _ _ _ h7⟩
       ·cases h
      ·cases h
     ·unfold pAssign at h
      split at h
      ·next k l1 hk =>
       obtain ⟨h5, rfl⟩ := pName_ok_iff hk
       split at h
       ·next l2 h2 =>
        obtain ⟨_, rfl⟩ := take_ok_iff h2
        split at h
        ·next x1 l3 hx =>
         split at h
         ·next l4 h10 =>
          obtain ⟨_, rfl⟩ := take_ok_iff h10
          cases h
          exact ⟨(((next_suffix _).trans (pS_suf hx)).trans (next_suffix _)).trans (next_suffix l), H.assign _ _⟩
         ·cases h
        ·cases h
       ·cases h
      ·cases h
theorem parse_bar (H : Bars A src Q) {xs : List A.T} (h : parse A src = .ok xs) : ∀ z ∈ xs, Q z := by
 unfold parse at h
 split at h
 ·cases h
 ·split at h
  ·next ys hp =>
   cases h
   unfold pProg at hp
   split at hp
   ·next zs l1 hm =>
    split at hp
    ·cases hp
     exact (pMany_bar (pStmt_bar H _ _) _ [] _ _ _ (skip_suffix src) (fun z hz => by cases hz) hm).2
    ·cases hp
   ·cases hp
  ·cases h
end
theorem joinB_all {Q : Bl → Prop} (h0 : Q .nil) : ∀ (fs : List (Bl → Bl)), (∀ f ∈ fs, ∀ t, Q t → Q (f t)) → Q (joinB fs)
 | [], _ => h0
 | f :: fs, h => h f (List.mem_cons_self ..) _ (joinB_all h0 fs fun g hg => h g (List.mem_cons_of_mem _ hg))
theorem tree_noLoop {src : Bs} {t : Bl} (h : tree src = .ok t) (hw : ¬ HasW wWhile src) : NoLoop t := by
 unfold tree at h
 split at h
 ·next fs hp =>
  cases h
  refine joinB_all (Q := NoLoop) trivial fs ?_
  refine parse_bar (A := Tr) (Q := fun f => ∀ t, NoLoop t → NoLoop (f t)) ⟨fun _ _ _ h => h, fun _ _ _ h => h, fun _ _ _ _ h => h, fun k x y xs hx t ht => ?_, fun k x y xs ys hx hy t ht => ?_, fun hh => absurd hh hw⟩ hp
  ·exact ⟨joinB_all (Q := NoLoop) trivial xs hx, trivial, ht⟩
  ·exact ⟨joinB_all (Q := NoLoop) trivial xs hx, joinB_all (Q := NoLoop) trivial ys hy, ht⟩
 ·cases h
end Sp
end Go.Proofs.YtiopfihjmkfdmaaGreatDoor
