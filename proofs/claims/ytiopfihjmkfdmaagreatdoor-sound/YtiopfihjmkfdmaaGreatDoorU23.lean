import Derived.Test.YtiopfihjmkfdmaaGreatDoorU9
namespace Go.Proofs.YtiopfihjmkfdmaaGreatDoor
namespace Sp
def I16 (n : Int) : Prop := -32768 ≤ n ∧ n ≤ 32767
structure Rk (D : Dom) where
 wf : D.V → Prop
 rk : D.V → Nat
 top : Nat
 le : ∀ x, wf x → rk x ≤ top
 wnum : ∀ n, I16 n → wf (D.num n)
 wwhole : wf D.whole
 wneg : ∀ x, wf x → wf (D.neg x)
 wwork : ∀ k x y v, wf x → wf y → D.work k x y = some v → wf v
 wjoin : ∀ x y, wf x → wf y → wf (D.join x y)
 wbound : ∀ r x y v, wf x → wf y → D.bound r x y = some v → wf v
 wwiden : ∀ x y, wf x → wf y → wf (D.widen x y)
 sub : D.V → D.V → Prop
 sub_refl : ∀ x, sub x x
 sub_trans : ∀ x y z, sub x y → sub y z → sub x z
 sub_joinl : ∀ x y, sub x (D.join x y)
 sub_joinr : ∀ x y, sub y (D.join x y)
 sub_narrow : ∀ x y z, sub z x → sub z y → sub z (D.narrow x y)
 wnarrow : ∀ x y z, wf x → wf y → wf z → sub z x → sub z y → wf (D.narrow x y)
 join_lt : ∀ x y, wf x → wf y → D.join x y ≠ x → rk x < rk (D.join x y)
 widen_le : ∀ x y, wf x → wf y → rk (D.join x y) ≤ rk (D.widen x (D.join x y))
 fuel : 8 * top < D.fuel
section
variable {D : Dom} (K : Rk D)
def Wf (s : D.St) : Prop := ∀ e, s = some e → ∀ k, K.wf (e k)
variable {K}
theorem wf_none : Wf K none := fun _ h => by cases h
theorem Wf.some {e : D.Env} (h : ∀ k, K.wf (e k)) : Wf K (some e) := fun e' h' => by cases h'; exact h
theorem wf_get {e : D.Env} (h : ∀ k, K.wf (e k)) (k : Nat) : K.wf (getV D e k) := by
 unfold getV
 split
 ·exact h _
 ·exact K.wwhole
theorem wf_set {e : D.Env} (h : ∀ k, K.wf (e k)) (k : Nat) {v : D.V} (hv : K.wf v) : ∀ j, K.wf (setV D e k v j) := by
 intro j
 unfold setV
 split
 ·exact hv
 ·exact h j
theorem wf_jn {s t : D.St} (hs : Wf K s) (ht : Wf K t) : Wf K (jn D s t) := by
 cases s with
 | none => exact ht
 | some s =>
  cases t with
  | none => exact hs
  | some t => exact Wf.some fun k => K.wjoin _ _ (hs _ rfl k) (ht _ rfl k)
def OkS (x : Sm) : Prop := ∀ n ∈ nuS x, I16 n
def OkB (t : Bl) : Prop := ∀ n ∈ nuB t, I16 n
theorem anS_wf : ∀ (x : Sm) (_ : OkS x) (ct : Ct) (e : D.Env) (_ : ∀ k, K.wf (e k)) (v : D.V), (anS D x ct e).2 = some v → K.wf v
 | .num n, hn, _, _, _, v, h => by cases h; exact K.wnum _ (hn _ (by simp [nuS]))
 | .name k, _, _, e, he, v, h => by cases h; exact wf_get he k
 | .neg x, hn, ct, e, he, v, h => by
  have h' : (anS D x ct e).2.map D.neg = some v := h
  cases hx : (anS D x ct e).2 with
  | none => rw [hx] at h'; cases h'
  | some u =>
   rw [hx] at h'
   cases h'
   exact K.wneg _ (anS_wf x hn ct e he u hx)
 | .bin k x y, hn, ct, e, he, v, h => by
  unfold anS at h
  have hnx : OkS x := fun n h => hn n (by simp [nuS, h])
  have hny : OkS y := fun n h => hn n (by simp [nuS, h])
  split at h
  ·cases h
  ·next e1 a h1 =>
   split at h
   ·cases h
   ·next e2 b h2 =>
    exact K.wwork k a b v (anS_wf x hnx ct e he a (by rw [h1])) (anS_wf y hny _ e he b (by rw [h2])) h
theorem bndV_wf {side : Sm} {r : Nat} {other : D.V} {s : D.St} (hs : Wf K s) (ho : K.wf other) : Wf K (bndV D side r other s) := by
 cases s with
 | none => exact wf_none
 | some s =>
  unfold bndV
  simp only
  split
  ·split
   ·next v hv => exact Wf.some (wf_set (hs _ rfl) _ (K.wbound _ _ _ _ (wf_get (hs _ rfl) _) ho hv))
   ·exact wf_none
  ·exact hs
theorem behindV_wf {r : Nat} {x y : Sm} {a b : D.V} {e : D.Env} (he : ∀ k, K.wf (e k)) (ha : K.wf a) (hb : K.wf b) : Wf K (behindV D r x y a b e) := by
 unfold behindV
 split
 ·exact bndV_wf (bndV_wf (Wf.some he) hb) ha
 ·exact wf_none
theorem anC_wf {k : Nat} {x y : Sm} (hx : OkS x) (hy : OkS y) {ct : Ct} {s : D.St} (hs : Wf K s) : Wf K (anC D k x y ct s).2.1 ∧ Wf K (anC D k x y ct s).2.2 := by
 cases s with
 | none => exact ⟨wf_none, wf_none⟩
 | some e =>
  unfold anC
  simp only
  split
  ·exact ⟨wf_none, wf_none⟩
  ·next e1 a h1 =>
   split
   ·exact ⟨wf_none, wf_none⟩
   ·next e2 b h2 =>
    have ha := anS_wf x hx ct e (hs _ rfl) a (by rw [h1])
    have hb := anS_wf y hy _ e (hs _ rfl) b (by rw [h2])
    exact ⟨behindV_wf (hs _ rfl) ha hb, behindV_wf (hs _ rfl) ha hb⟩
abbrev CondF (D : Dom) := D.St → List (Tel D.V) × D.St × D.St
abbrev BodyF (D : Dom) := D.St → Res D
def CondWf (K : Rk D) (cond : CondF D) : Prop := ∀ s, Wf K s → Wf K (cond s).2.1 ∧ Wf K (cond s).2.2
def BodyWf (K : Rk D) (body : BodyF D) : Prop := ∀ s, Wf K s → Wf K (body s).2
theorem nxt_wf {cond : CondF D} {body : BodyF D} (hc : CondWf K cond) (hb : BodyWf K body) {s i : D.St} (hs : Wf K s) (hi : Wf K i) : Wf K (nxtV D cond body s i) := wf_jn hs (hb _ (hc _ hi).1)
theorem each_wf {f : D.V → D.V → D.V} (hf : ∀ x y, K.wf x → K.wf y → K.wf (f x y)) {s t : D.St} (hs : Wf K s) (ht : Wf K t) : Wf K (eachV D f s t) := by
 cases s with
 | none => exact wf_none
 | some s =>
  cases t with
  | none => exact wf_none
  | some t => exact Wf.some fun k => hf _ _ (hs _ rfl k) (ht _ rfl k)
theorem fixF_wf {next : D.St → D.St} (hn : ∀ i, Wf K i → Wf K (next i)) (d : Nat) : ∀ (f k : Nat) (i : D.St), Wf K i → Wf K (fixF D next d f k i)
 | 0, _, _, h => h
 | f + 1, k, i, h => by
  unfold fixF
  split
  ·exact h
  ·refine fixF_wf hn d f (k + 1) _ ?_
   split
   ·exact each_wf K.wwiden h (wf_jn h (hn _ h))
   ·exact wf_jn h (hn _ h)
def sumF : Nat → (Nat → Nat) → Nat
 | 0, _ => 0
 | n + 1, f => sumF n f + f n
theorem sumF_le {f g : Nat → Nat} : ∀ (n : Nat), (∀ k, k < n → f k ≤ g k) → sumF n f ≤ sumF n g
 | 0, _ => Nat.le_refl _
 | n + 1, h => by
  have := sumF_le n (fun k hk => h k (by omega))
  have := h n (by omega)
  show sumF n f + f n ≤ sumF n g + g n
  omega
theorem sumF_lt {f g : Nat → Nat} : ∀ (n : Nat), (∀ k, k < n → f k ≤ g k) → (∃ k, k < n ∧ f k < g k) → sumF n f < sumF n g
 | 0, _, ⟨_, h, _⟩ => absurd h (by omega)
 | n + 1, h, ⟨k, hk, hlt⟩ => by
  show sumF n f + f n < sumF n g + g n
  have h1 := h n (by omega)
  by_cases e : k = n
  ·subst e
   have := sumF_le k (fun k hk => h k (by omega))
   omega
  ·have := sumF_lt n (fun k hk => h k (by omega)) ⟨k, by omega, hlt⟩
   omega
theorem sumF_top {f : Nat → Nat} {m : Nat} : ∀ (n : Nat), (∀ k, k < n → f k ≤ m) → sumF n f ≤ n * m
 | 0, _ => Nat.zero_le _
 | n + 1, h => by
  have := sumF_top n (fun k hk => h k (by omega))
  have := h n (by omega)
  show sumF n f + f n ≤ (n + 1) * m
  rw [Nat.add_mul]
  omega
variable (K) in
def rkF (e : D.Env) (k : Nat) : Nat := if h : k < 8 then K.rk (e ⟨k, h⟩) else 0
variable (K) in
def rkE (e : D.Env) : Nat := sumF 8 (rkF K e)
theorem rkE_le {e : D.Env} (h : ∀ k, K.wf (e k)) : rkE K e ≤ 8 * K.top := by
 refine sumF_top 8 (fun k hk => ?_)
 unfold rkF
 rw [dif_pos hk]
 exact K.le _ (h _)
theorem rkE_lt {e g : D.Env} (h : ∀ k, K.rk (e k) ≤ K.rk (g k)) (hne : ∃ k, K.rk (e k) < K.rk (g k)) : rkE K e < rkE K g := by
 refine sumF_lt 8 (fun k hk => ?_) ?_
 ·unfold rkF
  rw [dif_pos hk, dif_pos hk]; exact h _
 ·obtain ⟨k, hk⟩ := hne
  exact ⟨k.val, k.isLt, by unfold rkF; rw [dif_pos k.isLt, dif_pos k.isLt]; exact hk⟩
theorem join_rise {e n : D.Env} (he : ∀ k, K.wf (e k)) (hn : ∀ k, K.wf (n k)) (hne : ¬ (fun k => D.join (e k) (n k)) = e) : ∀ g : D.Env, (∀ k, K.rk (D.join (e k) (n k)) ≤ K.rk (g k)) → rkE K e < rkE K g := by
 intro g hg
 have h1 : ∀ k, K.rk (e k) ≤ K.rk (D.join (e k) (n k)) := fun k => by
  have hd := D.dec (D.join (e k) (n k)) (e k)
  by_cases h : D.join (e k) (n k) = e k
  ·rw [h]; exact Nat.le_refl _
  ·exact Nat.le_of_lt (K.join_lt _ _ (he k) (hn k) h)
 refine rkE_lt (fun k => Nat.le_trans (h1 k) (hg k)) ?_
 refine Classical.byContradiction fun hno => hne (funext fun k => ?_)
 refine Classical.byContradiction fun h => hno ⟨k, Nat.lt_of_lt_of_le (K.join_lt _ _ (he k) (hn k) h) (hg k)⟩
def stepV (D : Dom) (next : D.St → D.St) (d k : Nat) (i : D.St) : D.St := if d < k then eachV D D.widen i (jn D i (next i)) else jn D i (next i)
theorem fixF_succ (D : Dom) (next : D.St → D.St) (d f k : Nat) (i : D.St) : fixF D next d (f + 1) k i = if eqS D (jn D i (next i)) i = true then i else fixF D next d f (k + 1) (stepV D next d k i) := rfl
theorem step_rise {next : D.St → D.St} {e : D.Env} (he : ∀ k, K.wf (e k)) (hn : Wf K (next (some e))) (d k : Nat) (hne : ¬ jn D (some e) (next (some e)) = some e) : ∃ g : D.Env, stepV D next d k (some e) = some g ∧ (∀ k, K.wf (g k)) ∧ rkE K e < rkE K g := by
 cases hx : next (some e) with
 | none => rw [hx] at hne; exact absurd rfl hne
 | some n =>
  rw [hx] at hne hn
  have hn := hn n rfl
  have hne' : ¬ (fun k => D.join (e k) (n k)) = e := fun h => hne (by show some _ = some e; rw [h])
  unfold stepV
  rw [hx]
  by_cases hk : d < k
  ·rw [if_pos hk]
   exact ⟨_, rfl, fun k => K.wwiden _ _ (he k) (K.wjoin _ _ (he k) (hn k)), join_rise he hn hne' _ (fun k => K.widen_le _ _ (he k) (hn k))⟩
  ·rw [if_neg hk]
   exact ⟨_, rfl, fun k => K.wjoin _ _ (he k) (hn k), join_rise he hn hne' _ (fun k => Nat.le_refl _)⟩
theorem fixF_fix {next : D.St → D.St} (hn : ∀ i, Wf K i → Wf K (next i)) (d : Nat) : ∀ (f k : Nat) (e : D.Env), (∀ k, K.wf (e k)) → 8 * K.top < rkE K e + f → ∃ g : D.Env, fixF D next d f k (some e) = some g ∧ jn D (some g) (next (some g)) = some g
 | 0, _, e, he, hf => by have := rkE_le he; omega
 | f + 1, k, e, he, hf => by
  rw [fixF_succ]
  by_cases h : eqS D (jn D (some e) (next (some e))) (some e) = true
  ·rw [if_pos h]
   exact ⟨e, rfl, (eqS_iff D _ _).1 h⟩
  ·rw [if_neg h]
   obtain ⟨g, h1, h2, h3⟩ := step_rise he (hn _ (Wf.some he)) d k (fun h' => h ((eqS_iff D _ _).2 h'))
   rw [h1]
   exact fixF_fix hn d f (k + 1) g h2 (by omega)
theorem fixF_none {next : D.St → D.St} (hn : next none = none) (d : Nat) : ∀ (f k : Nat), fixF D next d f k none = none
 | 0, _ => rfl
 | f + 1, k => by
  rw [fixF_succ, hn]
  exact if_pos rfl
variable (K) in
def subS (s i : D.St) : Prop := ∀ e, s = some e → ∃ g, i = some g ∧ ∀ k, K.sub (e k) (g k)
theorem subS_trans {s t u : D.St} (h : subS K s t) (k : subS K t u) : subS K s u := fun e he => by
 obtain ⟨g, hg, h1⟩ := h e he
 obtain ⟨q, hq, h2⟩ := k g hg
 exact ⟨q, hq, fun k => K.sub_trans _ _ _ (h1 k) (h2 k)⟩
theorem subS_l (s t : D.St) : subS K s (jn D s t) := fun e he => by
 subst he
 cases t with
 | none => exact ⟨e, rfl, fun _ => K.sub_refl _⟩
 | some t => exact ⟨_, rfl, fun _ => K.sub_joinl _ _⟩
theorem subS_r (s t : D.St) : subS K t (jn D s t) := fun e he => by
 subst he
 cases s with
 | none => exact ⟨e, rfl, fun _ => K.sub_refl _⟩
 | some s => exact ⟨_, rfl, fun _ => K.sub_joinr _ _⟩
theorem narrow_wf {e : D.Env} (we : ∀ k, K.wf (e k)) {i n : D.St} (wi : Wf K i) (wn : Wf K n) (hi : subS K (some e) i) (hn : subS K (some e) n) : Wf K (eachV D D.narrow i n) ∧ subS K (some e) (eachV D D.narrow i n) := by
 obtain ⟨g, rfl, h1⟩ := hi e rfl
 obtain ⟨q, rfl, h2⟩ := hn e rfl
 exact ⟨Wf.some fun k => K.wnarrow _ _ _ (wi _ rfl k) (wn _ rfl k) (we k) (h1 k) (h2 k), fun e' he' => by cases he'; exact ⟨_, rfl, fun k => K.sub_narrow _ _ _ (h1 k) (h2 k)⟩⟩
theorem narF_wf {cond : CondF D} {body : BodyF D} (hc : CondWf K cond) (hb : BodyWf K body) {e : D.Env} (we : ∀ k, K.wf (e k)) : ∀ (n : Nat) (i : D.St), Wf K i → subS K (some e) i → Wf K (narF D (nxtV D cond body (some e)) n i) ∧ subS K (some e) (narF D (nxtV D cond body (some e)) n i)
 | 0, _, h, k => ⟨h, k⟩
 | n + 1, i, h, k => by
  obtain ⟨h1, h2⟩ := narrow_wf we h (nxt_wf hc hb (Wf.some we) h) k (subS_l _ _)
  exact narF_wf hc hb we n _ h1 h2
theorem narF_none {next : D.St → D.St} : ∀ (n : Nat), narF D next n none = none
 | 0 => rfl
 | n + 1 => narF_none n
def CondNo (cond : CondF D) : Prop := cond none = ([], none, none)
def BodyNo (body : BodyF D) : Prop := body none = ([], none)
theorem allV_none {P : Pol} {cond : CondF D} {body : BodyF D} (hc : CondNo cond) (hb : BodyNo body) : allV D P cond body none = none := by
 unfold allV
 have hn : nxtV D cond body none none = none := by
  unfold nxtV
  rw [hc, hb]; rfl
 rw [fixF_none hn, narF_none]
theorem fix_sub {cond : CondF D} {body : BodyF D} {s i : D.St} (h : jn D i (nxtV D cond body s i) = i) : subS K s i := by
 have h1 := subS_trans (K := K) (subS_l s _) (subS_r i (nxtV D cond body s i))
 rwa [h] at h1
theorem allV_some {P : Pol} {cond : CondF D} {body : BodyF D} (hc : CondWf K cond) (hb : BodyWf K body) {e : D.Env} (we : ∀ k, K.wf (e k)) : Wf K (allV D P cond body (some e)) ∧ subS K (some e) (allV D P cond body (some e)) := by
 have hn : ∀ i, Wf K i → Wf K (nxtV D cond body (some e) i) := fun i hi => nxt_wf hc hb (Wf.some we) hi
 obtain ⟨i, h1, h2⟩ := fixF_fix hn P.delay D.fuel 1 e we (by have := K.fuel; omega)
 have wi := fixF_wf hn P.delay D.fuel 1 (some e) (Wf.some we)
 unfold allV
 rw [h1] at wi ⊢
 exact narF_wf hc hb we _ _ wi (fix_sub h2)
theorem allV_wf {P : Pol} {cond : CondF D} {body : BodyF D} (hc : CondWf K cond) (hb : BodyWf K body) (nc : CondNo cond) (nb : BodyNo body) {s : D.St} (hs : Wf K s) : Wf K (allV D P cond body s) := by
 cases s with
 | none => rw [allV_none nc nb]; exact wf_none
 | some e => exact (allV_some hc hb (hs _ rfl)).1
theorem unrF_wf {cond : CondF D} {body : BodyF D} (hc : CondWf K cond) (hb : BodyWf K body) (p : Int) : ∀ (n : Nat) (out s : D.St), Wf K out → Wf K s → Wf K (unrF D cond body p n out s).2.1 ∧ Wf K (unrF D cond body p n out s).2.2
 | 0, _, _, ho, hs => ⟨ho, hs⟩
 | n + 1, _, _, ho, hs => unrF_wf hc hb p n _ _ (wf_jn ho (hc _ hs).2) (hb _ (hc _ hs).1)
theorem anW_wf {P : Pol} {cond : CondF D} {body : BodyF D} (hc : CondWf K cond) (hb : BodyWf K body) (nc : CondNo cond) (nb : BodyNo body) (p : Int) {s : D.St} (hs : Wf K s) : Wf K (anW D P cond body p s).2 := by
 obtain ⟨h1, h2⟩ := unrF_wf hc hb p P.unroll none s wf_none hs
 exact wf_jn h1 (hc _ (allV_wf hc hb nc nb h2)).2
theorem stP_wf {p : Int} {f : D.Env → Res D} (hf : ∀ e, (∀ k, K.wf (e k)) → Wf K (f e).2) {s : D.St} (hs : Wf K s) : Wf K (stP D p f s).2 := by
 cases s with
 | none => exact wf_none
 | some e => exact hf e (hs _ rfl)
theorem anB_none (P : Pol) : ∀ (t : Bl) (ct : Ct), anB D P t ct none = ([], none)
 | .nil, _ => rfl
 | .assign k x t, ct => by
  show thenR D ([], none) (anB D P t _) = _
  unfold thenR; rw [anB_none P t]; rfl
 | .read k t, ct => by
  show thenR D ([], none) (anB D P t _) = _
  unfold thenR; rw [anB_none P t]; rfl
 | .assert k x y t, ct => by
  show thenR D ([], none) (anB D P t _) = _
  unfold thenR; rw [anB_none P t]; rfl
 | .ite k x y xs true ys t, ct => by
  show thenR D ([], none) (anB D P t _) = _
  unfold thenR; rw [anB_none P t]; rfl
 | .ite k x y xs false ys t, ct => by
  show thenR D ([], none) (anB D P t _) = _
  unfold thenR; rw [anB_none P t]; rfl
 | .loop k x y xs t, ct => by
  show thenR D ([], none) (anB D P t _) = _
  unfold thenR; rw [anB_none P t]; rfl
theorem anB_wf (P : Pol) : ∀ (t : Bl) (_ : OkB t) (ct : Ct) (s : D.St), Wf K s → Wf K (anB D P t ct s).2
 | .nil, _, _, _, hs => hs
 | .assign k x t, hn, ct, s, hs => anB_wf P t (fun n h => hn n (by simp [nuB, h])) _ _ (stP_wf (fun e he => by
   unfold stAssign
   intro e' h'
   cases hv : (anS D x (ptUp ct) e).2 with
   | none => simp [hv] at h'
   | some v =>
    simp [hv] at h'
    subst h'
    exact wf_set he k (anS_wf x (fun n h => hn n (by simp [nuB, h])) _ e he v hv)) hs)
 | .read k t, hn, ct, s, hs => anB_wf P t (fun n h => hn n (by simp [nuB, h])) _ _ (stP_wf (fun e he => Wf.some (wf_set he k K.wwhole)) hs)
 | .assert k x y t, hn, ct, s, hs => anB_wf P t (fun n h => hn n (by simp [nuB, h])) _ _ (stP_wf (fun e he => (anC_wf (fun n h => hn n (by simp [nuB, h])) (fun n h => hn n (by simp [nuB, h])) (Wf.some he)).1) hs)
 | .ite k x y xs true ys t, hn, ct, s, hs => anB_wf P t (fun n h => hn n (by simp [nuB, h])) _ _ (stP_wf (fun e he => by
   have hc := anC_wf (k := k) (ct := ptUp ct) (K := K) (x := x) (y := y) (fun n h => hn n (by simp [nuB, h])) (fun n h => hn n (by simp [nuB, h])) (Wf.some he)
   exact wf_jn (anB_wf P xs (fun n h => hn n (by simp [nuB, h])) _ _ hc.1) (anB_wf P ys (fun n h => hn n (by simp [nuB, h])) _ _ hc.2)) hs)
 | .ite k x y xs false ys t, hn, ct, s, hs => anB_wf P t (fun n h => hn n (by simp [nuB, h])) _ _ (stP_wf (fun e he => by
   have hc := anC_wf (k := k) (ct := ptUp ct) (K := K) (x := x) (y := y) (fun n h => hn n (by simp [nuB, h])) (fun n h => hn n (by simp [nuB, h])) (Wf.some he)
   exact wf_jn (anB_wf P xs (fun n h => hn n (by simp [nuB, h])) _ _ hc.1) hc.2) hs)
 | .loop k x y xs t, hn, ct, s, hs => anB_wf P t (fun n h => hn n (by simp [nuB, h])) _ _ (stP_wf (fun e he =>
   anW_wf (fun s hs => anC_wf (fun n h => hn n (by simp [nuB, h])) (fun n h => hn n (by simp [nuB, h])) hs) (fun s hs => anB_wf P xs (fun n h => hn n (by simp [nuB, h])) _ s hs) rfl (anB_none P xs _) _ (Wf.some he)) hs)
end
end Sp
end Go.Proofs.YtiopfihjmkfdmaaGreatDoor
namespace Go.Proofs.YtiopfihjmkfdmaaGreatDoor
namespace Sp
section
variable {D : Dom} (K : Rk D)
structure Ab : Prop where
 keep : ∀ x y, K.wf x → K.sub y x → D.join x y = x
def TelWf : Tel D.V → Prop
 | .point _ s => ∀ k, K.wf (s k)
 | .site _ _ => True
def TelsWf (es : List (Tel D.V)) : Prop := ∀ ev ∈ es, TelWf K ev
variable {K}
theorem TelsWf.left {es es' : List (Tel D.V)} (h : TelsWf K (es ++ es')) : TelsWf K es := fun ev hv => h ev (List.mem_append.2 (.inl hv))
theorem TelsWf.right {es es' : List (Tel D.V)} (h : TelsWf K (es ++ es')) : TelsWf K es' := fun ev hv => h ev (List.mem_append.2 (.inr hv))
theorem assign_wf' {k : Nat} {x : Sm} (hx : OkS x) (ct : Ct) (e : D.Env) (he : ∀ k, K.wf (e k)) : Wf K (stAssign D k x ct e).2 := by
 unfold stAssign
 intro e' h'
 cases hv : (anS D x ct e).2 with
 | none => rw [hv] at h'; cases h'
 | some v =>
  rw [hv] at h'
  cases h'
  exact wf_set he k (anS_wf x hx ct e he v hv)
theorem if_wf' {cond : CondF D} {f g : D.St → Res D} (hc : CondWf K cond) (hf : BodyWf K f) (hg : BodyWf K g) (e : D.Env) (he : ∀ k, K.wf (e k)) : Wf K (stIf D cond f g e).2 :=
 wf_jn (hf _ (hc _ (Wf.some he)).1) (hg _ (hc _ (Wf.some he)).2)
variable (K)
def WfF (F : Found D) : Prop := ∀ s ∈ F.1, Wf K s
def Told (F : Found D) : Tel D.V → Prop
 | .point p s => ∀ f, F.1[p.toNat]? = some f → subS K (some s) f
 | .site q bad => ∀ n, F.2[q.toNat]? = some n → (if bad then 2 else 1) ≤ n
def ToldAll (F : Found D) (es : List (Tel D.V)) : Prop := ∀ ev ∈ es, Told K F ev
variable {K}
theorem modify_get {α : Type} {l : List α} {p i : Nat} {f : α → α} {y : α} (h : (l.modify p f)[i]? = some y) : ∃ x, l[i]? = some x ∧ y = if p = i then f x else x := by
 rw [List.getElem?_modify] at h
 cases hx : l[i]? with
 | none => rw [hx] at h; simp at h
 | some x =>
  rw [hx] at h
  refine ⟨x, rfl, ?_⟩
  by_cases hp : p = i
  ·rw [if_pos hp]; simpa [hp] using h.symm
  ·rw [if_neg hp]; simpa [hp] using h.symm
theorem told_grow {F : Found D} {x : Tel D.V} (h : Told K F x) (y : Tel D.V) : Told K (tell1 D F y) x := by
 cases x with
 | point p s =>
  cases y with
  | site q b => exact h
  | point q t =>
   intro f hf
   obtain ⟨g, hg, rfl⟩ := modify_get hf
   split
   ·exact subS_trans (h g hg) (subS_l g _)
   ·exact h g hg
 | site q b =>
  cases y with
  | point p t => exact h
  | site q' b' =>
   intro n hn
   obtain ⟨m, hm, rfl⟩ := modify_get hn
   have := h m hm
   by_cases hq : q'.toNat = q.toNat
   ·rw [if_pos hq]; exact Nat.le_trans this (Nat.le_max_left _ _)
   ·rw [if_neg hq]; exact this
theorem told_grows {F : Found D} {x : Tel D.V} : ∀ (es : List (Tel D.V)) {F : Found D}, Told K F x → Told K (tell D F es) x
 | [], _, h => h
 | y :: es, _, h => told_grows (F := F) es (told_grow h y)
theorem ToldAll.grow {F : Found D} {es : List (Tel D.V)} (h : ToldAll K F es) (es' : List (Tel D.V)) : ToldAll K (tell D F es') es := fun ev hv => told_grows (F := F) es' (h ev hv)
theorem told_now (F : Found D) (x : Tel D.V) : Told K (tell1 D F x) x := by
 cases x with
 | point p s =>
  intro f hf
  obtain ⟨g, _, rfl⟩ := modify_get hf
  rw [if_pos rfl]
  exact subS_r g _
 | site q b =>
  intro n hn
  obtain ⟨m, _, rfl⟩ := modify_get hn
  rw [if_pos rfl]
  omega
theorem toldAll_now : ∀ (es : List (Tel D.V)) (F : Found D), ToldAll K (tell D F es) es
 | [], _ => fun _ h => by cases h
 | x :: es, F => fun ev hv => by
  rcases List.mem_cons.1 hv with rfl | hv
  ·exact told_grows (F := F) es (told_now F ev)
  ·exact toldAll_now es (tell1 D F x) ev hv
theorem jn_keep (A : Ab K) {f : D.St} {s : D.Env} (hf : Wf K f) (h : subS K (some s) f) : jn D f (some s) = f := by
 obtain ⟨g, rfl, hg⟩ := h s rfl
 show some (fun k => D.join (g k) (s k)) = some g
 congr 1
 funext k
 exact A.keep _ _ (hf _ rfl k) (hg k)
theorem tell1_keep (A : Ab K) {F : Found D} (hF : WfF K F) {x : Tel D.V} (h : Told K F x) : tell1 D F x = F := by
 obtain ⟨fs, ns⟩ := F
 cases x with
 | point p s =>
  show (fs.modify p.toNat (fun f => jn D f (some s)), ns) = (fs, ns)
  congr 1
  refine List.ext_getElem? fun i => ?_
  rw [List.getElem?_modify]
  cases hi : fs[i]? with
  | none => rfl
  | some f =>
   by_cases hp : p.toNat = i
   ·subst hp
    simp only [if_true, Option.map_eq_map, Option.map_some]
    rw [jn_keep A (hF f (List.mem_of_getElem? hi)) (h f hi)]
   ·simp [hp]
 | site q b =>
  show (fs, ns.modify q.toNat (fun n => max n (if b then 2 else 1))) = (fs, ns)
  congr 1
  refine List.ext_getElem? fun i => ?_
  rw [List.getElem?_modify]
  cases hi : ns[i]? with
  | none => rfl
  | some n =>
   by_cases hp : q.toNat = i
   ·subst hp
    have := h n hi
    simp only [if_true, Option.map_eq_map, Option.map_some]
    rw [Nat.max_eq_left this]
   ·simp [hp]
theorem tell_keep (A : Ab K) {F : Found D} (hF : WfF K F) : ∀ {es : List (Tel D.V)}, ToldAll K F es → tell D F es = F
 | [], _ => rfl
 | x :: es, h => by
  show tell D (tell1 D F x) es = F
  rw [tell1_keep A hF (h x (List.mem_cons_self ..))]
  exact tell_keep A hF fun ev hv => h ev (List.mem_cons_of_mem _ hv)
theorem wfF_tell1 {F : Found D} (hF : WfF K F) {x : Tel D.V} (h : TelWf K x) : WfF K (tell1 D F x) := by
 cases x with
 | site q b => exact hF
 | point p s =>
  intro f hf
  obtain ⟨i, hi⟩ := List.getElem?_of_mem hf
  obtain ⟨g, hg, rfl⟩ := modify_get hi
  have hw := hF g (List.mem_of_getElem? hg)
  split
  ·exact wf_jn hw (Wf.some h)
  ·exact hw
end
end Sp
end Go.Proofs.YtiopfihjmkfdmaaGreatDoor
namespace Go.Proofs.YtiopfihjmkfdmaaGreatDoor
namespace Sp
structure Cg where
 m : Nat
 r : Int
deriving DecidableEq
def cgMem (x : Cg) (n : Int) : Prop := if x.m = 0 then n = x.r else (n - x.r) % (x.m : Int) = 0
instance (x : Cg) (n : Int) : Decidable (cgMem x n) := by unfold cgMem; infer_instance
end Sp
end Go.Proofs.YtiopfihjmkfdmaaGreatDoor
