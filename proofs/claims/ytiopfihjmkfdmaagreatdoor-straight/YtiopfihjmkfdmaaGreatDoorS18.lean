import Derived.Test.YtiopfihjmkfdmaaGreatDoorS17
namespace Go.Proofs.YtiopfihjmkfdmaaGreatDoor
namespace Sp
def I16 (n : Int) : Prop := -32768 ≤ n ∧ n ≤ 32767
structure Rk (D : Dom) where
 wf : D.V → Prop
 rk : D.V → Nat
 top : Nat
 le : ∀ x, wf x → rk x ≤ top
 wnum : ∀ n, I16 n → wf (D.num n)
 wwhole : wf D.whole
 wneg : ∀ x, wf x → wf (D.neg x)
 wwork : ∀ k x y v, wf x → wf y → D.work k x y = some v → wf v
 wjoin : ∀ x y, wf x → wf y → wf (D.join x y)
 wbound : ∀ r x y v, wf x → wf y → D.bound r x y = some v → wf v
 wwiden : ∀ x y, wf x → wf y → wf (D.widen x y)
 sub : D.V → D.V → Prop
 sub_refl : ∀ x, sub x x
 sub_trans : ∀ x y z, sub x y → sub y z → sub x z
 sub_joinl : ∀ x y, sub x (D.join x y)
 sub_joinr : ∀ x y, sub y (D.join x y)
 sub_narrow : ∀ x y z, sub z x → sub z y → sub z (D.narrow x y)
 wnarrow : ∀ x y z, wf x → wf y → wf z → sub z x → sub z y → wf (D.narrow x y)
 join_lt : ∀ x y, wf x → wf y → D.join x y ≠ x → rk x < rk (D.join x y)
 widen_le : ∀ x y, wf x → wf y → rk (D.join x y) ≤ rk (D.widen x (D.join x y))
 fuel : 8 * top < D.fuel
section
variable {D : Dom} (K : Rk D)
def Wf (s : D.St) : Prop := ∀ e, s = some e → ∀ k, K.wf (e k)
variable {K}
theorem wf_none : Wf K none := fun _ h => by cases h
theorem Wf.some {e : D.Env} (h : ∀ k, K.wf (e k)) : Wf K (some e) := fun e' h' => by cases h'; exact h
theorem wf_get {e : D.Env} (h : ∀ k, K.wf (e k)) (k : Nat) : K.wf (getV D e k) := by
 unfold getV
 split
 ·exact h _
 ·exact K.wwhole
theorem wf_set {e : D.Env} (h : ∀ k, K.wf (e k)) (k : Nat) {v : D.V} (hv : K.wf v) : ∀ j, K.wf (setV D e k v j) := by
 intro j
 unfold setV
 split
 ·exact hv
 ·exact h j
theorem wf_jn {s t : D.St} (hs : Wf K s) (ht : Wf K t) : Wf K (jn D s t) := by
 cases s with
 | none => exact ht
 | some s =>
  cases t with
  | none => exact hs
  | some t => exact Wf.some fun k => K.wjoin _ _ (hs _ rfl k) (ht _ rfl k)
def OkS (x : Sm) : Prop := ∀ n ∈ nuS x, I16 n
def OkB (t : Bl) : Prop := ∀ n ∈ nuB t, I16 n
theorem anS_wf : ∀ (x : Sm) (_ : OkS x) (ct : Ct) (e : D.Env) (_ : ∀ k, K.wf (e k)) (v : D.V), (anS D x ct e).2 = some v → K.wf v
 | .num n, hn, _, _, _, v, h => by cases h; exact K.wnum _ (hn _ (by simp [nuS]))
 | .name k, _, _, e, he, v, h => by cases h; exact wf_get he k
 | .neg x, hn, ct, e, he, v, h => by
  have h' : (anS D x ct e).2.map D.neg = some v := h
  cases hx : (anS D x ct e).2 with
  | none => rw [hx] at h'; cases h'
  | some u =>
   rw [hx] at h'
   cases h'
   exact K.wneg _ (anS_wf x hn ct e he u hx)
 | .bin k x y, hn, ct, e, he, v, h => by
  unfold anS at h
  have hnx : OkS x := fun n h => hn n (by simp [nuS, h])
  have hny : OkS y := fun n h => hn n (by simp [nuS, h])
  split at h
  ·cases h
  ·next e1 a h1 =>
   split at h
   ·cases h
   ·next e2 b h2 =>
    exact K.wwork k a b v (anS_wf x hnx ct e he a (by rw [h1])) (anS_wf y hny _ e he b (by rw [h2])) h
theorem bndV_wf {side : Sm} {r : Nat} {other : D.V} {s : D.St} (hs : Wf K s) (ho : K.wf other) : Wf K (bndV D side r other s) := by
 cases s with
 | none => exact wf_none
 | some s =>
  unfold bndV
  simp only
  split
  ·split
   ·next v hv => exact Wf.some (wf_set (hs _ rfl) _ (K.wbound _ _ _ _ (wf_get (hs _ rfl) _) ho hv))
   ·exact wf_none
  ·exact hs
theorem behindV_wf {r : Nat} {x y : Sm} {a b : D.V} {e : D.Env} (he : ∀ k, K.wf (e k)) (ha : K.wf a) (hb : K.wf b) : Wf K (behindV D r x y a b e) := by
 unfold behindV
 split
 ·exact bndV_wf (bndV_wf (Wf.some he) hb) ha
 ·exact wf_none
theorem anC_wf {k : Nat} {x y : Sm} (hx : OkS x) (hy : OkS y) {ct : Ct} {s : D.St} (hs : Wf K s) : Wf K (anC D k x y ct s).2.1 ∧ Wf K (anC D k x y ct s).2.2 := by
 cases s with
 | none => exact ⟨wf_none, wf_none⟩
 | some e =>
  unfold anC
  simp only
  split
  ·exact ⟨wf_none, wf_none⟩
  ·next e1 a h1 =>
   split
   ·exact ⟨wf_none, wf_none⟩
   ·next e2 b h2 =>
    have ha := anS_wf x hx ct e (hs _ rfl) a (by rw [h1])
    have hb := anS_wf y hy _ e (hs _ rfl) b (by rw [h2])
    exact ⟨behindV_wf (hs _ rfl) ha hb, behindV_wf (hs _ rfl) ha hb⟩
abbrev CondF (D : Dom) := D.St → List (Tel D.V) × D.St × D.St
abbrev BodyF (D : Dom) := D.St → Res D
def CondWf (K : Rk D) (cond : CondF D) : Prop := ∀ s, Wf K s → Wf K (cond s).2.1 ∧ Wf K (cond s).2.2
def BodyWf (K : Rk D) (body : BodyF D) : Prop := ∀ s, Wf K s → Wf K (body s).2
theorem nxt_wf {cond : CondF D} {body : BodyF D} (hc : CondWf K cond) (hb : BodyWf K body) {s i : D.St} (hs : Wf K s) (hi : Wf K i) : Wf K (nxtV D cond body s i) := wf_jn hs (hb _ (hc _ hi).1)
theorem each_wf {f : D.V → D.V → D.V} (hf : ∀ x y, K.wf x → K.wf y → K.wf (f x y)) {s t : D.St} (hs : Wf K s) (ht : Wf K t) : Wf K (eachV D f s t) := by
 cases s with
 | none => exact wf_none
 | some s =>
  cases t with
  | none => exact wf_none
  | some t => exact Wf.some fun k => hf _ _ (hs _ rfl k) (ht _ rfl k)
theorem fixF_wf {next : D.St → D.St} (hn : ∀ i, Wf K i → Wf K (next i)) (d : Nat) : ∀ (f k : Nat) (i : D.St), Wf K i → Wf K (fixF D next d f k i)
 | 0, _, _, h => h
 | f + 1, k, i, h => by
  unfold fixF
  split
  ·exact h
  ·refine fixF_wf hn d f (k + 1) _ ?_
   split
   ·exact each_wf K.wwiden h (wf_jn h (hn _ h))
   ·exact wf_jn h (hn _ h)
def sumF : Nat → (Nat → Nat) → Nat
 | 0, _ => 0
 | n + 1, f => sumF n f + f n
theorem sumF_le {f g : Nat → Nat} : ∀ (n : Nat), (∀ k, k < n → f k ≤ g k) → sumF n f ≤ sumF n g
 | 0, _ => Nat.le_refl _
 | n + 1, h => by
  have := sumF_le n (fun k hk => h k (by omega))
  have := h n (by omega)
  show sumF n f + f n ≤ sumF n g + g n
  omega
theorem sumF_lt {f g : Nat → Nat} : ∀ (n : Nat), (∀ k, k < n → f k ≤ g k) → (∃ k, k < n ∧ f k < g k) → sumF n f < sumF n g
 | 0, _, ⟨_, h, _⟩ => absurd h (by omega)
 | n + 1, h, ⟨k, hk, hlt⟩ => by
  show sumF n f + f n < sumF n g + g n
  have h1 := h n (by omega)
  by_cases e : k = n
  ·subst e
   have := sumF_le k (fun k hk => h k (by omega))
   omega
  ·have := sumF_lt n (fun k hk => h k (by omega)) ⟨k, by omega, hlt⟩
   omega
theorem sumF_top {f : Nat → Nat} {m : Nat} : ∀ (n : Nat), (∀ k, k < n → f k ≤ m) → sumF n f ≤ n * m
 | 0, _ => Nat.zero_le _
 | n + 1, h => by
  have := sumF_top n (fun k hk => h k (by omega))
  have := h n (by omega)
  show sumF n f + f n ≤ (n + 1) * m
  rw [Nat.add_mul]
  omega
variable (K) in
def rkF (e : D.Env) (k : Nat) : Nat := if h : k < 8 then K.rk (e ⟨k, h⟩) else 0
variable (K) in
def rkE (e : D.Env) : Nat := sumF 8 (rkF K e)
theorem rkE_le {e : D.Env} (h : ∀ k, K.wf (e k)) : rkE K e ≤ 8 * K.top := by
 refine sumF_top 8 (fun k hk => ?_)
 unfold rkF
 rw [dif_pos hk]
 exact K.le _ (h _)
theorem rkE_lt {e g : D.Env} (h : ∀ k, K.rk (e k) ≤ K.rk (g k)) (hne : ∃ k, K.rk (e k) < K.rk (g k)) : rkE K e < rkE K g := by
 refine sumF_lt 8 (fun k hk => ?_) ?_
 ·unfold rkF
  rw [dif_pos hk, dif_pos hk]; exact h _
 ·obtain ⟨k, hk⟩ := hne
  exact ⟨k.val, k.isLt, by unfold rkF; rw [dif_pos k.isLt, dif_pos k.isLt]; exact hk⟩
theorem join_rise {e n : D.Env} (he : ∀ k, K.wf (e k)) (hn : ∀ k, K.wf (n k)) (hne : ¬ (fun k => D.join (e k) (n k)) = e) : ∀ g : D.Env, (∀ k, K.rk (D.join (e k) (n k)) ≤ K.rk (g k)) → rkE K e < rkE K g := by
 intro g hg
 have h1 : ∀ k, K.rk (e k) ≤ K.rk (D.join (e k) (n k)) := fun k => by
  have hd := D.dec (D.join (e k) (n k)) (e k)
  by_cases h : D.join (e k) (n k) = e k
  ·rw [h]; exact Nat.le_refl _
  ·exact Nat.le_of_lt (K.join_lt _ _ (he k) (hn k) h)
 refine rkE_lt (fun k => Nat.le_trans (h1 k) (hg k)) ?_
 refine Classical.byContradiction fun hno => hne (funext fun k => ?_)
 refine Classical.byContradiction fun h => hno ⟨k, Nat.lt_of_lt_of_le (K.join_lt _ _ (he k) (hn k) h) (hg k)⟩
def stepV (D : Dom) (next : D.St → D.St) (d k : Nat) (i : D.St) : D.St := if d < k then eachV D D.widen i (jn D i (next i)) else jn D i (next i)
theorem fixF_succ (D : Dom) (next : D.St → D.St) (d f k : Nat) (i : D.St) : fixF D next d (f + 1) k i = if eqS D (jn D i (next i)) i = true then i else fixF D next d f (k + 1) (stepV D next d k i) := rfl
theorem step_rise {next : D.St → D.St} {e : D.Env} (he : ∀ k, K.wf (e k)) (hn : Wf K (next (some e))) (d k : Nat) (hne : ¬ jn D (some e) (next (some e)) = some e) : ∃ g : D.Env, stepV D next d k (some e) = some g ∧ (∀ k, K.wf (g k)) ∧ rkE K e < rkE K g := by
 cases hx : next (some e) with
 | none => rw [hx] at hne; exact absurd rfl hne
 | some n =>
  rw [hx] at hne hn
  have hn := hn n rfl
  have hne' : ¬ (fun k => D.join (e k) (n k)) = e := fun h => hne (by show some _ = some e; rw [h])
  unfold stepV
  rw [hx]
  by_cases hk : d < k
  ·rw [if_pos hk]
   exact ⟨_, rfl, fun k => K.wwiden _ _ (he k) (K.wjoin _ _ (he k) (hn k)), join_rise he hn hne' _ (fun k => K.widen_le _ _ (he k) (hn k))⟩
  ·rw [if_neg hk]
   exact ⟨_, rfl, fun k => K.wjoin _ _ (he k) (hn k), join_rise he hn hne' _ (fun k => Nat.le_refl _)⟩
theorem fixF_fix {next : D.St → D.St} (hn : ∀ i, Wf K i → Wf K (next i)) (d : Nat) : ∀ (f k : Nat) (e : D.Env), (∀ k, K.wf (e k)) → 8 * K.top < rkE K e + f → ∃ g : D.Env, fixF D next d f k (some e) = some g ∧ jn D (some g) (next (some g)) = some g
 | 0, _, e, he, hf => by have := rkE_le he; omega
 | f + 1, k, e, he, hf => by
  rw [fixF_succ]
  by_cases h : eqS D (jn D (some e) (next (some e))) (some e) = true
  ·rw [if_pos h]
   exact ⟨e, rfl, (eqS_iff D _ _).1 h⟩
  ·rw [if_neg h]
   obtain ⟨g, h1, h2, h3⟩ := step_rise he (hn _ (Wf.some he)) d k (fun h' => h ((eqS_iff D _ _).2 h'))
   rw [h1]
   exact fixF_fix hn d f (k + 1) g h2 (by omega)
theorem fixF_none {next : D.St → D.St} (hn : next none = none) (d : Nat) : ∀ (f k : Nat), fixF D next d f k none = none
 | 0, _ => rfl
 | f + 1, k => by
  rw [fixF_succ, hn]
  exact if_pos rfl
variable (K) in
def subS (s i : D.St) : Prop := ∀ e, s = some e → ∃ g, i = some g ∧ ∀ k, K.sub (e k) (g k)
theorem subS_trans {s t u : D.St} (h : subS K s t) (k : subS K t u) : subS K s u := fun e he => by
 obtain ⟨g, hg, h1⟩ := h e he
 obtain ⟨q, hq, h2⟩ := k g hg
 exact ⟨q, hq, fun k => K.sub_trans _ _ _ (h1 k) (h2 k)⟩
theorem subS_l (s t : D.St) : subS K s (jn D s t) := fun e he => by
 subst he
 cases t with
 | none => exact ⟨e, rfl, fun _ => K.sub_refl _⟩
 | some t => exact ⟨_, rfl, fun _ => K.sub_joinl _ _⟩
theorem subS_r (s t : D.St) : subS K t (jn D s t) := fun e he => by
 subst he
 cases s with
 | none => exact ⟨e, rfl, fun _ => K.sub_refl _⟩
 | some s => exact ⟨_, rfl, fun _ => K.sub_joinr _ _⟩
theorem narrow_wf {e : D.Env} (we : ∀ k, K.wf (e k)) {i n : D.St} (wi : Wf K i) (wn : Wf K n) (hi : subS K (some e) i) (hn : subS K (some e) n) : Wf K (eachV D D.narrow i n) ∧ subS K (some e) (eachV D D.narrow i n) := by
 obtain ⟨g, rfl, h1⟩ := hi e rfl
 obtain ⟨q, rfl, h2⟩ := hn e rfl
 exact ⟨Wf.some fun k => K.wnarrow _ _ _ (wi _ rfl k) (wn _ rfl k) (we k) (h1 k) (h2 k), fun e' he' => by cases he'; exact ⟨_, rfl, fun k => K.sub_narrow _ _ _ (h1 k) (h2 k)⟩⟩
theorem narF_wf {cond : CondF D} {body : BodyF D} (hc : CondWf K cond) (hb : BodyWf K body) {e : D.Env} (we : ∀ k, K.wf (e k)) : ∀ (n : Nat) (i : D.St), Wf K i → subS K (some e) i → Wf K (narF D (nxtV D cond body (some e)) n i) ∧ subS K (some e) (narF D (nxtV D cond body (some e)) n i)
 | 0, _, h, k => ⟨h, k⟩
 | n + 1, i, h, k => by
  obtain ⟨h1, h2⟩ := narrow_wf we h (nxt_wf hc hb (Wf.some we) h) k (subS_l _ _)
  exact narF_wf hc hb we n _ h1 h2
theorem narF_none {next : D.St → D.St} : ∀ (n : Nat), narF D next n none = none
 | 0 => rfl
 | n + 1 => narF_none n
def CondNo (cond : CondF D) : Prop := cond none = ([], none, none)
def BodyNo (body : BodyF D) : Prop := body none = ([], none)
theorem allV_none {P : Pol} {cond : CondF D} {body : BodyF D} (hc : CondNo cond) (hb : BodyNo body) : allV D P cond body none = none := by
 unfold allV
 have hn : nxtV D cond body none none = none := by
  unfold nxtV
  rw [hc, hb]; rfl
 rw [fixF_none hn, narF_none]
theorem fix_sub {cond : CondF D} {body : BodyF D} {s i : D.St} (h : jn D i (nxtV D cond body s i) = i) : subS K s i := by
 have h1 := subS_trans (K := K) (subS_l s _) (subS_r i (nxtV D cond body s i))
 rwa [h] at h1
theorem allV_some {P : Pol} {cond : CondF D} {body : BodyF D} (hc : CondWf K cond) (hb : BodyWf K body) {e : D.Env} (we : ∀ k, K.wf (e k)) : Wf K (allV D P cond body (some e)) ∧ subS K (some e) (allV D P cond body (some e)) := by
 have hn : ∀ i, Wf K i → Wf K (nxtV D cond body (some e) i) := fun i hi => nxt_wf hc hb (Wf.some we) hi
 obtain ⟨i, h1, h2⟩ := fixF_fix hn P.delay D.fuel 1 e we (by have := K.fuel; omega)
 have wi := fixF_wf hn P.delay D.fuel 1 (some e) (Wf.some we)
 unfold allV
 rw [h1] at wi ⊢
 exact narF_wf hc hb we _ _ wi (fix_sub h2)
theorem allV_wf {P : Pol} {cond : CondF D} {body : BodyF D} (hc : CondWf K cond) (hb : BodyWf K body) (nc : CondNo cond) (nb : BodyNo body) {s : D.St} (hs : Wf K s) : Wf K (allV D P cond body s) := by
 cases s with
 | none => rw [allV_none nc nb]; exact wf_none
 | some e => exact (allV_some hc hb (hs _ rfl)).1
theorem unrF_wf {cond : CondF D} {body : BodyF D} (hc : CondWf K cond) (hb : BodyWf K body) (p : Int) : ∀ (n : Nat) (out s : D.St), Wf K out → Wf K s → Wf K (unrF D cond body p n out s).2.1 ∧ Wf K (unrF D cond body p n out s).2.2
 | 0, _, _, ho, hs => ⟨ho, hs⟩
 | n + 1, _, _, ho, hs => unrF_wf hc hb p n _ _ (wf_jn ho (hc _ hs).2) (hb _ (hc _ hs).1)
theorem anW_wf {P : Pol} {cond : CondF D} {body : BodyF D} (hc : CondWf K cond) (hb : BodyWf K body) (nc : CondNo cond) (nb : BodyNo body) (p : Int) {s : D.St} (hs : Wf K s) : Wf K (anW D P cond body p s).2 := by
 obtain ⟨h1, h2⟩ := unrF_wf hc hb p P.unroll none s wf_none hs
 exact wf_jn h1 (hc _ (allV_wf hc hb nc nb h2)).2
theorem stP_wf {p : Int} {f : D.Env → Res D} (hf : ∀ e, (∀ k, K.wf (e k)) → Wf K (f e).2) {s : D.St} (hs : Wf K s) : Wf K (stP D p f s).2 := by
 cases s with
 | none => exact wf_none
 | some e => exact hf e (hs _ rfl)
theorem anB_none (P : Pol) : ∀ (t : Bl) (ct : Ct), anB D P t ct none = ([], none)
 | .nil, _ => rfl
 | .assign k x t, ct => by
  show thenR D ([], none) (anB D P t _) = _
  unfold thenR; rw [anB_none P t]; rfl
 | .read k t, ct => by
  show thenR D ([], none) (anB D P t _) = _
  unfold thenR; rw [anB_none P t]; rfl
 | .assert k x y t, ct => by
  show thenR D ([], none) (anB D P t _) = _
  unfold thenR; rw [anB_none P t]; rfl
 | .ite k x y xs true ys t, ct => by
  show thenR D ([], none) (anB D P t _) = _
  unfold thenR; rw [anB_none P t]; rfl
 | .ite k x y xs false ys t, ct => by
  show thenR D ([], none) (anB D P t _) = _
  unfold thenR; rw [anB_none P t]; rfl
 | .loop k x y xs t, ct => by
  show thenR D ([], none) (anB D P t _) = _
  unfold thenR; rw [anB_none P t]; rfl
theorem anB_wf (P : Pol) : ∀ (t : Bl) (_ : OkB t) (ct : Ct) (s : D.St), Wf K s → Wf K (anB D P t ct s).2
 | .nil, _, _, _, hs => hs
 | .assign k x t, hn, ct, s, hs => anB_wf P t (fun n h => hn n (by simp [nuB, h])) _ _ (stP_wf (fun e he => by
   unfold stAssign
   intro e' h'
   cases hv : (anS D x (ptUp ct) e).2 with
   | none => simp [hv] at h'
   | some v =>
    simp [hv] at h'
    subst h'
    exact wf_set he k (anS_wf x (fun n h => hn n (by simp [nuB, h])) _ e he v hv)) hs)
 | .read k t, hn, ct, s, hs => anB_wf P t (fun n h => hn n (by simp [nuB, h])) _ _ (stP_wf (fun e he => Wf.some (wf_set he k K.wwhole)) hs)
 | .assert k x y t, hn, ct, s, hs => anB_wf P t (fun n h => hn n (by simp [nuB, h])) _ _ (stP_wf (fun e he => (anC_wf (fun n h => hn n (by simp [nuB, h])) (fun n h => hn n (by simp [nuB, h])) (Wf.some he)).1) hs)
 | .ite k x y xs true ys t, hn, ct, s, hs => anB_wf P t (fun n h => hn n (by simp [nuB, h])) _ _ (stP_wf (fun e he => by
   have hc := anC_wf (k := k) (ct := ptUp ct) (K := K) (x := x) (y := y) (fun n h => hn n (by simp [nuB, h])) (fun n h => hn n (by simp [nuB, h])) (Wf.some he)
   exact wf_jn (anB_wf P xs (fun n h => hn n (by simp [nuB, h])) _ _ hc.1) (anB_wf P ys (fun n h => hn n (by simp [nuB, h])) _ _ hc.2)) hs)
 | .ite k x y xs false ys t, hn, ct, s, hs => anB_wf P t (fun n h => hn n (by simp [nuB, h])) _ _ (stP_wf (fun e he => by
   have hc := anC_wf (k := k) (ct := ptUp ct) (K := K) (x := x) (y := y) (fun n h => hn n (by simp [nuB, h])) (fun n h => hn n (by simp [nuB, h])) (Wf.some he)
   exact wf_jn (anB_wf P xs (fun n h => hn n (by simp [nuB, h])) _ _ hc.1) hc.2) hs)
 | .loop k x y xs t, hn, ct, s, hs => anB_wf P t (fun n h => hn n (by simp [nuB, h])) _ _ (stP_wf (fun e he =>
   anW_wf (fun s hs => anC_wf (fun n h => hn n (by simp [nuB, h])) (fun n h => hn n (by simp [nuB, h])) hs) (fun s hs => anB_wf P xs (fun n h => hn n (by simp [nuB, h])) _ s hs) rfl (anB_none P xs _) _ (Wf.some he)) hs)
end
end Sp
end Go.Proofs.YtiopfihjmkfdmaaGreatDoor
namespace Go.Proofs.YtiopfihjmkfdmaaGreatDoor
namespace Sp
structure Snd (D : Dom) where
 mem : D.V → Int → Prop
 num : ∀ n, mem (D.num n) n
 whole : ∀ n, I16 n → mem D.whole n
 neg : ∀ x n, I16 n → mem x n → mem (D.neg x) (w16 (-n))
 work : ∀ k x y a b c, I16 a → I16 b → mem x a → mem y b → work k a b = some c → ∃ v, D.work k x y = some v ∧ mem v c
 nought : ∀ x, mem x 0 → D.nought x = true
 joinl : ∀ x y n, mem x n → mem (D.join x y) n
 joinr : ∀ x y n, mem y n → mem (D.join x y) n
 may : ∀ r x y a b, I16 a → I16 b → mem x a → mem y b → holds r a b = true → D.may r x y = true
 bound : ∀ r x y a b, I16 a → I16 b → mem x a → mem y b → holds r a b = true → ∃ v, D.bound r x y = some v ∧ mem v a
 narrow : ∀ x y n, mem x n → mem y n → mem (D.narrow x y) n
section
variable {D : Dom} (M : Snd D)
def Gm (e : D.Env) (st : List Int) : Prop := st.length = 8 ∧ ∀ k : Fin 8, M.mem (e k) (st.getD k.val 0) ∧ I16 (st.getD k.val 0)
def inS (s : D.St) (st : List Int) : Prop := ∃ e, s = some e ∧ Gm M e st
variable {M}
theorem Gm.set {e : D.Env} {st : List Int} (h : Gm M e st) (k : Nat) {v : D.V} {n : Int} (hv : M.mem v n) (hn : I16 n) : Gm M (setV D e k v) (st.set k n) := by
 refine ⟨by rw [List.length_set]; exact h.1, fun j => ?_⟩
 have hj : j.val < st.length := by rw [h.1]; exact j.isLt
 unfold setV
 by_cases e : j.val = k
 ·rw [if_pos e]
  have : (st.set k n).getD j.val 0 = n := by
   rw [List.getD_eq_getElem?_getD, e, List.getElem?_set_self (by omega)]; rfl
  rw [this]; exact ⟨hv, hn⟩
 ·rw [if_neg e]
  have : (st.set k n).getD j.val 0 = st.getD j.val 0 := by
   rw [List.getD_eq_getElem?_getD, List.getD_eq_getElem?_getD, List.getElem?_set_ne (fun h => e h.symm)]
  rw [this]; exact h.2 j
def eS (x : Sm) (ct : Ct) : Ev := ((show Ct → Ev × Ct from foldS Rn x) ct).1
def eC (k : Nat) (x y : Sm) (ct : Ct) : List Int → Except Int Bool := evCond k (eS x ct) (eS y (cS x ct))
def InsOk (r : Rst) : Prop := ∀ n ∈ r.ins, I16 n
def Cov (M : Snd D) (r : Rst) (o : Out) (es : List (Tel D.V)) (s : D.St) : Prop :=
 InsOk o.1 ∧ (∃ nv, o.1.vis = r.vis ++ nv ∧ ∀ v ∈ nv, ∃ e, .point v.1 e ∈ es ∧ Gm M e v.2) ∧
 (match o.2 with
  | none => inS M s o.1.st
  | some q => q = -2 ∨ .site q true ∈ es)
theorem Cov.mono {r : Rst} {o : Out} {es es' : List (Tel D.V)} {s s' : D.St} (h : Cov M r o es s) (he : ∀ x ∈ es, x ∈ es') (hs : ∀ st, inS M s st → inS M s' st) : Cov M r o es' s' := by
 obtain ⟨h1, ⟨nv, h2, h3⟩, h4⟩ := h
 refine ⟨h1, ⟨nv, h2, fun v hv => ?_⟩, ?_⟩
 ·obtain ⟨e, a, b⟩ := h3 v hv
  exact ⟨e, he _ a, b⟩
 ·cases ho : o.2 with
  | none => rw [ho] at h4; exact hs _ h4
  | some q =>
   rw [ho] at h4
   rcases h4 with h4 | h4
   ·exact .inl h4
   ·exact .inr (he _ h4)
theorem Cov.andThen {r : Rst} {o : Out} {f : Rst → Out} {es es2 : List (Tel D.V)} {s s2 : D.St} (h : Cov M r o es s) (hf : ∀ r1, o = (r1, none) → InsOk r1 → inS M s r1.st → Cov M r1 (f r1) es2 s2) : Cov M r (andThen o f) (es ++ es2) s2 := by
 obtain ⟨r1, oo⟩ := o
 obtain ⟨h1, ⟨nv, h2, h3⟩, h4⟩ := h
 cases oo with
 | some q =>
  refine ⟨h1, ⟨nv, h2, fun v hv => ?_⟩, ?_⟩
  ·obtain ⟨e, a, b⟩ := h3 v hv
   exact ⟨e, List.mem_append_left _ a, b⟩
  ·rcases h4 with h4 | h4
   ·exact .inl h4
   ·exact .inr (List.mem_append_left _ h4)
 | none =>
  obtain ⟨k1, ⟨mv, k2, k3⟩, k4⟩ := hf r1 rfl h1 h4
  have h2 : r1.vis = r.vis ++ nv := h2
  show Cov M r (f r1) _ _
  refine ⟨k1, ⟨nv ++ mv, by rw [k2, h2, List.append_assoc], fun v hv => ?_⟩, ?_⟩
  ·rcases List.mem_append.1 hv with hv | hv
   ·obtain ⟨e, a, b⟩ := h3 v hv
    exact ⟨e, List.mem_append_left _ a, b⟩
   ·obtain ⟨e, a, b⟩ := k3 v hv
    exact ⟨e, List.mem_append_right _ a, b⟩
  ·cases ho : (f r1).2 with
   | none => rw [ho] at k4; exact k4
   | some q =>
    rw [ho] at k4
    rcases k4 with k4 | k4
    ·exact .inl k4
    ·exact .inr (List.mem_append_right _ k4)
section
variable {K : Rk D} {P : Pol} {c : List Int → Except Int Bool} {cond : CondF D} {f : Rst → Out} {g : BodyF D} (hc : CondOk M c cond) (wc : CondWf K cond) (hb : BodyOk M K f g) (wb : BodyWf K g)
include hc wc hb
end
section
variable {K : Rk D} {P : Pol} {c : List Int → Except Int Bool} {cond : CondF D} {f : Rst → Out} {g : BodyF D} (hc : CondOk M c cond) (wc : CondWf K cond) (hb : BodyOk M K f g) (wb : BodyWf K g)
include hc wc hb wb
end
end
end Sp
end Go.Proofs.YtiopfihjmkfdmaaGreatDoor
namespace Go.Proofs.YtiopfihjmkfdmaaGreatDoor
namespace Sp
def ivWf (x : Iv) : Prop := -32768 ≤ x.a ∧ x.a ≤ x.b ∧ x.b ≤ 32767
theorem foldmin_le : ∀ (l : List Int) (x : Int), l.foldl min x ≤ x ∧ ∀ y ∈ l, l.foldl min x ≤ y
 | [], x => ⟨Int.le_refl _, fun _ h => by cases h⟩
 | z :: l, x => by
  obtain ⟨h1, h2⟩ := foldmin_le l (min x z)
  refine ⟨by show l.foldl min (min x z) ≤ x; omega, fun y hy => ?_⟩
  show l.foldl min (min x z) ≤ y
  rcases List.mem_cons.1 hy with rfl | hy
  ·omega
  ·exact h2 y hy
theorem foldmax_le : ∀ (l : List Int) (x : Int), x ≤ l.foldl max x ∧ ∀ y ∈ l, y ≤ l.foldl max x
 | [], x => ⟨Int.le_refl _, fun _ h => by cases h⟩
 | z :: l, x => by
  obtain ⟨h1, h2⟩ := foldmax_le l (max x z)
  refine ⟨by show x ≤ l.foldl max (max x z); omega, fun y hy => ?_⟩
  show y ≤ l.foldl max (max x z)
  rcases List.mem_cons.1 hy with rfl | hy
  ·omega
  ·exact h2 y hy
theorem minL_le {l : List Int} {x : Int} (h : x ∈ l) : minL l ≤ x := by
 cases l with
 | nil => cases h
 | cons z l =>
  rcases List.mem_cons.1 h with rfl | h
  ·exact (foldmin_le l _).1
  ·exact (foldmin_le l z).2 x h
theorem le_maxL {l : List Int} {x : Int} (h : x ∈ l) : x ≤ maxL l := by
 cases l with
 | nil => cases h
 | cons z l =>
  rcases List.mem_cons.1 h with rfl | h
  ·exact (foldmax_le l _).1
  ·exact (foldmax_le l z).2 x h
theorem mem_quos {x : Iv} {l : List Int} {q : Int} (h : q ∈ l) : x.a.tdiv q ∈ (l.flatMap fun q => [x.a.tdiv q, x.b.tdiv q]) ∧ x.b.tdiv q ∈ (l.flatMap fun q => [x.a.tdiv q, x.b.tdiv q]) := by
 constructor
 ·exact List.mem_flatMap.2 ⟨q, h, by simp⟩
 ·exact List.mem_flatMap.2 ⟨q, h, by simp⟩
theorem iv_ext {x y : Iv} (h1 : x.a = y.a) (h2 : x.b = y.b) : x = y := by
 cases x; cases y; simp at h1 h2; rw [h1, h2]
theorem hull2_wf {a b : Int} (h : a ≤ b) : ivWf (hull2 a b) := by
 unfold hull2
 split
 ·exact ⟨by decide, by decide, by decide⟩
 ·exact ⟨by show -32768 ≤ a; omega, h, by show b ≤ 32767; omega⟩
theorem hullL_wf {l : List Int} {u : Int} (h : u ∈ l) : ivWf (hullL l) := hull2_wf (Int.le_trans (minL_le h) (le_maxL h))
theorem work_wf (k : Nat) (x y v : Iv) (hx : ivWf x) (hy : ivWf y) (h : ivWork k x y = some v) : ivWf v := by
 obtain ⟨h1, h2, h3⟩ := hx
 obtain ⟨h4, h5, h6⟩ := hy
 unfold ivWork at h
 split at h
 ·cases h; exact hull2_wf (by omega)
 ·split at h
  ·cases h; exact hull2_wf (by omega)
  ·split at h
   ·cases h; exact hullL_wf (u := x.a * y.a) (by simp)
   ·split at h
    ·unfold ivDivide at h
     split at h
     ·cases h
     ·next hne =>
      cases h
      obtain ⟨q, hq⟩ := List.exists_mem_of_ne_nil _ hne
      exact hullL_wf (mem_quos (x := x) hq).1
    ·unfold ivRest at h
     split at h
     ·cases h
     ·cases h
      exact hull2_wf (by omega)
theorem meet_wf {x y v : Iv} (hx : ivWf x) (h : ivMeet x y = some v) : ivWf v := by
 obtain ⟨h1, h2, h3⟩ := hx
 unfold ivMeet at h
 split at h
 ·cases h
  exact ⟨by show -32768 ≤ max x.a y.a; omega, by assumption, by show min x.b y.b ≤ 32767; omega⟩
 ·cases h
theorem below_wf {x v : Iv} {n : Int} (hx : ivWf x) (h : ivBelow x n = some v) : ivWf v := by
 unfold ivBelow at h
 split at h
 ·cases h
 ·exact meet_wf hx h
theorem above_wf {x v : Iv} {n : Int} (hx : ivWf x) (h : ivAbove x n = some v) : ivWf v := by
 unfold ivAbove at h
 split at h
 ·cases h
 ·exact meet_wf hx h
theorem bound_wf (r : Nat) (x y v : Iv) (hx : ivWf x) (_ : ivWf y) (h : ivBound r x y = some v) : ivWf v := by
 unfold ivBound at h
 split at h
 ·exact below_wf hx h
 ·split at h
  ·exact meet_wf hx h
  ·split at h
   ·exact meet_wf hx h
   ·split at h
    ·unfold ivBeside at h
     split at h
     ·cases h; exact hx
     ·split at h
      ·exact above_wf hx h
      ·split at h
       ·exact below_wf hx h
       ·cases h; exact hx
    ·split at h
     ·exact meet_wf hx h
     ·exact above_wf hx h
theorem stepBelow_in (n : Int) : ∀ (l : List Int) (st : Int), st ≤ n → -32768 ≤ st → -32768 ≤ l.foldl (fun st s => if s ≤ n then max st s else st) st ∧ l.foldl (fun st s => if s ≤ n then max st s else st) st ≤ n
 | [], st, h1, h2 => ⟨h2, h1⟩
 | s :: l, st, h1, h2 => by
  show -32768 ≤ l.foldl _ (if s ≤ n then max st s else st) ∧ l.foldl _ (if s ≤ n then max st s else st) ≤ n
  exact stepBelow_in n l _ (by split <;> omega) (by split <;> omega)
theorem stepAbove_in (n : Int) : ∀ (l : List Int) (st : Int), n ≤ st → st ≤ 32767 → n ≤ l.foldl (fun st s => if n ≤ s then min st s else st) st ∧ l.foldl (fun st s => if n ≤ s then min st s else st) st ≤ 32767
 | [], st, h1, h2 => ⟨h1, h2⟩
 | s :: l, st, h1, h2 => by
  show n ≤ l.foldl _ (if n ≤ s then min st s else st) ∧ l.foldl _ (if n ≤ s then min st s else st) ≤ 32767
  exact stepAbove_in n l _ (by split <;> omega) (by split <;> omega)
theorem widen_in (steps : List Int) (x y : Iv) (hx : ivWf x) (hy : ivWf y) : -32768 ≤ (ivWiden steps x y).a ∧ (ivWiden steps x y).a ≤ y.a ∧ y.b ≤ (ivWiden steps x y).b ∧ (ivWiden steps x y).b ≤ 32767 := by
 obtain ⟨h1, h2, h3⟩ := hx
 obtain ⟨h4, h5, h6⟩ := hy
 have e1 := stepBelow_in y.a steps (-32768) h4 (Int.le_refl _)
 have e2 := stepAbove_in y.b steps 32767 h6 (Int.le_refl _)
 unfold ivWiden stepBelow stepAbove
 simp only
 refine ⟨?_, ?_, ?_, ?_⟩
 ·split <;> omega
 ·split <;> omega
 ·split <;> omega
 ·split <;> omega
def ivRk (steps : List Int) : Rk (ivDom steps) where
 wf := ivWf
 rk x := (x.b - x.a + 65535).toNat
 top := 131070
 le x h := by
  obtain ⟨h1, h2, h3⟩ := h
  show (x.b - x.a + 65535).toNat ≤ 131070
  omega
 wnum n h := ⟨h.1, Int.le_refl _, h.2⟩
 wwhole := (⟨by decide, by decide, by decide⟩ : ivWf ivWhole)
 wneg x h := hull2_wf (by have := h.2.1; omega)
 wwork := work_wf
 wjoin x y h k := ⟨by show -32768 ≤ min x.a y.a; have := h.1; have := k.1; omega, by show min x.a y.a ≤ max x.b y.b; have := h.2.1; omega, by show max x.b y.b ≤ 32767; have := h.2.2; have := k.2.2; omega⟩
 wbound := bound_wf
 wwiden x y h k := by
  obtain ⟨h1, h2, h3, h4⟩ := widen_in steps x y h k
  exact ⟨h1, by have := k.2.1; show (ivWiden steps x y).a ≤ (ivWiden steps x y).b; omega, h4⟩
 sub x y := y.a ≤ x.a ∧ x.b ≤ y.b
 sub_refl x := ⟨Int.le_refl _, Int.le_refl _⟩
 sub_trans x y z h k := ⟨Int.le_trans k.1 h.1, Int.le_trans h.2 k.2⟩
 sub_joinl x y := ⟨by show min x.a y.a ≤ x.a; omega, by show x.b ≤ max x.b y.b; omega⟩
 sub_joinr x y := ⟨by show min x.a y.a ≤ y.a; omega, by show y.b ≤ max x.b y.b; omega⟩
 sub_narrow x y z h k := by
  have h1 : x.a ≤ z.a := h.1
  have h2 : z.b ≤ x.b := h.2
  have k1 : y.a ≤ z.a := k.1
  have k2 : z.b ≤ y.b := k.2
  constructor
  ·show (if x.a = -32768 then y.a else x.a) ≤ z.a
   split <;> omega
  ·show z.b ≤ (if x.b = 32767 then y.b else x.b)
   split <;> omega
 wnarrow x y z hx hy hz h k := by
  have h1 : x.a ≤ z.a := h.1
  have h2 : z.b ≤ x.b := h.2
  have k1 : y.a ≤ z.a := k.1
  have k2 : z.b ≤ y.b := k.2
  obtain ⟨a1, a2, a3⟩ := hx
  obtain ⟨b1, b2, b3⟩ := hy
  obtain ⟨c1, c2, c3⟩ := hz
  refine ⟨?_, ?_, ?_⟩
  ·show -32768 ≤ (if x.a = -32768 then y.a else x.a)
   split <;> omega
  ·show (if x.a = -32768 then y.a else x.a) ≤ (if x.b = 32767 then y.b else x.b)
   split <;> split <;> omega
  ·show (if x.b = 32767 then y.b else x.b) ≤ 32767
   split <;> omega
 join_lt x y h k hne := by
  obtain ⟨h1, h2, h3⟩ := h
  obtain ⟨k1, k2, k3⟩ := k
  show (x.b - x.a + 65535).toNat < (max x.b y.b - min x.a y.a + 65535).toNat
  have : ¬ (min x.a y.a = x.a ∧ max x.b y.b = x.b) := fun e => hne (iv_ext e.1 e.2)
  omega
 widen_le x y h k := by
  have hj : ivWf ⟨min x.a y.a, max x.b y.b⟩ := ⟨by show -32768 ≤ min x.a y.a; have := h.1; have := k.1; omega, by show min x.a y.a ≤ max x.b y.b; have := h.2.1; omega, by show max x.b y.b ≤ 32767; have := h.2.2; have := k.2.2; omega⟩
  obtain ⟨h1, h2, h3, h4⟩ := widen_in steps x ⟨min x.a y.a, max x.b y.b⟩ h hj
  show (max x.b y.b - min x.a y.a + 65535).toNat ≤ ((ivWiden steps x ⟨min x.a y.a, max x.b y.b⟩).b - (ivWiden steps x ⟨min x.a y.a, max x.b y.b⟩).a + 65535).toNat
  have h2 : (ivWiden steps x ⟨min x.a y.a, max x.b y.b⟩).a ≤ min x.a y.a := h2
  have h3 : max x.b y.b ≤ (ivWiden steps x ⟨min x.a y.a, max x.b y.b⟩).b := h3
  omega
 fuel := by show 8 * 131070 < 1100000; decide
end Sp
end Go.Proofs.YtiopfihjmkfdmaaGreatDoor
