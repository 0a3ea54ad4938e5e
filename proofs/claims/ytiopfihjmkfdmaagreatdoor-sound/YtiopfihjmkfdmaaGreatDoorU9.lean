import Derived.Test.YtiopfihjmkfdmaaGreatDoorU7
import Derived.Test.YtiopfihjmkfdmaaGreatDoorU8
namespace Go.Proofs.YtiopfihjmkfdmaaGreatDoor
namespace Sp
def cS : Sm → Ct → Ct
 | .num _, ct => ct
 | .name _, ct => ct
 | .neg x, ct => cS x ct
 | .bin k x y, ct => cS y (if 3 ≤ k then siteUp (cS x ct) else cS x ct)
def cB : Bl → Ct → Ct
 | .nil, ct => ct
 | .assign _ x t, ct => cB t (cS x (ptUp ct))
 | .read _ t, ct => cB t (ptUp ct)
 | .assert _ x y t, ct => cB t (cS y (cS x (siteUp (ptUp ct))))
 | .ite _ x y xs els ys t, ct => cB t (if els then cB ys (cB xs (cS y (cS x (ptUp ct)))) else cB xs (cS y (cS x (ptUp ct))))
 | .loop _ x y xs t, ct => cB t (cB xs (cS y (cS x (ptUp ct))))
structure Dom where
 V : Type
 dec : DecidableEq V
 num : Int → V
 whole : V
 neg : V → V
 work : Nat → V → V → Option V
 nought : V → Bool
 join : V → V → V
 may : Nat → V → V → Bool
 bound : Nat → V → V → Option V
 widen : V → V → V
 narrow : V → V → V
 fuel : Nat
abbrev Dom.Env (D : Dom) := Fin 8 → D.V
abbrev Dom.St (D : Dom) := Option D.Env
inductive Tel (V : Type) where
 | point (p : Int) (s : Fin 8 → V)
 | site (q : Int) (bad : Bool)
structure Pol where
 delay : Nat
 narrow : Nat
 unroll : Nat
section
variable (D : Dom)
def jn : D.St → D.St → D.St
 | none, t => t
 | some s, none => some s
 | some s, some t => some fun k => D.join (s k) (t k)
def eachV (f : D.V → D.V → D.V) : D.St → D.St → D.St
 | some s, some t => some fun k => f (s k) (t k)
 | _, _ => none
def eqS (s t : D.St) : Bool := match s, t with
 | none, none => true
 | some s, some t => @decide (∀ k, s k = t k) (@Nat.decidableForallFin 8 (fun k => s k = t k) (fun k => D.dec (s k) (t k)))
 | _, _ => false
theorem eqS_iff (s t : D.St) : eqS D s t = true ↔ s = t := by
 cases s with
 | none => cases t <;> simp [eqS]
 | some s =>
  cases t with
  | none => simp [eqS]
  | some t =>
   unfold eqS
   simp only [decide_eq_true_eq, Option.some.injEq]
   exact ⟨fun h => funext h, fun h k => by rw [h]⟩
def getV (s : D.Env) (k : Nat) : D.V := if h : k < 8 then s ⟨k, h⟩ else D.whole
def setV (s : D.Env) (k : Nat) (v : D.V) : D.Env := fun j => if j.val = k then v else s j
def telP (p : Int) : D.St → List (Tel D.V)
 | none => []
 | some s => [.point p s]
abbrev Res := List (Tel D.V) × D.St
def mirror (r : Nat) : Nat := match r with
 | 0 => 5 | 1 => 4 | 2 => 2 | 3 => 3 | 4 => 1 | _ => 0
def opp (r : Nat) : Nat := match r with
 | 0 => 4 | 1 => 5 | 2 => 3 | 3 => 2 | 4 => 0 | _ => 1
def anS : Sm → Ct → D.Env → List (Tel D.V) × Option D.V
 | .num n, _, _ => ([], some (D.num (n : Int)))
 | .name k, _, s => ([], some (getV D s k))
 | .neg x, ct, s => ((anS x ct s).1, (anS x ct s).2.map D.neg)
 | .bin k x y, ct, s => match anS x ct s with
  | (e, none) => (e, none)
  | (e, some a) => (match anS y (if 3 ≤ k then siteUp (cS x ct) else cS x ct) s with
   | (e', none) => (e ++ e', none)
   | (e', some b) => (e ++ e' ++ (if 3 ≤ k then [.site (cS x ct).2 (D.nought b)] else []), D.work k a b))
def bndV (side : Sm) (r : Nat) (other : D.V) (s : D.St) : D.St := match s with
 | none => none
 | some s => (match side with
  | .name k => (match D.bound r (getV D s k) other with
   | some v => some (setV D s k v)
   | none => none)
  | _ => some s)
def behindV (r : Nat) (x y : Sm) (a b : D.V) (s : D.Env) : D.St :=
 if D.may r a b then bndV D y (mirror r) a (bndV D x r b (some s)) else none
def anC (k : Nat) (x y : Sm) (ct : Ct) : D.St → List (Tel D.V) × D.St × D.St
 | none => ([], none, none)
 | some s => (match anS D x ct s with
  | (e, none) => (e, none, none)
  | (e, some a) => (match anS D y (cS x ct) s with
   | (e', none) => (e ++ e', none, none)
   | (e', some b) => (e ++ e', behindV D k x y a b s, behindV D (opp k) x y a b s)))
def nxtV (cond : D.St → List (Tel D.V) × D.St × D.St) (body : D.St → Res D) (s i : D.St) : D.St := jn D s (body (cond i).2.1).2
def unrF (cond : D.St → List (Tel D.V) × D.St × D.St) (body : D.St → Res D) (p : Int) : Nat → D.St → D.St → List (Tel D.V) × D.St × D.St
 | 0, out, s => ([], out, s)
 | n + 1, out, s =>
  (telP D p s ++ (cond s).1 ++ (body (cond s).2.1).1 ++ (unrF cond body p n (jn D out (cond s).2.2) (body (cond s).2.1).2).1, (unrF cond body p n (jn D out (cond s).2.2) (body (cond s).2.1).2).2)
def fixF (next : D.St → D.St) (delay : Nat) : Nat → Nat → D.St → D.St
 | 0, _, i => i
 | f + 1, k, i => if eqS D (jn D i (next i)) i = true then i else fixF next delay f (k + 1) (if delay < k then eachV D D.widen i (jn D i (next i)) else jn D i (next i))
def narF (next : D.St → D.St) : Nat → D.St → D.St
 | 0, i => i
 | n + 1, i => narF next n (eachV D D.narrow i (next i))
def allV (P : Pol) (cond : D.St → List (Tel D.V) × D.St × D.St) (body : D.St → Res D) (s : D.St) : D.St :=
 narF D (nxtV D cond body s) P.narrow (fixF D (nxtV D cond body s) P.delay D.fuel 1 s)
def anW (P : Pol) (cond : D.St → List (Tel D.V) × D.St × D.St) (body : D.St → Res D) (p : Int) (s : D.St) : Res D :=
 let u := unrF D cond body p P.unroll none s
 let i := allV D P cond body u.2.2
 (u.1 ++ telP D p i ++ (cond i).1 ++ (body (cond i).2.1).1, jn D u.2.1 (cond i).2.2)
def thenR (r : Res D) (f : D.St → Res D) : Res D := (r.1 ++ (f r.2).1, (f r.2).2)
def stP (p : Int) (f : D.Env → Res D) : D.St → Res D
 | none => ([], none)
 | some s => (.point p s :: (f s).1, (f s).2)
def stAssign (k : Nat) (x : Sm) (ct : Ct) (s : D.Env) : Res D := ((anS D x ct s).1, (anS D x ct s).2.map fun v => setV D s k v)
def stRead (k : Nat) (s : D.Env) : Res D := ([], some (setV D s k D.whole))
def stAssert (site : Int) (k : Nat) (x y : Sm) (ct : Ct) (s : D.Env) : Res D := ((anC D k x y ct (some s)).1 ++ [.site site (anC D k x y ct (some s)).2.2.isSome], (anC D k x y ct (some s)).2.1)
def stIf (cond : D.St → List (Tel D.V) × D.St × D.St) (f g : D.St → Res D) (s : D.Env) : Res D :=
 ((cond (some s)).1 ++ (f (cond (some s)).2.1).1 ++ (g (cond (some s)).2.2).1, jn D (f (cond (some s)).2.1).2 (g (cond (some s)).2.2).2)
def anB (P : Pol) : Bl → Ct → D.St → Res D
 | .nil, _, s => ([], s)
 | .assign k x t, ct, s => thenR D (stP D ct.1 (stAssign D k x (ptUp ct)) s) (anB P t (cS x (ptUp ct)))
 | .read k t, ct, s => thenR D (stP D ct.1 (stRead D k) s) (anB P t (ptUp ct))
 | .assert k x y t, ct, s => thenR D (stP D ct.1 (stAssert D ct.2 k x y (siteUp (ptUp ct))) s) (anB P t (cS y (cS x (siteUp (ptUp ct)))))
 | .ite k x y xs true ys t, ct, s => thenR D (stP D ct.1 (stIf D (anC D k x y (ptUp ct)) (anB P xs (cS y (cS x (ptUp ct)))) (anB P ys (cB xs (cS y (cS x (ptUp ct)))))) s) (anB P t (cB ys (cB xs (cS y (cS x (ptUp ct))))))
 | .ite k x y xs false _ t, ct, s => thenR D (stP D ct.1 (stIf D (anC D k x y (ptUp ct)) (anB P xs (cS y (cS x (ptUp ct)))) (fun s => ([], s))) s) (anB P t (cB xs (cS y (cS x (ptUp ct)))))
 | .loop k x y xs t, ct, s => thenR D (stP D ct.1 (fun s => anW D P (anC D k x y (ptUp ct)) (anB P xs (cS y (cS x (ptUp ct)))) ct.1 (some s)) s) (anB P t (cB xs (cS y (cS x (ptUp ct)))))
abbrev Found := List (D.St) × List Nat
def tell1 (F : Found D) : Tel D.V → Found D
 | .point p s => (F.1.modify p.toNat (fun f => jn D f (some s)), F.2)
 | .site q bad => (F.1, F.2.modify q.toNat (fun n => max n (if bad then 2 else 1)))
def tell (F : Found D) (es : List (Tel D.V)) : Found D := es.foldl (tell1 D) F
def reportOf (P : Pol) (t : Bl) : Found D :=
 let r := anB D P t (0, 0) (some fun _ => D.num 0)
 tell D (List.replicate ((cB t (0, 0)).1 + 1).toNat none, List.replicate (cB t (0, 0)).2.toNat 0) (r.1 ++ telP D (cB t (0, 0)).1 r.2)
end
structure Iv where
 a : Int
 b : Int
deriving DecidableEq
def ivWhole : Iv := ⟨-32768, 32767⟩
def hull2 (a b : Int) : Iv := if a < -32768 ∨ 32767 < b then ivWhole else ⟨a, b⟩
def minL : List Int → Int
 | [] => 0
 | x :: xs => xs.foldl min x
def maxL : List Int → Int
 | [] => 0
 | x :: xs => xs.foldl max x
def hullL (l : List Int) : Iv := hull2 (minL l) (maxL l)
def besides (y : Iv) : List Int := (if y.a < 0 then [y.a, min y.b (-1)] else []) ++ (if 0 < y.b then [max y.a 1, y.b] else [])
def ivDivide (x y : Iv) : Option Iv := if besides y = [] then none else some (hullL ((besides y).flatMap fun q => [x.a.tdiv q, x.b.tdiv q]))
def ivRest (x y : Iv) : Option Iv := if max (-y.a) y.b - 1 < 0 then none else some (hull2 (min (max x.a (-(max (-y.a) y.b - 1))) 0) (max (min x.b (max (-y.a) y.b - 1)) 0))
def ivWork (k : Nat) (x y : Iv) : Option Iv :=
 if k = 0 then some (hull2 (x.a + y.a) (x.b + y.b)) else if k = 1 then some (hull2 (x.a - y.b) (x.b - y.a))
 else if k = 2 then some (hullL [x.a * y.a, x.a * y.b, x.b * y.a, x.b * y.b])
 else if k = 3 then ivDivide x y else ivRest x y
def ivMeet (x y : Iv) : Option Iv := if max x.a y.a ≤ min x.b y.b then some ⟨max x.a y.a, min x.b y.b⟩ else none
def ivMay (r : Nat) (x y : Iv) : Bool :=
 if r = 0 then decide (x.a < y.b) else if r = 1 then decide (x.a ≤ y.b) else if r = 2 then (ivMeet x y).isSome
 else if r = 3 then !(decide (x = y) && decide (x.a = x.b)) else if r = 4 then decide (y.a ≤ x.b) else decide (y.a < x.b)
def ivBelow (x : Iv) (n : Int) : Option Iv := if n = -32768 then none else ivMeet x ⟨-32768, n - 1⟩
def ivAbove (x : Iv) (n : Int) : Option Iv := if n = 32767 then none else ivMeet x ⟨n + 1, 32767⟩
def ivBeside (x right : Iv) : Option Iv := if right.a ≠ right.b then some x else if x.a = right.a then ivAbove x right.a else if x.b = right.b then ivBelow x right.b else some x
def ivBound (r : Nat) (x right : Iv) : Option Iv :=
 if r = 0 then ivBelow x right.b else if r = 1 then ivMeet x ⟨-32768, right.b⟩ else if r = 2 then ivMeet x right else if r = 3 then ivBeside x right
 else if r = 4 then ivMeet x ⟨right.a, 32767⟩ else ivAbove x right.a
def stepBelow (steps : List Int) (n : Int) : Int := steps.foldl (fun st s => if s ≤ n then max st s else st) (-32768)
def stepAbove (steps : List Int) (n : Int) : Int := steps.foldl (fun st s => if n ≤ s then min st s else st) 32767
def ivWiden (steps : List Int) (x y : Iv) : Iv := ⟨if y.a < x.a then stepBelow steps y.a else x.a, if x.b < y.b then stepAbove steps y.b else x.b⟩
def ivNarrow (x y : Iv) : Iv := ⟨if x.a = -32768 then y.a else x.a, if x.b = 32767 then y.b else x.b⟩
def ivDom (steps : List Int) : Dom where
 V := Iv
 dec := inferInstance
 num n := ⟨n, n⟩
 whole := ivWhole
 neg x := hull2 (-x.b) (-x.a)
 work := ivWork
 nought x := decide (x.a ≤ 0) && decide (0 ≤ x.b)
 join x y := ⟨min x.a y.a, max x.b y.b⟩
 may := ivMay
 bound := ivBound
 widen := ivWiden steps
 narrow := ivNarrow
 fuel := 1100000
def nuS : Sm → List Int
 | .num n => [(n : Int)]
 | .name _ => []
 | .neg x => nuS x
 | .bin _ x y => nuS x ++ nuS y
def nuB : Bl → List Int
 | .nil => []
 | .assign _ x rest => nuS x ++ nuB rest
 | .read _ rest => nuB rest
 | .assert _ x y rest => nuS x ++ nuS y ++ nuB rest
 | .ite _ x y xs _ ys rest => nuS x ++ nuS y ++ nuB xs ++ nuB ys ++ nuB rest
 | .loop _ x y xs rest => nuS x ++ nuS y ++ nuB xs ++ nuB rest
end Sp
end Go.Proofs.YtiopfihjmkfdmaaGreatDoor
namespace Go.Proofs.YtiopfihjmkfdmaaGreatDoor
namespace Sp
theorem Nums.trans {a b c : Bs} {ns ms : List Nat} (h : Nums a b ns) (k : Nums b c ms) : Nums a c (ns ++ ms) := by
 induction k with
 | nil => rw [List.append_nil]; exact h
 | step _ ih => rw [← List.append_assoc]; exact ih.step
theorem Nums.at_nil {ns : List Nat} {l : Bs} (h : Nums [] l ns) : l = [] ∧ ns = [] := by
 induction h with
 | nil => exact ⟨rfl, rfl⟩
 | step _ ih => obtain ⟨rfl, rfl⟩ := ih; exact ⟨rfl, rfl⟩
theorem Nums.head {a l : Bs} {ns : List Nat} (h : Nums a l ns) : (l = a ∧ ns = []) ∨ ∃ ms, Nums (next a) l ms ∧ ns = numsAt a ++ ms := by
 induction h with
 | nil => exact .inl ⟨rfl, rfl⟩
 | @step l ns h ih =>
  right
  rcases ih with ⟨rfl, rfl⟩ | ⟨ms, h1, rfl⟩
  ·exact ⟨[], .nil, by simp⟩
  ·exact ⟨_, h1.step, by simp⟩
def natsS : Sm → List Nat
 | .num n => [n]
 | .name _ => []
 | .neg x => natsS x
 | .bin _ x y => natsS x ++ natsS y
def natsB : Bl → List Nat
 | .nil => []
 | .assign _ x rest => natsS x ++ natsB rest
 | .read _ rest => natsB rest
 | .assert _ x y rest => natsS x ++ natsS y ++ natsB rest
 | .ite _ x y xs _ ys rest => natsS x ++ natsS y ++ natsB xs ++ natsB ys ++ natsB rest
 | .loop _ x y xs rest => natsS x ++ natsS y ++ natsB xs ++ natsB rest
theorem nuS_nats : ∀ x : Sm, nuS x = (natsS x).map fun n : Nat => (n : Int)
 | .num _ => rfl
 | .name _ => rfl
 | .neg x => nuS_nats x
 | .bin _ x y => by show nuS x ++ nuS y = (natsS x ++ natsS y).map _; rw [nuS_nats x, nuS_nats y, List.map_append]
theorem nuB_nats : ∀ t : Bl, nuB t = (natsB t).map fun n : Nat => (n : Int)
 | .nil => rfl
 | .assign _ x t => by show nuS x ++ nuB t = (natsS x ++ natsB t).map _; rw [nuS_nats x, nuB_nats t, List.map_append]
 | .read _ t => nuB_nats t
 | .assert _ x y t => by show nuS x ++ nuS y ++ nuB t = (natsS x ++ natsS y ++ natsB t).map _; simp only [nuS_nats, nuB_nats t, List.map_append]
 | .ite _ x y xs _ ys t => by show nuS x ++ nuS y ++ nuB xs ++ nuB ys ++ nuB t = (natsS x ++ natsS y ++ natsB xs ++ natsB ys ++ natsB t).map _; simp only [nuS_nats, nuB_nats xs, nuB_nats ys, nuB_nats t, List.map_append]
 | .loop _ x y xs t => by show nuS x ++ nuS y ++ nuB xs ++ nuB t = (natsS x ++ natsS y ++ natsB xs ++ natsB t).map _; simp only [nuS_nats, nuB_nats xs, nuB_nats t, List.map_append]
inductive Way (a : Bs) : Bs → List Nat → Prop
 | nil : Way a a []
 | step {l : Bs} {ns : List Nat} : Way a l ns → 0 < tokLen l → Way a (next l) (ns ++ numsAt l)
theorem Way.trans {a b c : Bs} {ns ms : List Nat} (h : Way a b ns) (k : Way b c ms) : Way a c (ns ++ ms) := by
 induction k with
 | nil => rw [List.append_nil]; exact h
 | step _ hp ih => rw [← List.append_assoc]; exact ih.step hp
theorem Way.nums {a l : Bs} {ns : List Nat} (h : Way a l ns) : Nums a l ns := by
 induction h with
 | nil => exact .nil
 | step _ _ ih => exact ih.step
theorem Way.head {a l : Bs} {ns : List Nat} (h : Way a l ns) : (l = a ∧ ns = []) ∨ ∃ ms, 0 < tokLen a ∧ Way (next a) l ms ∧ ns = numsAt a ++ ms := by
 induction h with
 | nil => exact .inl ⟨rfl, rfl⟩
 | @step l ns h hp ih =>
  right
  rcases ih with ⟨rfl, rfl⟩ | ⟨ms, h0, h1, rfl⟩
  ·exact ⟨[], hp, .nil, by simp⟩
  ·exact ⟨_, h0, h1.step hp, by simp⟩
theorem Way.same : ∀ (n : Nat) {a : Bs} {ns ms : List Nat}, a.length ≤ n → Nums a [] ns → Way a [] ms → ns = ms
 | n, a, ns, ms, hn, h, k => by
  by_cases ha : a = []
  ·subst ha
   rw [h.at_nil.2, k.nums.at_nil.2]
  ·rcases h.head with ⟨e, _⟩ | ⟨ns', h1, rfl⟩
   ·exact absurd e.symm ha
   ·rcases k.head with ⟨e, _⟩ | ⟨ms', hp, k1, rfl⟩
    ·exact absurd e.symm ha
    ·have hlt := next_lt hp
     match n, hn with
     | 0, hn => omega
     | n + 1, hn => rw [Way.same n (by omega) h1 k1]
theorem way_tok {l t : Bs} (h : tok l = t) (ht : t ≠ []) (hd : t.head?.any isDig = false) : Way l (next l) [] := by
 have hp : 0 < tokLen l := by rw [← tok_length, h]; exact List.length_pos_iff.2 ht
 have := (Way.nil (a := l)).step hp
 rwa [numsAt, if_neg (kind_of_tok h hd)] at this
theorem way_kind {l : Bs} (h : tokKind l = 2) : Way l (next l) [] := by
 have := (Way.nil (a := l)).step (tokLen_pos (.inl h))
 rwa [numsAt, if_neg (by omega)] at this
theorem way_num {l : Bs} (h : tokKind l = 3) : Way l (next l) [decimal (tok l)] := by
 have := (Way.nil (a := l)).step (tokLen_pos (.inr (.inl h)))
 rwa [numsAt, if_pos h] at this
theorem Way.more {a l : Bs} {ns : List Nat} (h : Way a l ns) {b : Bs} (k : Way l b []) : Way a b ns := by
 have := h.trans k
 rwa [List.append_nil] at this
theorem Way.less {a l : Bs} {ns : List Nat} (h : Way a l []) {b : Bs} (k : Way l b ns) : Way a b ns := h.trans k
theorem way_take {t l l1 : Bs} (h : take t l = .ok l1) (ht : t ≠ []) (hd : t.head?.any isDig = false) : Way l l1 [] := by
 obtain ⟨h1, rfl⟩ := take_ok_iff h
 exact way_tok h1 ht hd
theorem way_enter {t l l1 : Bs} {o : Nat} (h : enter t o l = .ok l1) (ht : t ≠ []) (hd : t.head?.any isDig = false) : Way l l1 [] := by
 obtain ⟨h1, _, rfl⟩ := enter_ok_iff h
 exact way_tok h1 ht hd
theorem name_kind {l : Bs} {k : Nat} (h5 : nameVal l = some k) : tokKind l = 2 := by
 unfold nameVal at h5
 split at h5
 ·split at h5
  ·next hc => exact hc.1
  ·cases h5
 ·cases h5
theorem way_name {l l1 : Bs} {k : Nat} (h : pName l = .ok (k, l1)) : Way l l1 [] := by
 obtain ⟨h5, rfl⟩ := pName_ok_iff h
 exact way_kind (name_kind h5)
theorem way_op {l : Bs} {k : Nat} (h : opOf (tok l) = some k) : Way l (next l) [] := by
 unfold opOf at h
 split at h
 ·next e => exact way_tok e (by simp) rfl
 ·split at h
  ·next e => exact way_tok e (by simp) rfl
  ·split at h
   ·next e => exact way_tok e (by simp) rfl
   ·split at h
    ·next e => exact way_tok e (by simp) rfl
    ·split at h
     ·next e => exact way_tok e (by simp) rfl
     ·cases h
theorem way_rel {l : Bs} {k : Nat} (h : relOf (tok l) = some k) : Way l (next l) [] := by
 unfold relOf at h
 split at h
 ·next e => exact way_tok e (by simp) rfl
 ·split at h
  ·next e => exact way_tok e (by simp) rfl
  ·split at h
   ·next e => exact way_tok e (by simp) rfl
   ·split at h
    ·next e => exact way_tok e (by simp) rfl
    ·split at h
     ·next e => exact way_tok e (by simp) rfl
     ·split at h
      ·next e => exact way_tok e (by simp) rfl
      ·cases h
def WayS (u : Bs → R Tr.S) : Prop := ∀ l (x : Sm) l', u l = .ok (x, l') → Way l l' (natsS x)
theorem pChain_way {lv : Nat} {u : Bs → R Tr.S} (hu : WayS u) {a : Bs} : ∀ m (x : Sm) l (y : Sm) l', Way a l (natsS x) → pChain Tr lv u m x l = .ok (y, l') → Way a l' (natsS y) := by
 intro m
 induction m with
 | zero => intro x l y l' hx h; cases h; exact hx
 | succ m ih =>
  intro x l y l' hx h
  rw [pChain_succ Tr lv u m x l] at h
  split at h
  ·next k hk =>
   split at h
   ·split at h
    ·next z l1 hz => exact ih _ _ _ _ ((hx.more (way_op hk)).trans (hu _ _ _ hz)) h
    ·cases h
   ·cases h; exact hx
  ·cases h; exact hx
theorem pWith_way {lv : Nat} {u : Bs → R Tr.S} (hu : WayS u) : WayS (pWith Tr lv u) := by
 intro l x l' h
 unfold pWith at h
 split at h
 ·next y l1 hy => exact pChain_way hu _ _ _ _ _ (hu _ _ _ hy) h
 ·cases h
theorem pSum_way {u : Bs → R Tr.S} (hu : WayS u) : WayS (pSum Tr u) := pWith_way (pWith_way hu)
theorem numVal_dec {t : Bs} {v : Nat} (h : numVal t = some v) : v = decimal t := by
 unfold numVal at h
 split at h
 ·cases h
 ·split at h
  ·cases h; rfl
  ·cases h
theorem pUnary_way : ∀ n o, WayS (pUnary Tr n o) := by
 intro n
 induction n with
 | zero => intro o l x l' h; cases h
 | succ n ih =>
  intro o l x l' h
  unfold pUnary at h
  split at h
  ·next h3 =>
   split at h
   ·next v hv =>
    cases h
    rw [numVal_dec hv]
    exact way_num h3
   ·cases h
  ·split at h
   ·split at h
    ·next k l1 hk => cases h; exact way_name hk
    ·cases h
   ·split at h
    ·split at h
     ·next l1 he =>
      split at h
      ·next y l2 hy => cases h; exact (way_enter he (by simp) rfl).less (show Way _ _ (natsS y) from ih _ _ y _ hy)
      ·cases h
     ·cases h
    ·split at h
     ·next l1 he =>
      split at h
      ·next y l2 hy =>
       split at h
       ·next l3 ht3 =>
        cases h
        exact ((way_enter he (by simp) rfl).less (pSum_way (ih _) _ _ _ hy)).more (way_take ht3 (by simp) rfl)
       ·cases h
      ·cases h
     ·cases h
theorem pS_way {o : Nat} {l : Bs} {x : Sm} {l' : Bs} (h : pS Tr o l = .ok (x, l')) : Way l l' (natsS x) := pSum_way (pUnary_way _ _) _ _ _ h
theorem pCond_way {o : Nat} {l : Bs} {k : Nat} {x y : Sm} {l' : Bs} (h : pCond Tr o l = .ok ((k, x, y), l')) : Way l l' (natsS x ++ natsS y) := by
 unfold pCond at h
 split at h
 ·next x1 l1 hx =>
  split at h
  ·next k1 hk =>
   split at h
   ·next y1 l2 hy => cases h; exact ((pS_way hx).more (way_rel hk)).trans (pS_way hy)
   ·cases h
  ·cases h
 ·cases h
def natsT (f : Bl → Bl) : List Nat := natsB (f .nil)
def PutT (f : Bl → Bl) : Prop := ∀ t, natsB (f t) = natsT f ++ natsB t
def WayT (st : Bs → R Tr.T) : Prop := ∀ l (f : Bl → Bl) l', st l = .ok (f, l') → Way l l' (natsT f) ∧ PutT f
theorem joinB_nats : ∀ (fs : List (Bl → Bl)), (∀ f ∈ fs, PutT f) → natsB (joinB fs) = (fs.map natsT).flatten
 | [], _ => rfl
 | f :: fs, h => by
  show natsB (f (joinB fs)) = natsT f ++ (fs.map natsT).flatten
  rw [h f (List.mem_cons_self ..), joinB_nats fs fun g hg => h g (List.mem_cons_of_mem _ hg)]
theorem pMany_way {st : Bs → R Tr.T} (hs : WayT st) {a : Bs} : ∀ m (acc : List (Bl → Bl)) l ys l', Way a l (acc.map natsT).flatten → (∀ f ∈ acc, PutT f) → pMany Tr st m acc l = .ok (ys, l') → Way a l' (ys.map natsT).flatten ∧ ∀ f ∈ ys, PutT f := by
 intro m
 induction m with
 | zero => intro acc l ys l' hx ha h; cases h; exact ⟨hx, ha⟩
 | succ m ih =>
  intro acc l ys l' hx ha h
  rw [pMany_succ Tr st m acc l] at h
  split at h
  ·split at h
   ·next f l1 hf =>
    obtain ⟨h1, h2⟩ := hs _ _ _ hf
    refine ih _ _ _ _ ?_ (fun z hz => ?_) h
    ·have e : (List.map natsT (@HAppend.hAppend (List (Bl → Bl)) (List (Bl → Bl)) _ _ acc [f])).flatten = (List.map natsT acc).flatten ++ natsT f := by
      simp only [List.map_append, List.flatten_append]
      exact congrArg ((List.map natsT acc).flatten ++ ·) (List.append_nil (natsT f))
     exact Eq.mpr (congrArg (Way a l1) e) (hx.trans h1)
    ·rcases List.mem_append.1 hz with hz | hz
     ·exact ha z hz
     ·rw [List.mem_singleton.1 hz]; exact h2
   ·cases h
  ·cases h; exact ⟨hx, ha⟩
theorem pBlock_way {st : Bs → R Tr.T} (hs : WayT st) {o : Nat} {l : Bs} {xs : List (Bl → Bl)} {l' : Bs} (h : pBlock Tr st o l = .ok (xs, l')) : Way l l' (natsB (joinB xs)) := by
 unfold pBlock at h
 split at h
 ·next l1 he =>
  split at h
  ·next ys l2 hm =>
   obtain ⟨h1, h2⟩ := pMany_way hs _ [] _ _ _ .nil (fun z hz => by cases hz) hm
   split at h
   ·next l3 ht3 =>
    cases h
    rw [joinB_nats _ h2]
    exact ((way_enter he (by simp) rfl).less h1).more (way_take ht3 (by simp) rfl)
   ·cases h
  ·cases h
 ·cases h
theorem pStmt_way : ∀ n o, WayT (pStmt Tr n o) := by
 intro n
 induction n with
 | zero => intro o l x l' h; cases h
 | succ n ih =>
  intro o l f l' h
  unfold pStmt at h
  split at h
  ·next ht =>
   unfold pRead at h
   split at h
   ·next k l1 hk =>
    split at h
    ·next l2 h2 =>
     cases h
     exact ⟨(way_tok ht (by decide) rfl).less ((way_name hk).less (way_take h2 (by simp) rfl)), fun t => rfl⟩
    ·cases h
   ·cases h
  ·split at h
   ·next ht =>
    unfold pAssert at h
    split at h
    ·next k x1 y1 l1 hc =>
     split at h
     ·next l2 h6 =>
      cases h
      refine ⟨(way_tok ht (by decide) rfl).less (Way.more (l := l1) ?_ (way_take h6 (by simp) rfl)), fun t => ?_⟩
      ·show Way _ _ (natsS x1 ++ natsS y1 ++ [])
       rw [List.append_nil]; exact pCond_way hc
      ·show natsS x1 ++ natsS y1 ++ natsB t = (natsS x1 ++ natsS y1 ++ []) ++ natsB t
       rw [List.append_nil]
     ·cases h
    ·cases h
   ·split at h
    ·next ht =>
     unfold pIf at h
     split at h
     ·next k x1 y1 l1 hc =>
      split at h
      ·next xs l2 hb =>
       have hb1 := pBlock_way (ih _) hb
       split at h
       ·next hel =>
        split at h
        ·next ys l3 hb2 =>
         have hb3 := pBlock_way (ih _) hb2
         cases h
         refine ⟨(way_tok ht (by decide) rfl).less ?_, fun t => ?_⟩
         ·show Way _ _ (natsS x1 ++ natsS y1 ++ natsB (joinB xs) ++ natsB (joinB ys) ++ [])
          rw [List.append_nil]
          exact (((pCond_way hc).trans hb1).more (way_tok hel (by decide) rfl)).trans hb3
         ·show natsS x1 ++ natsS y1 ++ natsB (joinB xs) ++ natsB (joinB ys) ++ natsB t = (natsS x1 ++ natsS y1 ++ natsB (joinB xs) ++ natsB (joinB ys) ++ []) ++ natsB t
          rw [List.append_nil]
        ·cases h
       ·cases h
        refine ⟨(way_tok ht (by decide) rfl).less ?_, fun t => ?_⟩
        ·show Way _ _ (natsS x1 ++ natsS y1 ++ natsB (joinB xs) ++ [] ++ [])
         rw [List.append_nil, List.append_nil]
         exact (pCond_way hc).trans hb1
        ·show natsS x1 ++ natsS y1 ++ natsB (joinB xs) ++ [] ++ natsB t = (natsS x1 ++ natsS y1 ++ natsB (joinB xs) ++ [] ++ []) ++ natsB t
         rw [List.append_nil, List.append_nil]
      ·cases h
     ·cases h
    ·split at h
     ·next ht =>
      unfold pWhile at h
      split at h
      ·next k x1 y1 l1 hc =>
       split at h
       ·next xs l2 hb =>
        have hb1 := pBlock_way (ih _) hb
        cases h
        refine ⟨(way_tok ht (by decide) rfl).less ?_, fun t => ?_⟩
        ·show Way _ _ (natsS x1 ++ natsS y1 ++ natsB (joinB xs) ++ [])
         rw [List.append_nil]
         exact (pCond_way hc).trans hb1
        ·show natsS x1 ++ natsS y1 ++ natsB (joinB xs) ++ natsB t = (natsS x1 ++ natsS y1 ++ natsB (joinB xs) ++ []) ++ natsB t
         rw [List.append_nil]
       ·cases h
      ·cases h
     ·unfold pAssign at h
      split at h
      ·next k l1 hk =>
       split at h
       ·next l2 h2 =>
        split at h
        ·next x1 l3 hx =>
         split at h
         ·next l4 h10 =>
          cases h
          refine ⟨(way_name hk).less ((way_take h2 (by simp) rfl).less (Way.more (l := l3) ?_ (way_take h10 (by simp) rfl))), fun t => ?_⟩
          ·show Way _ _ (natsS x1 ++ [])
           rw [List.append_nil]; exact pS_way hx
          ·show natsS x1 ++ natsB t = (natsS x1 ++ []) ++ natsB t
           rw [List.append_nil]
         ·cases h
        ·cases h
       ·cases h
      ·cases h
theorem tree_nums {src : Bs} {t : Bl} {ns : List Nat} (h : tree src = .ok t) (hn : Nums (skip src) [] ns) : natsB t = ns := by
 unfold tree at h
 split at h
 ·next fs hp =>
  cases h
  unfold parse at hp
  split at hp
  ·cases hp
  ·split at hp
   ·next ys hq =>
    cases hp
    unfold pProg at hq
    split at hq
    ·next zs l1 hm =>
     split at hq
     ·next he =>
      cases hq
      obtain ⟨h1, h2⟩ := pMany_way (pStmt_way _ _) _ [] _ _ _ .nil (fun z hz => by cases hz) hm
      subst he
      rw [joinB_nats _ h2]
      exact (Way.same _ (Nat.le_refl _) hn h1).symm
     ·cases hq
    ·cases hq
   ·cases hp
 ·cases h
end Sp
end Go.Proofs.YtiopfihjmkfdmaaGreatDoor
