import Derived.Test.YtiopfihjmkfdmaaGreatDoorS18
import Derived.Test.YtiopfihjmkfdmaaGreatDoorS21
import Derived.Test.YtiopfihjmkfdmaaGreatDoorS22
import Derived.Test.YtiopfihjmkfdmaaGreatDoorS20
import Derived.Test.YtiopfihjmkfdmaaGreatDoorS19
namespace Go.Proofs.YtiopfihjmkfdmaaGreatDoor
namespace Sp
section
variable {D : Dom} (K : Rk D)
structure Ab : Prop where
 keep : ∀ x y, K.wf x → K.sub y x → D.join x y = x
def TelWf : Tel D.V → Prop
 | .point _ s => ∀ k, K.wf (s k)
 | .site _ _ => True
def TelsWf (es : List (Tel D.V)) : Prop := ∀ ev ∈ es, TelWf K ev
variable {K}
theorem TelsWf.left {es es' : List (Tel D.V)} (h : TelsWf K (es ++ es')) : TelsWf K es := fun ev hv => h ev (List.mem_append.2 (.inl hv))
theorem TelsWf.right {es es' : List (Tel D.V)} (h : TelsWf K (es ++ es')) : TelsWf K es' := fun ev hv => h ev (List.mem_append.2 (.inr hv))
theorem assign_wf' {k : Nat} {x : Sm} (hx : OkS x) (ct : Ct) (e : D.Env) (he : ∀ k, K.wf (e k)) : Wf K (stAssign D k x ct e).2 := by
 unfold stAssign
 intro e' h'
 cases hv : (anS D x ct e).2 with
 | none => rw [hv] at h'; cases h'
 | some v =>
  rw [hv] at h'
  cases h'
  exact wf_set he k (anS_wf x hx ct e he v hv)
theorem if_wf' {cond : CondF D} {f g : D.St → Res D} (hc : CondWf K cond) (hf : BodyWf K f) (hg : BodyWf K g) (e : D.Env) (he : ∀ k, K.wf (e k)) : Wf K (stIf D cond f g e).2 :=
 wf_jn (hf _ (hc _ (Wf.some he)).1) (hg _ (hc _ (Wf.some he)).2)
variable (K)
def WfF (F : Found D) : Prop := ∀ s ∈ F.1, Wf K s
def Told (F : Found D) : Tel D.V → Prop
 | .point p s => ∀ f, F.1[p.toNat]? = some f → subS K (some s) f
 | .site q bad => ∀ n, F.2[q.toNat]? = some n → (if bad then 2 else 1) ≤ n
def ToldAll (F : Found D) (es : List (Tel D.V)) : Prop := ∀ ev ∈ es, Told K F ev
variable {K}
theorem modify_get {α : Type} {l : List α} {p i : Nat} {f : α → α} {y : α} (h : (l.modify p f)[i]? = some y) : ∃ x, l[i]? = some x ∧ y = if p = i then f x else x := by
 rw [List.getElem?_modify] at h
 cases hx : l[i]? with
 | none => rw [hx] at h; simp at h
 | some x =>
  rw [hx] at h
  refine ⟨x, rfl, ?_⟩
  by_cases hp : p = i
  ·rw [if_pos hp]; simpa [hp] using h.symm
  ·rw [if_neg hp]; simpa [hp] using h.symm
theorem told_grow {F : Found D} {x : Tel D.V} (h : Told K F x) (y : Tel D.V) : Told K (tell1 D F y) x := by
 cases x with
 | point p s =>
  cases y with
  | site q b => exact h
  | point q t =>
   intro f hf
   obtain ⟨g, hg, rfl⟩ := modify_get hf
   split
   ·exact subS_trans (h g hg) (subS_l g _)
   ·exact h g hg
 | site q b =>
  cases y with
  | point p t => exact h
  | site q' b' =>
   intro n hn
   obtain ⟨m, hm, rfl⟩ := modify_get hn
   have := h m hm
   by_cases hq : q'.toNat = q.toNat
   ·rw [if_pos hq]; exact Nat.le_trans this (Nat.le_max_left _ _)
   ·rw [if_neg hq]; exact this
theorem told_grows {F : Found D} {x : Tel D.V} : ∀ (es : List (Tel D.V)) {F : Found D}, Told K F x → Told K (tell D F es) x
 | [], _, h => h
 | y :: es, _, h => told_grows (F := F) es (told_grow h y)
theorem ToldAll.grow {F : Found D} {es : List (Tel D.V)} (h : ToldAll K F es) (es' : List (Tel D.V)) : ToldAll K (tell D F es') es := fun ev hv => told_grows (F := F) es' (h ev hv)
theorem told_now (F : Found D) (x : Tel D.V) : Told K (tell1 D F x) x := by
 cases x with
 | point p s =>
  intro f hf
  obtain ⟨g, _, rfl⟩ := modify_get hf
  rw [if_pos rfl]
  exact subS_r g _
 | site q b =>
  intro n hn
  obtain ⟨m, _, rfl⟩ := modify_get hn
  rw [if_pos rfl]
  omega
theorem toldAll_now : ∀ (es : List (Tel D.V)) (F : Found D), ToldAll K (tell D F es) es
 | [], _ => fun _ h => by cases h
 | x :: es, F => fun ev hv => by
  rcases List.mem_cons.1 hv with rfl | hv
  ·exact told_grows (F := F) es (told_now F ev)
  ·exact toldAll_now es (tell1 D F x) ev hv
theorem jn_keep (A : Ab K) {f : D.St} {s : D.Env} (hf : Wf K f) (h : subS K (some s) f) : jn D f (some s) = f := by
 obtain ⟨g, rfl, hg⟩ := h s rfl
 show some (fun k => D.join (g k) (s k)) = some g
 congr 1
 funext k
 exact A.keep _ _ (hf _ rfl k) (hg k)
theorem tell1_keep (A : Ab K) {F : Found D} (hF : WfF K F) {x : Tel D.V} (h : Told K F x) : tell1 D F x = F := by
 obtain ⟨fs, ns⟩ := F
 cases x with
 | point p s =>
  show (fs.modify p.toNat (fun f => jn D f (some s)), ns) = (fs, ns)
  congr 1
  refine List.ext_getElem? fun i => ?_
  rw [List.getElem?_modify]
  cases hi : fs[i]? with
  | none => rfl
  | some f =>
   by_cases hp : p.toNat = i
   ·subst hp
    simp only [if_true, Option.map_eq_map, Option.map_some]
    rw [jn_keep A (hF f (List.mem_of_getElem? hi)) (h f hi)]
   ·simp [hp]
 | site q b =>
  show (fs, ns.modify q.toNat (fun n => max n (if b then 2 else 1))) = (fs, ns)
  congr 1
  refine List.ext_getElem? fun i => ?_
  rw [List.getElem?_modify]
  cases hi : ns[i]? with
  | none => rfl
  | some n =>
   by_cases hp : q.toNat = i
   ·subst hp
    have := h n hi
    simp only [if_true, Option.map_eq_map, Option.map_some]
    rw [Nat.max_eq_left this]
   ·simp [hp]
theorem tell_keep (A : Ab K) {F : Found D} (hF : WfF K F) : ∀ {es : List (Tel D.V)}, ToldAll K F es → tell D F es = F
 | [], _ => rfl
 | x :: es, h => by
  show tell D (tell1 D F x) es = F
  rw [tell1_keep A hF (h x (List.mem_cons_self ..))]
  exact tell_keep A hF fun ev hv => h ev (List.mem_cons_of_mem _ hv)
theorem wfF_tell1 {F : Found D} (hF : WfF K F) {x : Tel D.V} (h : TelWf K x) : WfF K (tell1 D F x) := by
 cases x with
 | site q b => exact hF
 | point p s =>
  intro f hf
  obtain ⟨i, hi⟩ := List.getElem?_of_mem hf
  obtain ⟨g, hg, rfl⟩ := modify_get hi
  have hw := hF g (List.mem_of_getElem? hg)
  split
  ·exact wf_jn hw (Wf.some h)
  ·exact hw
end
end Sp
end Go.Proofs.YtiopfihjmkfdmaaGreatDoor
namespace Go.Proofs.YtiopfihjmkfdmaaGreatDoor
namespace Sp
structure Cg where
 m : Nat
 r : Int
deriving DecidableEq
def cgMem (x : Cg) (n : Int) : Prop := if x.m = 0 then n = x.r else (n - x.r) % (x.m : Int) = 0
instance (x : Cg) (n : Int) : Decidable (cgMem x n) := by unfold cgMem; infer_instance
end Sp
end Go.Proofs.YtiopfihjmkfdmaaGreatDoor
namespace Go.Proofs.YtiopfihjmkfdmaaGreatDoor
namespace Sp
end Sp
end Go.Proofs.YtiopfihjmkfdmaaGreatDoor
namespace Go.Proofs.YtiopfihjmkfdmaaGreatDoor
namespace Sp
theorem ivAb (steps : List Int) : Ab (ivRk steps) where
 keep x y _ h := by
  have h1 : x.a ≤ y.a := h.1
  have h2 : y.b ≤ x.b := h.2
  show (⟨min x.a y.a, max x.b y.b⟩ : Iv) = x
  refine iv_ext ?_ ?_
  ·show min x.a y.a = x.a; omega
  ·show max x.b y.b = x.b; omega
end Sp
end Go.Proofs.YtiopfihjmkfdmaaGreatDoor
namespace Go.Proofs.YtiopfihjmkfdmaaGreatDoor
namespace WI
open Go.RowKit
set_option maxRecDepth 100000
set_option maxHeartbeats 400000
abbrev Par := List Int
abbrev ST := Option (Fin 8 → Sp.Iv)
abbrev Dm (π : Par) : Sp.Dom := Sp.ivDom π
abbrev Kr (π : Par) : Sp.Rk (Dm π) := Sp.ivRk π
theorem abs (π : Par) : Sp.Ab (Kr π) := Sp.ivAb π
abbrev Wv (x : Sp.Iv) : Prop := Sp.ivWf x
def vNum (n : Int) : Sp.Iv := ⟨n, n⟩
def vWhole : Sp.Iv := Sp.ivWhole
def vNeg (x : Sp.Iv) : Sp.Iv := Sp.hull2 (-x.b) (-x.a)
def vWork : Nat → Sp.Iv → Sp.Iv → Option Sp.Iv := Sp.ivWork
def vNought (x : Sp.Iv) : Bool := decide (x.a ≤ 0) && decide (0 ≤ x.b)
def vJoin (x y : Sp.Iv) : Sp.Iv := ⟨min x.a y.a, max x.b y.b⟩
def vMay : Nat → Sp.Iv → Sp.Iv → Bool := Sp.ivMay
def vBound : Nat → Sp.Iv → Sp.Iv → Option Sp.Iv := Sp.ivBound
def vWiden (π : Par) : Sp.Iv → Sp.Iv → Sp.Iv := Sp.ivWiden π
def vNarrow : Sp.Iv → Sp.Iv → Sp.Iv := Sp.ivNarrow
def vTell (x : Sp.Iv) : Int × Int := (x.a, x.b)
def opV : Option Sp.Iv → Value
 | some x => .tuple #[.agg #[.int .i16 x.a, .int .i16 x.b], .bool true]
 | none => .tuple #[.agg #[.int .i16 0, .int .i16 0], .bool false]
theorem opV_eq (o : Option Sp.Iv) : optV o = opV o := by cases o <;> rfl
def Does (B : Nat) (π : Par) (dv : Value) (w : World) : Prop :=
 B ≤ w.heap.size ∧ ∃ g off cap, dv = .agg #[.slice (some ⟨g, off, none⟩) π.length cap] ∧ g < B ∧ (π.length : Int) ≤ 1000000 ∧ ∀ i x, π[i]? = some x → w.cell? ⟨g, off + i, none⟩ = some (.int .i16 x)
theorem Does.below {B : Nat} {π : Par} {dv : Value} {w w' : World} (h : Does B π dv w) (hb : Below B w w') : Does B π dv w' := by
 obtain ⟨h0, g, off, cap, rfl, hg, hl, hc⟩ := h
 exact ⟨Nat.le_trans h0 hb.size, g, off, cap, rfl, hg, hl, fun i x hx => by rw [hb.cell (p := ⟨g, off + i, none⟩) hg]; exact hc i x hx⟩
theorem Does.at {B : Nat} {π : Par} {dv : Value} {w : World} (h : Does B π dv w) : ∃ u, dv = .agg #[u] ∧ StepsAt w u π := by
 obtain ⟨h0, g, off, cap, rfl, hg, hl, hc⟩ := h
 exact ⟨_, rfl, g, off, cap, rfl, Nat.lt_of_lt_of_le hg h0, hl, hc⟩
theorem Does.size {B : Nat} {π : Par} {dv : Value} {w : World} (h : Does B π dv w) : B ≤ w.heap.size := h.1
theorem dNumber {B : Nat} {π : Par} {dv : Value} {w : World} (h : Does B π dv w) (n : Int) :
  Calls Tryz.prog 324 #[dv, .int .i16 n] w fun e w' => e = .returned (.agg #[.int .i16 (vNum n).a, .int .i16 (vNum n).b]) ∧ Below w.heap.size w w' := by
 obtain ⟨u, rfl, _⟩ := h.at
 exact iv_number u n w
theorem dWhole {B : Nat} {π : Par} {dv : Value} {w : World} (h : Does B π dv w) :
  Calls Tryz.prog 326 #[dv] w fun e w' => e = .returned (.agg #[.int .i16 vWhole.a, .int .i16 vWhole.b]) ∧ Below w.heap.size w w' := by
 obtain ⟨u, rfl, _⟩ := h.at
 exact iv_whole u w
theorem dNegate {B : Nat} {π : Par} {dv : Value} {w : World} (h : Does B π dv w) {x : Sp.Iv} (hx : Wv x) :
  Calls Tryz.prog 323 #[dv, .agg #[.int .i16 x.a, .int .i16 x.b]] w fun e w' => e = .returned (.agg #[.int .i16 (vNeg x).a, .int .i16 (vNeg x).b]) ∧ Below w.heap.size w w' := by
 obtain ⟨u, rfl, _⟩ := h.at
 exact iv_negate u x.a x.b w hx.1 hx.2.1 hx.2.2
theorem dWork {B : Nat} {π : Par} {dv : Value} {w : World} (h : Does B π dv w) {k : Nat} (hk : k < 5) {x y : Sp.Iv} (hx : Wv x) (hy : Wv y) :
  Calls Tryz.prog 328 #[dv, .int .i64 (k : Nat), .agg #[.int .i16 x.a, .int .i16 x.b], .agg #[.int .i16 y.a, .int .i16 y.b]] w fun e w' => e = .returned (opV (vWork k x y)) ∧ Below w.heap.size w w' := by
 obtain ⟨u, rfl, _⟩ := h.at
 have := iv_work u k hk x.a x.b y.a y.b w hx.1 hx.2.1 hx.2.2 hy.1 hy.2.1 hy.2.2
 rw [opV_eq] at this
 exact this
theorem dNought {B : Nat} {π : Par} {dv : Value} {w : World} (h : Does B π dv w) (x : Sp.Iv) :
  Calls Tryz.prog 319 #[dv, .agg #[.int .i16 x.a, .int .i16 x.b]] w fun e w' => e = .returned (.bool (vNought x)) ∧ Below w.heap.size w w' := by
 obtain ⟨u, rfl, _⟩ := h.at
 exact iv_nought u x.a x.b w
theorem dJoin {B : Nat} {π : Par} {dv : Value} {w : World} (h : Does B π dv w) {x y : Sp.Iv} (_ : Wv x) (_ : Wv y) :
  Calls Tryz.prog 320 #[dv, .agg #[.int .i16 x.a, .int .i16 x.b], .agg #[.int .i16 y.a, .int .i16 y.b]] w fun e w' => e = .returned (.agg #[.int .i16 (vJoin x y).a, .int .i16 (vJoin x y).b]) ∧ Below w.heap.size w w' := by
 obtain ⟨u, rfl, _⟩ := h.at
 exact iv_join u x.a x.b y.a y.b w
theorem dMay {B : Nat} {π : Par} {dv : Value} {w : World} (h : Does B π dv w) (hT : Turns w) (hs : 11 ≤ w.heap.size) {r : Nat} (hr : r < 6) {x y : Sp.Iv} (_ : Wv x) (_ : Wv y) :
  Calls Tryz.prog 321 #[dv, .int .i64 (r : Nat), .agg #[.int .i16 x.a, .int .i16 x.b], .agg #[.int .i16 y.a, .int .i16 y.b]] w fun e w' => e = .returned (.bool (vMay r x y)) ∧ Below w.heap.size w w' := by
 obtain ⟨u, rfl, _⟩ := h.at
 exact iv_may u r hr x.a x.b y.a y.b w hT hs
theorem dBound {B : Nat} {π : Par} {dv : Value} {w : World} (h : Does B π dv w) {r : Nat} (hr : r < 6) {x y : Sp.Iv} (_ : Wv x) (hy : Wv y) :
  Calls Tryz.prog 318 #[dv, .int .i64 (r : Nat), .agg #[.int .i16 x.a, .int .i16 x.b], .agg #[.int .i16 y.a, .int .i16 y.b]] w fun e w' => e = .returned (opV (vBound r x y)) ∧ Below w.heap.size w w' := by
 obtain ⟨u, rfl, _⟩ := h.at
 have := iv_bound u r hr x.a x.b y.a y.b w hy.1 (Int.le_trans hy.2.1 hy.2.2) (Int.le_trans hy.1 hy.2.1) hy.2.2
 rw [opV_eq] at this
 exact this
theorem dWiden {B : Nat} {π : Par} {dv : Value} {w : World} (h : Does B π dv w) {x y : Sp.Iv} (_ : Wv x) (_ : Wv y) :
  Calls Tryz.prog 327 #[dv, .agg #[.int .i16 x.a, .int .i16 x.b], .agg #[.int .i16 y.a, .int .i16 y.b]] w fun e w' => e = .returned (.agg #[.int .i16 (vWiden π x y).a, .int .i16 (vWiden π x y).b]) ∧ Below w.heap.size w w' := by
 obtain ⟨u, rfl, hs⟩ := h.at
 exact iv_widen u π x.a x.b y.a y.b w hs
theorem dNarrow {B : Nat} {π : Par} {dv : Value} {w : World} (h : Does B π dv w) {x y : Sp.Iv} (_ : Wv x) (_ : Wv y) :
  Calls Tryz.prog 322 #[dv, .agg #[.int .i16 x.a, .int .i16 x.b], .agg #[.int .i16 y.a, .int .i16 y.b]] w fun e w' => e = .returned (.agg #[.int .i16 (vNarrow x y).a, .int .i16 (vNarrow x y).b]) ∧ Below w.heap.size w w' := by
 obtain ⟨u, rfl, _⟩ := h.at
 exact iv_narrow u x.a x.b y.a y.b w
theorem dTell {B : Nat} {π : Par} {dv : Value} {w : World} (h : Does B π dv w) {x : Sp.Iv} (hx : Wv x) :
  Calls Tryz.prog 325 #[dv, .agg #[.int .i16 x.a, .int .i16 x.b]] w fun e w' => e = .returned (.agg #[.int .i64 (vTell x).1, .int .i64 (vTell x).2]) ∧ Below w.heap.size w w' := by
 obtain ⟨u, rfl, _⟩ := h.at
 exact iv_tell u x.a x.b w hx.1 (Int.le_trans hx.2.1 hx.2.2) (Int.le_trans hx.1 hx.2.1) hx.2.2
end WI
end Go.Proofs.YtiopfihjmkfdmaaGreatDoor
namespace Go.Proofs.YtiopfihjmkfdmaaGreatDoor
namespace WI
open Go.RowKit
set_option maxRecDepth 100000
set_option maxHeartbeats 1000000
def stI (r : Bool) (l : List Sp.Iv) : Array Value := stA (fun v : Sp.Iv => .int .i16 v.a) (fun v : Sp.Iv => .int .i16 v.b) r l
theorem stI_get {r : Bool} {l : List Sp.Iv} {j : Nat} {v : Sp.Iv} (h : l[j]? = some v) : (stI r l)[1 + j * 2]? = some (.int .i16 v.a) ∧ (stI r l)[1 + j * 2 + 1]? = some (.int .i16 v.b) := stA_get _ _ h
theorem stI_set {r : Bool} {l : List Sp.Iv} {j : Nat} (v : Sp.Iv) (h : j < l.length) : ((stI r l).setIfInBounds (1 + j * 2) (.int .i16 v.a)).setIfInBounds (1 + j * 2 + 1) (.int .i16 v.b) = stI r (l.set j v) := stA_set (fun v : Sp.Iv => .int .i16 v.a) (fun v : Sp.Iv => .int .i16 v.b) v h
theorem stI_size {r : Bool} {l : List Sp.Iv} (h : l.length = 8) : (stI r l).size = 17 := stA_size _ _ h
theorem stI_zero (r : Bool) (l : List Sp.Iv) (h : 0 < (stI r l).size) : (stI r l)[0] = .bool r := rfl
theorem stI_one (r : Bool) (l : List Sp.Iv) : (stI r l).all (·.oneCell') = true := stA_one _ _ (fun _ => rfl) (fun _ => rfl) r l
def noneI : Array Value := #[.bool false, .int .i16 0, .int .i16 0, .int .i16 0, .int .i16 0, .int .i16 0, .int .i16 0, .int .i16 0, .int .i16 0, .int .i16 0, .int .i16 0, .int .i16 0, .int .i16 0, .int .i16 0, .int .i16 0, .int .i16 0, .int .i16 0]
structure EachAt (w : World) (l ys : List Sp.Iv) (W : World) : Prop where
 x : W.heap[w.heap.size]? = some (.cells (stI true l) 220)
 y : W.heap[w.heap.size + 1]? = some (.cells (stI true ys) 220)
 z : W.heap[w.heap.size + 1 + 1]? = some (.cells noneI 220)
 b : Below w.heap.size w W
theorem EachAt.call {w : World} {l ys : List Sp.Iv} {W W' : World} (h : EachAt w l ys W) (k : Below W.heap.size W W') : EachAt w l ys W' :=
 ⟨(k.block _ (heap_lt h.x)).trans h.x, (k.block _ (heap_lt h.y)).trans h.y, (k.block _ (heap_lt h.z)).trans h.z, h.b.trans (k.mono h.b.size)⟩
theorem EachAt.set {w : World} {l ys : List Sp.Iv} {W : World} (h : EachAt w l ys W) {j : Nat} (hj : j < l.length) (v : Sp.Iv) : EachAt w (l.set j v) ys ((W.setCell ⟨w.heap.size, 1 + j * 2, none⟩ (.int .i16 v.a)).setCell ⟨w.heap.size, 1 + j * 2 + 1, none⟩ (.int .i16 v.b)) := by
 refine ⟨?_, ?_, ?_, (h.b.setCell (p := ⟨w.heap.size, 1 + j * 2, none⟩) (Nat.le_refl _) _).setCell (p := ⟨w.heap.size, 1 + j * 2 + 1, none⟩) (Nat.le_refl _) _⟩
 ·rw [heap_setCell_at (heap_setCell_at h.x (1 + j * 2) (.int .i16 v.a)) (1 + j * 2 + 1) (.int .i16 v.b), stI_set v hj]
 ·rw [Below.heap_setCell _ _ _ _ (by show w.heap.size + 1 ≠ w.heap.size; omega), Below.heap_setCell _ _ _ _ (by show w.heap.size + 1 ≠ w.heap.size; omega)]; exact h.y
 ·rw [Below.heap_setCell _ _ _ _ (by show w.heap.size + 1 + 1 ≠ w.heap.size; omega), Below.heap_setCell _ _ _ _ (by show w.heap.size + 1 + 1 ≠ w.heap.size; omega)]; exact h.z
theorem EachAt.cells {w : World} {l ys : List Sp.Iv} {W : World} (h : EachAt w l ys W) {j : Nat} {x : Sp.Iv} (hx : l[j]? = some x) : W.cell? ⟨w.heap.size, 1 + j * 2, none⟩ = some (.int .i16 x.a) ∧ W.cell? ⟨w.heap.size, 1 + j * 2 + 1, none⟩ = some (.int .i16 x.b) ∧ W.frozen? ⟨w.heap.size, 1 + j * 2, none⟩ = false ∧ W.frozen? ⟨w.heap.size, 1 + j * 2 + 1, none⟩ = false :=
 ⟨cell_of h.x _ (stI_get hx).1, cell_of h.x _ (stI_get hx).2, frozen_of h.x _, frozen_of h.x _⟩
def mixI (g : Sp.Iv → Sp.Iv → Sp.Iv) (xs ys : List Sp.Iv) (j : Nat) : List Sp.Iv := (List.zipWith g xs ys).take j ++ xs.drop j
theorem mixI_at {g : Sp.Iv → Sp.Iv → Sp.Iv} {xs ys : List Sp.Iv} (hx : xs.length = 8) (hy : ys.length = 8) {j : Nat} (hj : j < 8) {x : Sp.Iv} (h : xs[j]? = some x) : (mixI g xs ys j)[j]? = some x := by
 have hl : ((List.zipWith g xs ys).take j).length = j := by simp; omega
 unfold mixI
 rw [List.getElem?_append_right (by omega), hl, Nat.sub_self, List.getElem?_drop, Nat.add_zero]
 exact h
theorem mixI_set {g : Sp.Iv → Sp.Iv → Sp.Iv} {xs ys : List Sp.Iv} (hx : xs.length = 8) (hy : ys.length = 8) {j : Nat} (hj : j < 8) {x y : Sp.Iv} (h : xs[j]? = some x) (k : ys[j]? = some y) : (mixI g xs ys j).set j (g x y) = mixI g xs ys (j + 1) := by
 have hl : ((List.zipWith g xs ys).take j).length = j := by simp; omega
 have hz : (List.zipWith g xs ys)[j]? = some (g x y) := by rw [List.getElem?_zipWith, h, k]
 have hk := List.getElem?_eq_some_iff.1 hz
 have hd : xs.drop j = x :: xs.drop (j + 1) := by
  rw [List.drop_eq_getElem_cons (by omega), (List.getElem?_eq_some_iff.1 h).2]
 unfold mixI
 rw [List.set_append_right _ _ (by omega), hl, Nat.sub_self, hd, List.set_cons_zero, List.take_succ_eq_append_getElem hk.1, hk.2, List.append_assoc]
 rfl
theorem mixI_end {g : Sp.Iv → Sp.Iv → Sp.Iv} {xs ys : List Sp.Iv} (hx : xs.length = 8) (hy : ys.length = 8) : mixI g xs ys 8 = List.zipWith g xs ys := by
 unfold mixI
 rw [List.take_of_length_le (by simp; omega), List.drop_of_length_le (by omega), List.append_nil]
theorem each_join (uD : Value) (g : Sp.Iv → Sp.Iv → Sp.Iv) (xs ys : List Sp.Iv) (w : World) (hx : xs.length = 8) (hy : ys.length = 8) (hwx : ∀ x ∈ xs, Wv x) (hwy : ∀ y ∈ ys, Wv y)
  (hput : ∀ W x y, Below w.heap.size w W → Wv x → Wv y → Calls Tryz.prog 320 #[uD, .agg #[.int .i16 x.a, .int .i16 x.b], .agg #[.int .i16 y.a, .int .i16 y.b]] W fun e w' => e = .returned (.agg #[.int .i16 (g x y).a, .int .i16 (g x y).b]) ∧ Below W.heap.size W w') :
  Calls Tryz.prog 162 #[.agg (stI true xs), .agg (stI true ys), .func (Fn.method "Join") #[.iface 133 uD] #[]] w fun e w' => e = .returned (.agg (stI true (List.zipWith g xs ys))) ∧ Below w.heap.size w w' := by
 have HP : Hid (_) := hput
 have zx := stI_zero true xs
 have zy := stI_zero true ys
 have H0 : Hid (EachAt w xs ys (((w.alloc (.cells (stI true xs) 220)).alloc (.cells (stI true ys) 220)).alloc (.cells #[.bool false, .int .i16 0, .int .i16 0, .int .i16 0, .int .i16 0, .int .i16 0, .int .i16 0, .int .i16 0, .int .i16 0, .int .i16 0, .int .i16 0, .int .i16 0, .int .i16 0, .int .i16 0, .int .i16 0, .int .i16 0, .int .i16 0] 220))) := by
  obtain ⟨k0, k1, k2, kb⟩ := laid3b (w := w) (o1 := .cells (stI true xs) 220) (o2 := .cells (stI true ys) 220) (o3 := .cells noneI 220) (Below.refl _ _)
  exact ⟨k0, k1, k2, kb⟩
 have sx : (stI true xs).size = 17 := stI_size hx
 have sy : (stI true ys).size = 17 := stI_size hy
 clear hput
 go_enter Tryz.func162, Tryz.ntmps162
 go_wp2_with fail
 go_loopw [17] (fun v17 wr => ∃ j : Nat, j ≤ 8 ∧ v17 = .int .i64 j ∧ Hid (EachAt w (mixI g xs ys j) ys wr)) (fun v17 _ => 8 - (intOf v17).toNat)
 case atStart => exact ⟨0, Nat.zero_le _, rfl, H0.out⟩
 case round =>
  obtain ⟨j, hj, rfl, hq⟩ := hrel
  clear H0 zx zy sx sy
  by_cases hjlt : j < 8
  ·obtain ⟨x, hxj⟩ : ∃ x, xs[j]? = some x := ⟨_, List.getElem?_eq_getElem (by omega)⟩
   obtain ⟨y, hyj⟩ : ∃ y, ys[j]? = some y := ⟨_, List.getElem?_eq_getElem (by omega)⟩
   have WX : Hid (Wv x) := hwx x (List.mem_of_getElem? hxj)
   have WY : Hid (Wv y) := hwy y (List.mem_of_getElem? hyj)
   have hmj : (mixI g xs ys j)[j]? = some x := by
    exact mixI_at hx hy hjlt hxj
   have hml : (mixI g xs ys j).length = 8 := by unfold mixI; simp; omega
   have hms : Hid ((mixI g xs ys j).set j (g x y) = mixI g xs ys (j + 1)) := mixI_set hx hy hjlt hxj hyj
   obtain ⟨x0, x1⟩ := stI_get (r := true) hmj
   obtain ⟨y0, y1⟩ := stI_get (r := true) hyj
   have cx0 := cell_of hq.out.x _ x0
   have cx1 := cell_of hq.out.x _ x1
   have cy0 := cell_of hq.out.y _ y0
   have cy1 := cell_of hq.out.y _ y1
   have hji : (j : Int) < 8 := by omega
   clear x0 x1 y0 y1
   go_wp2_with fail
   go_region_with (go_at_call 320; go_must (refine (HP.out _ x y hq.out.b.drew WX.out WY.out).mono ?_); rintro e w1 ⟨rfl, b1⟩; have A1 : Hid (EachAt w (mixI g xs ys j) ys w1) := hq.out.call (W' := w1) ⟨b1.os, b1.tape, b1.output, b1.size, b1.block⟩; obtain ⟨d0, d1, d2, d3⟩ := A1.out.cells hmj)
   all_goals
    have A2 : Hid (EachAt w (mixI g xs ys (j + 1)) ys ((w1.setCell ⟨w.heap.size, 1 + j * 2, none⟩ (.int .i16 (g x y).a)).setCell ⟨w.heap.size, 1 + j * 2 + 1, none⟩ (.int .i16 (g x y).b))) := by
     unfold Hid; rw [← hms.out]; exact A1.out.set (by omega) (g x y)
    clear b1
    go_wp2_with fail
    exact ⟨⟨j + 1, by omega, by go_num, A2⟩, by simp [intOf]; omega⟩
  ·obtain rfl : j = 8 := by omega
   have A : Hid (EachAt w (List.zipWith g xs ys) ys wr) := by unfold Hid; rw [← mixI_end hx hy]; exact hq.out
   have sz : (stI true (List.zipWith g xs ys)).size = 17 := stI_size (by simp; omega)
   have hr : Hid (_ = _) := setCells_whole A.out.z (d := stI true (List.zipWith g xs ys)) (by rw [sz]; rfl)
   have HB : Hid (Below w.heap.size w _) := setCells_below (b := w.heap.size + 1 + 1) (by omega) (stI true (List.zipWith g xs ys)).toList 0 w _ A.out.b
   clear hq hj hjlt
   go_wp2_with (first
    | (refine wp_ld rfl _ rfl rfl A.out.x sz ?_)
    | (refine wp_st rfl _ _ rfl rfl rfl A.out.z rfl sz (stI_one _ _) ?_))
   refine bodyPost_ret (results_st Tryz.results162 _ _ rfl hr.out sz) rfl ⟨rfl, HB.out⟩
end WI
end Go.Proofs.YtiopfihjmkfdmaaGreatDoor
namespace Go.Proofs.YtiopfihjmkfdmaaGreatDoor
open Go.RowKit
section
variable {P : Program} {ops : Array Oper} {Q : Exit → Act → World → Prop} {md : Region.Mode} {S : World → Prop} {fuel : Nat} {listed : Array Bool} {a : Act} {w : World}
theorem rd1 (i : Nat) {o : Oper} (h : ∀ K' : Act → World → Prop, Shut (∀ a w, S w → (S w → wpAnyH P md ops Q S fuel (listed.setIfInBounds i true) a w) → K' a w) → if Region.wanted o (yielded ops a.tmps) = true then Oper.wp P o a w K' Q else K' (a.put o.dst undef) w)
  (hr : Region.ready md ops listed = [i] := by kernel_rfl) (ho : ops[i]? = some o := by rfl) : wpAnyH P md ops Q S (fuel + 1) listed a w :=
 wpAnyH_ready hr (by simp) (AllReadyH.cons ho h AllReadyH.nil)
theorem rd2 (i j : Nat) {o p : Oper} (h : ∀ K' : Act → World → Prop, Shut (∀ a w, S w → (S w → wpAnyH P md ops Q S fuel (listed.setIfInBounds i true) a w) → K' a w) → if Region.wanted o (yielded ops a.tmps) = true then Oper.wp P o a w K' Q else K' (a.put o.dst undef) w)
  (h' : ∀ K' : Act → World → Prop, Shut (∀ a w, S w → (S w → wpAnyH P md ops Q S fuel (listed.setIfInBounds j true) a w) → K' a w) → if Region.wanted p (yielded ops a.tmps) = true then Oper.wp P p a w K' Q else K' (a.put p.dst undef) w)
  (hr : Region.ready md ops listed = [i, j] := by kernel_rfl) (ho : ops[i]? = some o := by rfl) (hp : ops[j]? = some p := by rfl) : wpAnyH P md ops Q S (fuel + 1) listed a w :=
 wpAnyH_ready hr (by simp) (AllReadyH.cons ho h (AllReadyH.cons hp h' AllReadyH.nil))
theorem rd3 (i j k : Nat) {o p r : Oper} (h : ∀ K' : Act → World → Prop, Shut (∀ a w, S w → (S w → wpAnyH P md ops Q S fuel (listed.setIfInBounds i true) a w) → K' a w) → if Region.wanted o (yielded ops a.tmps) = true then Oper.wp P o a w K' Q else K' (a.put o.dst undef) w)
  (h' : ∀ K' : Act → World → Prop, Shut (∀ a w, S w → (S w → wpAnyH P md ops Q S fuel (listed.setIfInBounds j true) a w) → K' a w) → if Region.wanted p (yielded ops a.tmps) = true then Oper.wp P p a w K' Q else K' (a.put p.dst undef) w)
  (h2 : ∀ K' : Act → World → Prop, Shut (∀ a w, S w → (S w → wpAnyH P md ops Q S fuel (listed.setIfInBounds k true) a w) → K' a w) → if Region.wanted r (yielded ops a.tmps) = true then Oper.wp P r a w K' Q else K' (a.put r.dst undef) w)
  (hr : Region.ready md ops listed = [i, j, k] := by kernel_rfl) (ho : ops[i]? = some o := by rfl) (hp : ops[j]? = some p := by rfl) (hq : ops[k]? = some r := by rfl) : wpAnyH P md ops Q S (fuel + 1) listed a w :=
 wpAnyH_ready hr (by simp) (AllReadyH.cons ho h (AllReadyH.cons hp h' (AllReadyH.cons hq h2 AllReadyH.nil)))
theorem rd4 (i j k l : Nat) {o p r s : Oper} (h : ∀ K' : Act → World → Prop, Shut (∀ a w, S w → (S w → wpAnyH P md ops Q S fuel (listed.setIfInBounds i true) a w) → K' a w) → if Region.wanted o (yielded ops a.tmps) = true then Oper.wp P o a w K' Q else K' (a.put o.dst undef) w)
  (h' : ∀ K' : Act → World → Prop, Shut (∀ a w, S w → (S w → wpAnyH P md ops Q S fuel (listed.setIfInBounds j true) a w) → K' a w) → if Region.wanted p (yielded ops a.tmps) = true then Oper.wp P p a w K' Q else K' (a.put p.dst undef) w)
  (h2 : ∀ K' : Act → World → Prop, Shut (∀ a w, S w → (S w → wpAnyH P md ops Q S fuel (listed.setIfInBounds k true) a w) → K' a w) → if Region.wanted r (yielded ops a.tmps) = true then Oper.wp P r a w K' Q else K' (a.put r.dst undef) w)
  (h3 : ∀ K' : Act → World → Prop, Shut (∀ a w, S w → (S w → wpAnyH P md ops Q S fuel (listed.setIfInBounds l true) a w) → K' a w) → if Region.wanted s (yielded ops a.tmps) = true then Oper.wp P s a w K' Q else K' (a.put s.dst undef) w)
  (hr : Region.ready md ops listed = [i, j, k, l] := by kernel_rfl) (ho : ops[i]? = some o := by rfl) (hp : ops[j]? = some p := by rfl) (hq : ops[k]? = some r := by rfl) (hs : ops[l]? = some s := by rfl) : wpAnyH P md ops Q S (fuel + 1) listed a w :=
 wpAnyH_ready hr (by simp) (AllReadyH.cons ho h (AllReadyH.cons hp h' (AllReadyH.cons hq h2 (AllReadyH.cons hs h3 AllReadyH.nil))))
theorem tky (i : Nat) {oi : Oper} {v : Value} (hi : ops[i]? = some oi) (hy : YieldsIf P ops S oi v a) (hS : S w) (h : wpAnyH P md ops Q S fuel (listed.setIfInBounds i true) (a.put oi.dst v) w)
  (hs : Region.noSelect ops = true := by kernel_rfl) (hf : Region.free md ops listed i = true := by kernel_rfl) (hr : (Region.ready md ops listed).contains i = true := by kernel_rfl) (hQ : ∀ c a w, Q (.panic c) (a.put oi.dst v) w → Q (.panic c) a w := by exact fun _ _ _ h => h) : wpAnyH P md ops Q S (fuel + 1) listed a w :=
 wpAnyH_take hi hs hf hr hQ hy hS h
end
end Go.Proofs.YtiopfihjmkfdmaaGreatDoor
