import Derived.Test.YtiopfihjmkfdmaaGreatDoorU26
import Derived.Test.YtiopfihjmkfdmaaGreatDoorU28
import Derived.Deep.MidRow
import Derived.Deep.Upon
namespace Go.Proofs.YtiopfihjmkfdmaaGreatDoor
section
variable {α β : Type} {f : α → List β} {k : Nat}
theorem chunk_len (hk : ∀ a, (f a).length = k) : ∀ l : List α, (l.flatMap f).length = l.length * k
 | [] => by simp
 | a :: l => by rw [List.flatMap_cons, List.length_append, hk, chunk_len hk l, List.length_cons, Nat.add_mul, Nat.one_mul, Nat.add_comm]
theorem chunk_get (hk : ∀ a, (f a).length = k) : ∀ (l : List α) (p : Nat) (a : α) (j : Nat), l[p]? = some a → j < k → (l.flatMap f)[p * k + j]? = (f a)[j]?
 | [], _, _, _, h, _ => by simp at h
 | b :: l, 0, a, j, h, hj => by
  have : b = a := by simpa using h
  subst this
  rw [List.flatMap_cons, Nat.zero_mul, Nat.zero_add, List.getElem?_append_left (by rw [hk]; exact hj)]
 | b :: l, p + 1, a, j, h, hj => by
  rw [List.flatMap_cons, List.getElem?_append_right (by rw [hk, Nat.add_mul]; omega), hk, show (p + 1) * k + j - k = p * k + j by rw [Nat.add_mul]; omega]
  exact chunk_get hk l p a j (by simpa using h) hj
theorem chunk_set (hk : ∀ a, (f a).length = k) : ∀ (l : List α) (p : Nat) (a : α) (i : Nat), p < l.length → ((l.set p a).flatMap f)[i]? = if p * k ≤ i ∧ i < p * k + k then (f a)[i - p * k]? else (l.flatMap f)[i]?
 | [], _, _, _, h => by simp at h
 | b :: l, 0, a, i, _ => by
  rw [List.set_cons_zero, List.flatMap_cons, List.flatMap_cons, Nat.zero_mul, Nat.zero_add, Nat.sub_zero]
  by_cases hi : i < k
  ·rw [if_pos ⟨Nat.zero_le _, hi⟩, List.getElem?_append_left (by rw [hk]; exact hi)]
  ·rw [if_neg (by omega), List.getElem?_append_right (by rw [hk]; omega), List.getElem?_append_right (by rw [hk]; omega), hk, hk]
 | b :: l, p + 1, a, i, h => by
  rw [List.set_cons_succ, List.flatMap_cons, List.flatMap_cons]
  by_cases hi : i < k
  ·rw [List.getElem?_append_left (by rw [hk]; exact hi), List.getElem?_append_left (by rw [hk]; exact hi), if_neg (by rw [Nat.add_mul]; omega)]
  ·rw [List.getElem?_append_right (by rw [hk]; omega), List.getElem?_append_right (by rw [hk]; omega), hk, chunk_set hk l p a (i - k) (by simpa using h)]
   by_cases hc : p * k ≤ i - k ∧ i - k < p * k + k
   ·rw [if_pos hc, if_pos (by rw [Nat.add_mul]; omega), show i - (p + 1) * k = i - k - p * k by rw [Nat.add_mul]; omega]
   ·rw [if_neg hc, if_neg (by rw [Nat.add_mul]; omega)]
end
end Go.Proofs.YtiopfihjmkfdmaaGreatDoor
namespace Go.Proofs.YtiopfihjmkfdmaaGreatDoor
open Go.RowKit
theorem gsb.{u} : (∀ {α : Type u} (xs : List α) (i : Nat) (h : i < xs.toArray.size), xs.toArray[i] = xs[i]'(by simpa using h)) ∧ (∀ {α : Type u} (a : α) (l : List α) (i : Nat) (h : i + 1 < (a :: l).length), (a :: l)[i + 1] = l[i]'(Nat.lt_of_succ_lt_succ h)) ∧ (∀ {α : Type u} (a : α) (l : List α) (h : 0 < (a :: l).length), (a :: l)[0] = a) :=
 ⟨fun _ _ _ => List.getElem_toArray _, fun _ _ _ _ => rfl, fun _ _ _ => rfl⟩
theorem gsa.{u} : (∀ {α : Type u} (l : List α) (i : Nat) (a : α), l.toArray.setIfInBounds i a = (l.set i a).toArray) ∧ (∀ {α : Type u} (x : α) (xs : List α) (n : Nat) (a : α), (x :: xs).set (n + 1) a = x :: xs.set n a) ∧ (∀ {α : Type u} (x : α) (xs : List α) (a : α), (x :: xs).set 0 a = a :: xs) :=
 ⟨fun _ _ _ => List.setIfInBounds_toArray _ _ _, fun _ _ _ _ => rfl, fun _ _ _ => rfl⟩
section
variable {P : Program} {ops : Array Oper} {Q : Exit → Act → World → Prop} {md : Region.Mode} {S : World → Prop} {fuel : Nat} {listed : Array Bool} {a : Act} {w : World}
theorem rd1 (i : Nat) {o : Oper} (h : ∀ K' : Act → World → Prop, Shut (∀ a w, S w → (S w → wpAnyH P md ops Q S fuel (listed.setIfInBounds i true) a w) → K' a w) → if Region.wanted o (yielded ops a.tmps) = true then Oper.wp P o a w K' Q else K' (a.put o.dst undef) w)
  (hr : Region.ready md ops listed = [i] := by kernel_rfl) (ho : ops[i]? = some o := by rfl) : wpAnyH P md ops Q S (fuel + 1) listed a w :=
 wpAnyH_ready hr (by simp) (AllReadyH.cons ho h AllReadyH.nil)
theorem rd2 (i j : Nat) {o p : Oper} (h : ∀ K' : Act → World → Prop, Shut (∀ a w, S w → (S w → wpAnyH P md ops Q S fuel (listed.setIfInBounds i true) a w) → K' a w) → if Region.wanted o (yielded ops a.tmps) = true then Oper.wp P o a w K' Q else K' (a.put o.dst undef) w)
  (h' : ∀ K' : Act → World → Prop, Shut (∀ a w, S w → (S w → wpAnyH P md ops Q S fuel (listed.setIfInBounds j true) a w) → K' a w) → if Region.wanted p (yielded ops a.tmps) = true then Oper.wp P p a w K' Q else K' (a.put p.dst undef) w)
  (hr : Region.ready md ops listed = [i, j] := by kernel_rfl) (ho : ops[i]? = some o := by rfl) (hp : ops[j]? = some p := by rfl) : wpAnyH P md ops Q S (fuel + 1) listed a w :=
 wpAnyH_ready hr (by simp) (AllReadyH.cons ho h (AllReadyH.cons hp h' AllReadyH.nil))
theorem rd3 (i j k : Nat) {o p r : Oper} (h : ∀ K' : Act → World → Prop, Shut (∀ a w, S w → (S w → wpAnyH P md ops Q S fuel (listed.setIfInBounds i true) a w) → K' a w) → if Region.wanted o (yielded ops a.tmps) = true then Oper.wp P o a w K' Q else K' (a.put o.dst undef) w)
  (h' : ∀ K' : Act → World → Prop, Shut (∀ a w, S w → (S w → wpAnyH P md ops Q S fuel (listed.setIfInBounds j true) a w) → K' a w) → if Region.wanted p (yielded ops a.tmps) = true then Oper.wp P p a w K' Q else K' (a.put p.dst undef) w)
  (h2 : ∀ K' : Act → World → Prop, Shut (∀ a w, S w → (S w → wpAnyH P md ops Q S fuel (listed.setIfInBounds k true) a w) → K' a w) → if Region.wanted r (yielded ops a.tmps) = true then Oper.wp P r a w K' Q else K' (a.put r.dst undef) w)
  (hr : Region.ready md ops listed = [i, j, k] := by kernel_rfl) (ho : ops[i]? = some o := by rfl) (hp : ops[j]? = some p := by rfl) (hq : ops[k]? = some r := by rfl) : wpAnyH P md ops Q S (fuel + 1) listed a w :=
 wpAnyH_ready hr (by simp) (AllReadyH.cons ho h (AllReadyH.cons hp h' (AllReadyH.cons hq h2 AllReadyH.nil)))
theorem rd4 (i j k l : Nat) {o p r s : Oper} (h : ∀ K' : Act → World → Prop, Shut (∀ a w, S w → (S w → wpAnyH P md ops Q S fuel (listed.setIfInBounds i true) a w) → K' a w) → if Region.wanted o (yielded ops a.tmps) = true then Oper.wp P o a w K' Q else K' (a.put o.dst undef) w)
  (h' : ∀ K' : Act → World → Prop, Shut (∀ a w, S w → (S w → wpAnyH P md ops Q S fuel (listed.setIfInBounds j true) a w) → K' a w) → if Region.wanted p (yielded ops a.tmps) = true then Oper.wp P p a w K' Q else K' (a.put p.dst undef) w)
  (h2 : ∀ K' : Act → World → Prop, Shut (∀ a w, S w → (S w → wpAnyH P md ops Q S fuel (listed.setIfInBounds k true) a w) → K' a w) → if Region.wanted r (yielded ops a.tmps) = true then Oper.wp P r a w K' Q else K' (a.put r.dst undef) w)
  (h3 : ∀ K' : Act → World → Prop, Shut (∀ a w, S w → (S w → wpAnyH P md ops Q S fuel (listed.setIfInBounds l true) a w) → K' a w) → if Region.wanted s (yielded ops a.tmps) = true then Oper.wp P s a w K' Q else K' (a.put s.dst undef) w)
  (hr : Region.ready md ops listed = [i, j, k, l] := by kernel_rfl) (ho : ops[i]? = some o := by rfl) (hp : ops[j]? = some p := by rfl) (hq : ops[k]? = some r := by rfl) (hs : ops[l]? = some s := by rfl) : wpAnyH P md ops Q S (fuel + 1) listed a w :=
 wpAnyH_ready hr (by simp) (AllReadyH.cons ho h (AllReadyH.cons hp h' (AllReadyH.cons hq h2 (AllReadyH.cons hs h3 AllReadyH.nil))))
theorem tky (i : Nat) {oi : Oper} {v : Value} (hi : ops[i]? = some oi) (hy : YieldsIf P ops S oi v a) (hS : S w) (h : wpAnyH P md ops Q S fuel (listed.setIfInBounds i true) (a.put oi.dst v) w)
  (hs : Region.noSelect ops = true := by kernel_rfl) (hf : Region.free md ops listed i = true := by kernel_rfl) (hr : (Region.ready md ops listed).contains i = true := by kernel_rfl) (hQ : ∀ c a w, Q (.panic c) (a.put oi.dst v) w → Q (.panic c) a w := by exact fun _ _ _ h => h) : wpAnyH P md ops Q S (fuel + 1) listed a w :=
 wpAnyH_take hi hs hf hr hQ hy hS h
theorem tk (i : Nat) (v : Value) {oi : Oper} (hi : ops[i]? = some oi) (hy : ∀ w, S w → (execOp a.eval oi).run P w = .ok (.value v) w) (hS : S w) (h : wpAnyH P md ops Q S fuel (listed.setIfInBounds i true) (a.put oi.dst v) w)
  (hw : Region.wanted oi (yielded ops a.tmps) = true := by rfl) (hs : Region.noSelect ops = true := by kernel_rfl) (hf : Region.free md ops listed i = true := by kernel_rfl) (hr : (Region.ready md ops listed).contains i = true := by kernel_rfl) (hQ : ∀ c a w, Q (.panic c) (a.put oi.dst v) w → Q (.panic c) a w := by exact fun _ _ _ h => h) : wpAnyH P md ops Q S (fuel + 1) listed a w :=
 wpAnyH_take hi hs hf hr hQ (.inl ⟨hw, hy⟩) hS h
end
end Go.Proofs.YtiopfihjmkfdmaaGreatDoor
namespace Go.Proofs.YtiopfihjmkfdmaaGreatDoor
namespace WI
open Go.RowKit
set_option maxRecDepth 100000
set_option maxHeartbeats 400000
abbrev Par := List Int
abbrev ST := Option (Fin 8 → Sp.Iv)
abbrev Dm (π : Par) : Sp.Dom := Sp.ivDom π
abbrev Kr (π : Par) : Sp.Rk (Dm π) := Sp.ivRk π
theorem abs (π : Par) : Sp.Ab (Kr π) := Sp.ivAb π
abbrev Wv (x : Sp.Iv) : Prop := Sp.ivWf x
def vNum (n : Int) : Sp.Iv := ⟨n, n⟩
def vWhole : Sp.Iv := Sp.ivWhole
def vNeg (x : Sp.Iv) : Sp.Iv := Sp.hull2 (-x.b) (-x.a)
def vWork : Nat → Sp.Iv → Sp.Iv → Option Sp.Iv := Sp.ivWork
def vNought (x : Sp.Iv) : Bool := decide (x.a ≤ 0) && decide (0 ≤ x.b)
def vJoin (x y : Sp.Iv) : Sp.Iv := ⟨min x.a y.a, max x.b y.b⟩
def vMay : Nat → Sp.Iv → Sp.Iv → Bool := Sp.ivMay
def vBound : Nat → Sp.Iv → Sp.Iv → Option Sp.Iv := Sp.ivBound
def vWiden (π : Par) : Sp.Iv → Sp.Iv → Sp.Iv := Sp.ivWiden π
def vNarrow : Sp.Iv → Sp.Iv → Sp.Iv := Sp.ivNarrow
def vTell (x : Sp.Iv) : Int × Int := (x.a, x.b)
def opV : Option Sp.Iv → Value
 | some x => .tuple #[.agg #[.int .i16 x.a, .int .i16 x.b], .bool true]
 | none => .tuple #[.agg #[.int .i16 0, .int .i16 0], .bool false]
theorem opV_eq (o : Option Sp.Iv) : optV o = opV o := by cases o <;> rfl
def Does (B : Nat) (π : Par) (dv : Value) (w : World) : Prop :=
 B ≤ w.heap.size ∧ ∃ g off cap, dv = .agg #[.slice (some ⟨g, off, none⟩) π.length cap] ∧ g < B ∧ (π.length : Int) ≤ 1000000 ∧ ∀ i x, π[i]? = some x → w.cell? ⟨g, off + i, none⟩ = some (.int .i16 x)
theorem Does.below {B : Nat} {π : Par} {dv : Value} {w w' : World} (h : Does B π dv w) (hb : Below B w w') : Does B π dv w' := by
 obtain ⟨h0, g, off, cap, rfl, hg, hl, hc⟩ := h
 exact ⟨Nat.le_trans h0 hb.size, g, off, cap, rfl, hg, hl, fun i x hx => by rw [hb.cell (p := ⟨g, off + i, none⟩) hg]; exact hc i x hx⟩
theorem Does.at {B : Nat} {π : Par} {dv : Value} {w : World} (h : Does B π dv w) : ∃ u, dv = .agg #[u] ∧ StepsAt w u π := by
 obtain ⟨h0, g, off, cap, rfl, hg, hl, hc⟩ := h
 exact ⟨_, rfl, g, off, cap, rfl, Nat.lt_of_lt_of_le hg h0, hl, hc⟩
theorem Does.size {B : Nat} {π : Par} {dv : Value} {w : World} (h : Does B π dv w) : B ≤ w.heap.size := h.1
theorem dNumber {B : Nat} {π : Par} {dv : Value} {w : World} (h : Does B π dv w) (n : Int) :
  Calls Tryz.prog 324 #[dv, .int .i16 n] w fun e w' => e = .returned (.agg #[.int .i16 (vNum n).a, .int .i16 (vNum n).b]) ∧ Below w.heap.size w w' := by
 obtain ⟨u, rfl, _⟩ := h.at
 exact iv_number u n w
theorem dWhole {B : Nat} {π : Par} {dv : Value} {w : World} (h : Does B π dv w) :
  Calls Tryz.prog 326 #[dv] w fun e w' => e = .returned (.agg #[.int .i16 vWhole.a, .int .i16 vWhole.b]) ∧ Below w.heap.size w w' := by
 obtain ⟨u, rfl, _⟩ := h.at
 exact iv_whole u w
theorem dNegate {B : Nat} {π : Par} {dv : Value} {w : World} (h : Does B π dv w) {x : Sp.Iv} (hx : Wv x) :
  Calls Tryz.prog 323 #[dv, .agg #[.int .i16 x.a, .int .i16 x.b]] w fun e w' => e = .returned (.agg #[.int .i16 (vNeg x).a, .int .i16 (vNeg x).b]) ∧ Below w.heap.size w w' := by
 obtain ⟨u, rfl, _⟩ := h.at
 exact iv_negate u x.a x.b w hx.1 hx.2.1 hx.2.2
theorem dWork {B : Nat} {π : Par} {dv : Value} {w : World} (h : Does B π dv w) {k : Nat} (hk : k < 5) {x y : Sp.Iv} (hx : Wv x) (hy : Wv y) :
  Calls Tryz.prog 328 #[dv, .int .i64 (k : Nat), .agg #[.int .i16 x.a, .int .i16 x.b], .agg #[.int .i16 y.a, .int .i16 y.b]] w fun e w' => e = .returned (opV (vWork k x y)) ∧ Below w.heap.size w w' := by
 obtain ⟨u, rfl, _⟩ := h.at
 have := iv_work u k hk x.a x.b y.a y.b w hx.1 hx.2.1 hx.2.2 hy.1 hy.2.1 hy.2.2
 rw [opV_eq] at this
 exact this
theorem dNought {B : Nat} {π : Par} {dv : Value} {w : World} (h : Does B π dv w) (x : Sp.Iv) :
  Calls Tryz.prog 319 #[dv, .agg #[.int .i16 x.a, .int .i16 x.b]] w fun e w' => e = .returned (.bool (vNought x)) ∧ Below w.heap.size w w' := by
 obtain ⟨u, rfl, _⟩ := h.at
 exact iv_nought u x.a x.b w
theorem dJoin {B : Nat} {π : Par} {dv : Value} {w : World} (h : Does B π dv w) {x y : Sp.Iv} (_ : Wv x) (_ : Wv y) :
  Calls Tryz.prog 320 #[dv, .agg #[.int .i16 x.a, .int .i16 x.b], .agg #[.int .i16 y.a, .int .i16 y.b]] w fun e w' => e = .returned (.agg #[.int .i16 (vJoin x y).a, .int .i16 (vJoin x y).b]) ∧ Below w.heap.size w w' := by
 obtain ⟨u, rfl, _⟩ := h.at
 exact iv_join u x.a x.b y.a y.b w
theorem dMay {B : Nat} {π : Par} {dv : Value} {w : World} (h : Does B π dv w) (hT : Turns w) (hs : 11 ≤ w.heap.size) {r : Nat} (hr : r < 6) {x y : Sp.Iv} (_ : Wv x) (_ : Wv y) :
  Calls Tryz.prog 321 #[dv, .int .i64 (r : Nat), .agg #[.int .i16 x.a, .int .i16 x.b], .agg #[.int .i16 y.a, .int .i16 y.b]] w fun e w' => e = .returned (.bool (vMay r x y)) ∧ Below w.heap.size w w' := by
 obtain ⟨u, rfl, _⟩ := h.at
 exact iv_may u r hr x.a x.b y.a y.b w hT hs
theorem dBound {B : Nat} {π : Par} {dv : Value} {w : World} (h : Does B π dv w) {r : Nat} (hr : r < 6) {x y : Sp.Iv} (_ : Wv x) (hy : Wv y) :
  Calls Tryz.prog 318 #[dv, .int .i64 (r : Nat), .agg #[.int .i16 x.a, .int .i16 x.b], .agg #[.int .i16 y.a, .int .i16 y.b]] w fun e w' => e = .returned (opV (vBound r x y)) ∧ Below w.heap.size w w' := by
 obtain ⟨u, rfl, _⟩ := h.at
 have := iv_bound u r hr x.a x.b y.a y.b w hy.1 (Int.le_trans hy.2.1 hy.2.2) (Int.le_trans hy.1 hy.2.1) hy.2.2
 rw [opV_eq] at this
 exact this
theorem dWiden {B : Nat} {π : Par} {dv : Value} {w : World} (h : Does B π dv w) {x y : Sp.Iv} (_ : Wv x) (_ : Wv y) :
  Calls Tryz.prog 327 #[dv, .agg #[.int .i16 x.a, .int .i16 x.b], .agg #[.int .i16 y.a, .int .i16 y.b]] w fun e w' => e = .returned (.agg #[.int .i16 (vWiden π x y).a, .int .i16 (vWiden π x y).b]) ∧ Below w.heap.size w w' := by
 obtain ⟨u, rfl, hs⟩ := h.at
 exact iv_widen u π x.a x.b y.a y.b w hs
theorem dNarrow {B : Nat} {π : Par} {dv : Value} {w : World} (h : Does B π dv w) {x y : Sp.Iv} (_ : Wv x) (_ : Wv y) :
  Calls Tryz.prog 322 #[dv, .agg #[.int .i16 x.a, .int .i16 x.b], .agg #[.int .i16 y.a, .int .i16 y.b]] w fun e w' => e = .returned (.agg #[.int .i16 (vNarrow x y).a, .int .i16 (vNarrow x y).b]) ∧ Below w.heap.size w w' := by
 obtain ⟨u, rfl, _⟩ := h.at
 exact iv_narrow u x.a x.b y.a y.b w
theorem dTell {B : Nat} {π : Par} {dv : Value} {w : World} (h : Does B π dv w) {x : Sp.Iv} (hx : Wv x) :
  Calls Tryz.prog 325 #[dv, .agg #[.int .i16 x.a, .int .i16 x.b]] w fun e w' => e = .returned (.agg #[.int .i64 (vTell x).1, .int .i64 (vTell x).2]) ∧ Below w.heap.size w w' := by
 obtain ⟨u, rfl, _⟩ := h.at
 exact iv_tell u x.a x.b w hx.1 (Int.le_trans hx.2.1 hx.2.2) (Int.le_trans hx.1 hx.2.1) hx.2.2
end WI
end Go.Proofs.YtiopfihjmkfdmaaGreatDoor
namespace Go.Proofs.YtiopfihjmkfdmaaGreatDoor
open Go.RowKit
set_option maxRecDepth 100000
set_option maxHeartbeats 1000000
theorem setCells_block {b : Nat} {t : TypeId} {fr : Nat × Nat} : ∀ (vs : List Value) (o : Nat) (w : World) (c : Array Value), w.heap[b]? = some (.cells c t fr) → o + vs.length ≤ c.size →
  ∃ c', (w.setCells b o vs).heap[b]? = some (.cells c' t fr) ∧ c'.size = c.size ∧ (∀ j, j < vs.length → c'[o + j]? = vs[j]?) ∧ ∀ i, i < o ∨ o + vs.length ≤ i → c'[i]? = c[i]?
 | [], o, w, c, h, _ => ⟨c, h, rfl, fun j hj => by simp at hj, fun _ _ => rfl⟩
 | v :: vs, o, w, c, h, hs => by
  simp only [List.length_cons] at hs
  obtain ⟨c', h1, h2, h3, h4⟩ := setCells_block vs (o + 1) (w.setCell ⟨b, o, none⟩ v) (c.setIfInBounds o v) (heap_setCell_at h o v) (by simp; omega)
  refine ⟨c', h1, by rw [h2]; simp, fun j hj => ?_, fun i hi => ?_⟩
  ·cases j with
   | zero =>
    rw [Nat.add_zero, h4 o (.inl (Nat.lt_succ_self _))]
    simp [Array.getElem?_setIfInBounds]
    omega
   | succ j =>
    have := h3 j (by simp at hj; omega)
    rw [show o + (j + 1) = o + 1 + j by omega, this]
    simp
  ·rw [h4 i (by simp only [List.length_cons] at hi; omega), Array.getElem?_setIfInBounds]
   rw [if_neg (by simp only [List.length_cons] at hi; omega)]
theorem setCells_whole {w : World} {b : Nat} {c d : Array Value} {t : TypeId} {fr : Nat × Nat} (h : w.heap[b]? = some (.cells c t fr)) (hs : d.size = c.size) : (w.setCells b 0 d.toList).heap[b]? = some (.cells d t fr) := by
 obtain ⟨c', h1, h2, h3, _⟩ := setCells_block d.toList 0 w c h (by simp; omega)
 rw [h1]
 congr 2
 refine Array.ext_getElem? fun i => ?_
 by_cases hi : i < d.size
 ·have := h3 i (by simpa using hi)
  rw [Nat.zero_add] at this
  rw [this]; simp
 ·rw [Array.getElem?_eq_none (by omega), Array.getElem?_eq_none (by omega)]
theorem setCells_below {B b : Nat} (hb : B ≤ b) : ∀ (vs : List Value) (o : Nat) (w0 w : World), Below B w0 w → Below B w0 (w.setCells b o vs)
 | [], _, _, _, h => h
 | v :: vs, o, w0, _, h => setCells_below hb vs (o + 1) w0 _ (h.setCell (p := ⟨b, o, none⟩) hb v)
theorem setCells_other {b : Nat} : ∀ (vs : List Value) (o : Nat) (w : World) (k : Nat), k ≠ b → (w.setCells b o vs).heap[k]? = w.heap[k]?
 | [], _, _, _, _ => rfl
 | v :: vs, o, w, k, hk => by
  show ((w.setCell ⟨b, o, none⟩ v).setCells b (o + 1) vs).heap[k]? = _
  rw [setCells_other vs (o + 1) _ k hk, Below.heap_setCell _ _ _ _ hk]
section
variable {V : Type} (c0 c1 : V → Value)
def flat (l : List V) : List Value := l.flatMap fun v => [c0 v, c1 v]
theorem flat_cons (v : V) (l : List V) : flat c0 c1 (v :: l) = c0 v :: c1 v :: flat c0 c1 l := rfl
theorem flat_len (l : List V) : (flat c0 c1 l).length = 2 * l.length := by
 induction l with
 | nil => rfl
 | cons v l ih => rw [flat_cons]; simp only [List.length_cons, ih]; omega
theorem flat_get : ∀ (l : List V) (j : Nat) (v : V), l[j]? = some v → (flat c0 c1 l)[j * 2]? = some (c0 v) ∧ (flat c0 c1 l)[j * 2 + 1]? = some (c1 v)
 | [], _, _, h => by simp at h
 | u :: l, 0, v, h => by simp at h; subst h; exact ⟨rfl, rfl⟩
 | u :: l, j + 1, v, h => by
  have := flat_get l j v (by simpa using h)
  rw [flat_cons, show (j + 1) * 2 = j * 2 + 2 by omega]
  exact this
theorem flat_set : ∀ (l : List V) (j : Nat) (v : V), j < l.length → ((flat c0 c1 l).set (j * 2) (c0 v)).set (j * 2 + 1) (c1 v) = flat c0 c1 (l.set j v)
 | [], _, _, h => by simp at h
 | u :: l, 0, v, _ => rfl
 | u :: l, j + 1, v, h => by
  have := flat_set l j v (by simpa using h)
  rw [flat_cons, show (j + 1) * 2 = j * 2 + 2 by omega]
  simp only [List.set_cons_succ]
  rw [this]
  rfl
def stA (r : Bool) (l : List V) : Array Value := (Value.bool r :: flat c0 c1 l).toArray
theorem stA_size {r : Bool} {l : List V} (h : l.length = 8) : (stA c0 c1 r l).size = 17 := by
 unfold stA; simp [flat_len, h]
theorem stA_get {r : Bool} {l : List V} {j : Nat} {v : V} (h : l[j]? = some v) : (stA c0 c1 r l)[1 + j * 2]? = some (c0 v) ∧ (stA c0 c1 r l)[1 + j * 2 + 1]? = some (c1 v) := by
 obtain ⟨h1, h2⟩ := flat_get c0 c1 l j v h
 unfold stA
 rw [List.getElem?_toArray, List.getElem?_toArray, Nat.add_comm 1, show j * 2 + 1 + 1 = (j * 2 + 1) + 1 by omega]
 exact ⟨h1, h2⟩
theorem stA_set {r : Bool} {l : List V} {j : Nat} (v : V) (h : j < l.length) : ((stA c0 c1 r l).setIfInBounds (1 + j * 2) (c0 v)).setIfInBounds (1 + j * 2 + 1) (c1 v) = stA c0 c1 r (l.set j v) := by
 unfold stA
 rw [List.setIfInBounds_toArray, List.setIfInBounds_toArray, ← flat_set c0 c1 l j v h, Nat.add_comm 1]
 rfl
theorem stA_one (h0 : ∀ v, (c0 v).oneCell' = true) (h1 : ∀ v, (c1 v).oneCell' = true) (r : Bool) (l : List V) : (stA c0 c1 r l).all (·.oneCell') = true := by
 refine all_oneCell_toArray ?_
 intro v hv
 rcases List.mem_cons.1 hv with rfl | hv
 ·rfl
 ·unfold flat at hv
  obtain ⟨u, _, hu⟩ := List.mem_flatMap.1 hv
  simp at hu
  rcases hu with rfl | rfl
  ·exact h0 u
  ·exact h1 u
end
theorem range_of {W : World} {b : Nat} {c : Array Value} {t : TypeId} {fr : Nat × Nat} (h : W.heap[b]? = some (.cells c t fr)) : W.rangeAt b 0 c.toList := fun j u hu => by rw [Nat.zero_add]; exact cell_of h j (by simpa using hu)
theorem there_of {W : World} {b : Nat} {c : Array Value} {t : TypeId} (h : W.heap[b]? = some (.cells c t)) : W.there b 0 c.size := fun j hj => by
 rw [Nat.zero_add]
 refine ⟨?_, frozen_of h j⟩
 rw [cell_of h j (Array.getElem?_eq_getElem hj)]; rfl
theorem two_set {w : World} {k : Nat} {x y : Value} {t : TypeId} (h : w.heap[k]? = some (.cells #[x, y] t)) (u v : Value) : ((w.setCell ⟨k, 0, none⟩ u).setCell ⟨k, 1, none⟩ v).heap[k]? = some (.cells #[u, v] t) := heap_setCell_at (heap_setCell_at h 0 u) 1 v
theorem Below.two {B : Nat} {w0 w : World} (h : Below B w0 w) {k : Nat} (hk : B ≤ k) (u v : Value) : Below B w0 ((w.setCell ⟨k, 0, none⟩ u).setCell ⟨k, 1, none⟩ v) :=
 (h.setCell (p := ⟨k, 0, none⟩) hk u).setCell (p := ⟨k, 1, none⟩) hk v
theorem modify_set' {α : Type} {l : List α} {q : Nat} {n : α} (h : l[q]? = some n) {f : α → α} : l.modify q f = l.set q (f n) := by
 refine List.ext_getElem? fun i => ?_
 rw [List.getElem?_modify, List.getElem?_set]
 by_cases hq : q = i
 ·subst hq
  obtain ⟨hl, he⟩ := List.getElem?_eq_some_iff.1 h
  simp [hl, he]
 ·simp [hq]
theorem modify_set {l : List Nat} {q n : Nat} (h : l[q]? = some n) {f : Nat → Nat} : l.modify q f = l.set q (f n) := by
 refine List.ext_getElem? fun i => ?_
 rw [List.getElem?_modify, List.getElem?_set]
 by_cases hq : q = i
 ·subst hq
  obtain ⟨hl, he⟩ := List.getElem?_eq_some_iff.1 h
  simp [hl, he]
 ·simp [hq]
end Go.Proofs.YtiopfihjmkfdmaaGreatDoor
namespace Go.Proofs.YtiopfihjmkfdmaaGreatDoor
namespace WI
open Go.RowKit
set_option maxRecDepth 100000
set_option maxHeartbeats 1000000
theorem infoSt : (Tryz.prog.info? 220).map (·.size) = some 17 := by kernel_rfl
theorem loadV_st {w : World} {b : Nat} {c : Array Value} {fr : Nat × Nat} (h : w.heap[b]? = some (.cells c 220 fr)) (hc : c.size = 17) :
  (loadVar 220 ⟨b, 0, none⟩).run Tryz.prog w = .ok (.agg c) w := by
 have := run_loadVar_mid (P := Tryz.prog) w b 0 220 c.toList _ (fun j v hv => by rw [Nat.zero_add]; exact cell_of h j (by simpa using hv)) Tryz.underlying220 rfl (by rw [infoSt]; simp [hc])
 simpa using this
theorem wp_ld {ops : Array Oper} {rest : List Oper} {op : Oper} {a : Act} {w : World} {Q : Exit → Act → World → Prop} (hgd : op.guard = none) (x : Operand) (ho : op.op = .load 220 x) {b : Nat} {c : Array Value} (hx : a.eval x = .pointer (some ⟨b, 0, none⟩)) (h : w.heap[b]? = some (.cells c 220)) (hc : c.size = 17)
  (k : wpList Tryz.prog ops Q rest (a.put op.dst (.agg c)) w) : wpList Tryz.prog ops Q (op :: rest) a w := by
 refine wpList_load_mid hgd 220 x ho b 0 hx c.toList _ (fun j v hv => by rw [Nat.zero_add]; exact cell_of h j (by simpa using hv)) Tryz.underlying220 rfl (by rw [infoSt]; simp [hc]) ?_
 simpa using k
theorem wp_st {ops : Array Oper} {rest : List Oper} {op : Oper} {a : Act} {w : World} {Q : Exit → Act → World → Prop} (hgd : op.guard = none) (x y : Operand) (ho : op.op = .store 220 x y) {b : Nat} {c d : Array Value} (hx : a.eval x = .pointer (some ⟨b, 0, none⟩)) (hy : a.eval y = .agg d) (h : w.heap[b]? = some (.cells c 220)) (hc : c.size = 17) (hd : d.size = 17) (h1 : d.all (·.oneCell') = true)
  (k : wpList Tryz.prog ops Q rest (a.put op.dst undef) (w.setCells b 0 d.toList)) : wpList Tryz.prog ops Q (op :: rest) a w :=
 wpList_store_mid hgd 220 x y ho b 0 d hx hy (fun j hj => by
  rw [Nat.zero_add]
  refine ⟨?_, frozen_of h j⟩
  rw [cell_of h j (Array.getElem?_eq_getElem (by omega))]; rfl) (by rw [infoSt, hd]) h1 k
theorem results_st {fn : Func} {a : Tmp} (hres : fn.results = #[.cell a 220]) (tmps : Array Value) (w : World) {b : Nat} {c : Array Value} (ht : tmps.getD a undef = .pointer (some ⟨b, 0, none⟩)) (h : w.heap[b]? = some (.cells c 220)) (hc : c.size = 17) :
  (results fn tmps).run Tryz.prog w = .ok (.agg c) w := by
 have hl := loadV_st h hc
 have ht' : tmps[a]?.getD undef = .pointer (some ⟨b, 0, none⟩) := by rw [← ht]; simp
 unfold results
 rw [hres]
 simp [asAddr, ht', hl]
theorem join_none (W0 x y : Array Value) (w : World) (hx : x.size = 17) (hy : y.size = 17) (h1 : y.all (·.oneCell') = true) (h0 : ∀ h, x[0]'h = .bool false) :
  Calls Tryz.prog 116 #[.agg W0, .agg x, .agg y] w fun e w' => e = .returned (.agg y) ∧ Below w.heap.size w w' := by
 obtain ⟨k0, k1, k2, k3, kb⟩ := laid4b (w := w) (o1 := .cells W0 217) (o2 := .cells x 220) (o3 := .cells y 220) (o4 := .cells #[.bool false, .int .i16 0, .int .i16 0, .int .i16 0, .int .i16 0, .int .i16 0, .int .i16 0, .int .i16 0, .int .i16 0, .int .i16 0, .int .i16 0, .int .i16 0, .int .i16 0, .int .i16 0, .int .i16 0, .int .i16 0, .int .i16 0] 220) (Below.refl _ _)
 have K2 : Hid (_ = _) := k2
 have K3 : Hid (_ = _) := k3
 have hr : Hid (_ = _) := setCells_whole k3 (d := y) (by rw [hy]; rfl)
 have HB : Hid (Below w.heap.size w _) := setCells_below (b := w.heap.size + 1 + 1 + 1) (by omega) y.toList 0 w _ kb
 clear k0 k1 k2 k3 kb
 go_enter Tryz.func116, Tryz.ntmps116
 go_wp2_with (first
  | (refine wp_ld rfl _ rfl rfl K2.out hy ?_)
  | (refine wp_st rfl _ _ rfl rfl rfl K3.out rfl hy h1 ?_))
 refine bodyPost_ret (results_st Tryz.results116 _ _ rfl hr.out hy) rfl ⟨rfl, HB.out⟩
end WI
end Go.Proofs.YtiopfihjmkfdmaaGreatDoor
namespace Go.Proofs.YtiopfihjmkfdmaaGreatDoor
namespace WI
open Go.RowKit
set_option maxRecDepth 100000
set_option maxHeartbeats 1000000
def stI (r : Bool) (l : List Sp.Iv) : Array Value := stA (fun v : Sp.Iv => .int .i16 v.a) (fun v : Sp.Iv => .int .i16 v.b) r l
theorem stI_get {r : Bool} {l : List Sp.Iv} {j : Nat} {v : Sp.Iv} (h : l[j]? = some v) : (stI r l)[1 + j * 2]? = some (.int .i16 v.a) ∧ (stI r l)[1 + j * 2 + 1]? = some (.int .i16 v.b) := stA_get _ _ h
theorem stI_set {r : Bool} {l : List Sp.Iv} {j : Nat} (v : Sp.Iv) (h : j < l.length) : ((stI r l).setIfInBounds (1 + j * 2) (.int .i16 v.a)).setIfInBounds (1 + j * 2 + 1) (.int .i16 v.b) = stI r (l.set j v) := stA_set (fun v : Sp.Iv => .int .i16 v.a) (fun v : Sp.Iv => .int .i16 v.b) v h
theorem stI_size {r : Bool} {l : List Sp.Iv} (h : l.length = 8) : (stI r l).size = 17 := stA_size _ _ h
theorem stI_zero (r : Bool) (l : List Sp.Iv) (h : 0 < (stI r l).size) : (stI r l)[0] = .bool r := rfl
theorem stI_one (r : Bool) (l : List Sp.Iv) : (stI r l).all (·.oneCell') = true := stA_one _ _ (fun _ => rfl) (fun _ => rfl) r l
def noneI : Array Value := #[.bool false, .int .i16 0, .int .i16 0, .int .i16 0, .int .i16 0, .int .i16 0, .int .i16 0, .int .i16 0, .int .i16 0, .int .i16 0, .int .i16 0, .int .i16 0, .int .i16 0, .int .i16 0, .int .i16 0, .int .i16 0, .int .i16 0]
structure EachAt (w : World) (l ys : List Sp.Iv) (W : World) : Prop where
 x : W.heap[w.heap.size]? = some (.cells (stI true l) 220)
 y : W.heap[w.heap.size + 1]? = some (.cells (stI true ys) 220)
 z : W.heap[w.heap.size + 1 + 1]? = some (.cells noneI 220)
 b : Below w.heap.size w W
theorem EachAt.call {w : World} {l ys : List Sp.Iv} {W W' : World} (h : EachAt w l ys W) (k : Below W.heap.size W W') : EachAt w l ys W' :=
 ⟨(k.block _ (heap_lt h.x)).trans h.x, (k.block _ (heap_lt h.y)).trans h.y, (k.block _ (heap_lt h.z)).trans h.z, h.b.trans (k.mono h.b.size)⟩
theorem EachAt.set {w : World} {l ys : List Sp.Iv} {W : World} (h : EachAt w l ys W) {j : Nat} (hj : j < l.length) (v : Sp.Iv) : EachAt w (l.set j v) ys ((W.setCell ⟨w.heap.size, 1 + j * 2, none⟩ (.int .i16 v.a)).setCell ⟨w.heap.size, 1 + j * 2 + 1, none⟩ (.int .i16 v.b)) := by
 refine ⟨?_, ?_, ?_, (h.b.setCell (p := ⟨w.heap.size, 1 + j * 2, none⟩) (Nat.le_refl _) _).setCell (p := ⟨w.heap.size, 1 + j * 2 + 1, none⟩) (Nat.le_refl _) _⟩
 ·rw [heap_setCell_at (heap_setCell_at h.x (1 + j * 2) (.int .i16 v.a)) (1 + j * 2 + 1) (.int .i16 v.b), stI_set v hj]
 ·rw [Below.heap_setCell _ _ _ _ (by show w.heap.size + 1 ≠ w.heap.size; omega), Below.heap_setCell _ _ _ _ (by show w.heap.size + 1 ≠ w.heap.size; omega)]; exact h.y
 ·rw [Below.heap_setCell _ _ _ _ (by show w.heap.size + 1 + 1 ≠ w.heap.size; omega), Below.heap_setCell _ _ _ _ (by show w.heap.size + 1 + 1 ≠ w.heap.size; omega)]; exact h.z
theorem EachAt.cells {w : World} {l ys : List Sp.Iv} {W : World} (h : EachAt w l ys W) {j : Nat} {x : Sp.Iv} (hx : l[j]? = some x) : W.cell? ⟨w.heap.size, 1 + j * 2, none⟩ = some (.int .i16 x.a) ∧ W.cell? ⟨w.heap.size, 1 + j * 2 + 1, none⟩ = some (.int .i16 x.b) ∧ W.frozen? ⟨w.heap.size, 1 + j * 2, none⟩ = false ∧ W.frozen? ⟨w.heap.size, 1 + j * 2 + 1, none⟩ = false :=
 ⟨cell_of h.x _ (stI_get hx).1, cell_of h.x _ (stI_get hx).2, frozen_of h.x _, frozen_of h.x _⟩
def mixI (g : Sp.Iv → Sp.Iv → Sp.Iv) (xs ys : List Sp.Iv) (j : Nat) : List Sp.Iv := (List.zipWith g xs ys).take j ++ xs.drop j
theorem mixI_at {g : Sp.Iv → Sp.Iv → Sp.Iv} {xs ys : List Sp.Iv} (hx : xs.length = 8) (hy : ys.length = 8) {j : Nat} (hj : j < 8) {x : Sp.Iv} (h : xs[j]? = some x) : (mixI g xs ys j)[j]? = some x := by
 have hl : ((List.zipWith g xs ys).take j).length = j := by simp; omega
 unfold mixI
 rw [List.getElem?_append_right (by omega), hl, Nat.sub_self, List.getElem?_drop, Nat.add_zero]
 exact h
theorem mixI_set {g : Sp.Iv → Sp.Iv → Sp.Iv} {xs ys : List Sp.Iv} (hx : xs.length = 8) (hy : ys.length = 8) {j : Nat} (hj : j < 8) {x y : Sp.Iv} (h : xs[j]? = some x) (k : ys[j]? = some y) : (mixI g xs ys j).set j (g x y) = mixI g xs ys (j + 1) := by
 have hl : ((List.zipWith g xs ys).take j).length = j := by simp; omega
 have hz : (List.zipWith g xs ys)[j]? = some (g x y) := by rw [List.getElem?_zipWith, h, k]
 have hk := List.getElem?_eq_some_iff.1 hz
 have hd : xs.drop j = x :: xs.drop (j + 1) := by
  rw [List.drop_eq_getElem_cons (by omega), (List.getElem?_eq_some_iff.1 h).2]
 unfold mixI
 rw [List.set_append_right _ _ (by omega), hl, Nat.sub_self, hd, List.set_cons_zero, List.take_succ_eq_append_getElem hk.1, hk.2, List.append_assoc]
 rfl
theorem mixI_end {g : Sp.Iv → Sp.Iv → Sp.Iv} {xs ys : List Sp.Iv} (hx : xs.length = 8) (hy : ys.length = 8) : mixI g xs ys 8 = List.zipWith g xs ys := by
 unfold mixI
 rw [List.take_of_length_le (by simp; omega), List.drop_of_length_le (by omega), List.append_nil]
theorem each_join (uD : Value) (g : Sp.Iv → Sp.Iv → Sp.Iv) (xs ys : List Sp.Iv) (w : World) (hx : xs.length = 8) (hy : ys.length = 8) (hwx : ∀ x ∈ xs, Wv x) (hwy : ∀ y ∈ ys, Wv y)
  (hput : ∀ W x y, Below w.heap.size w W → Wv x → Wv y → Calls Tryz.prog 320 #[uD, .agg #[.int .i16 x.a, .int .i16 x.b], .agg #[.int .i16 y.a, .int .i16 y.b]] W fun e w' => e = .returned (.agg #[.int .i16 (g x y).a, .int .i16 (g x y).b]) ∧ Below W.heap.size W w') :
  Calls Tryz.prog 162 #[.agg (stI true xs), .agg (stI true ys), .func (Fn.method "Join") #[.iface 133 uD] #[]] w fun e w' => e = .returned (.agg (stI true (List.zipWith g xs ys))) ∧ Below w.heap.size w w' := by
 have HP : Hid (_) := hput
 have zx := stI_zero true xs
 have zy := stI_zero true ys
 have H0 : Hid (EachAt w xs ys (((w.alloc (.cells (stI true xs) 220)).alloc (.cells (stI true ys) 220)).alloc (.cells #[.bool false, .int .i16 0, .int .i16 0, .int .i16 0, .int .i16 0, .int .i16 0, .int .i16 0, .int .i16 0, .int .i16 0, .int .i16 0, .int .i16 0, .int .i16 0, .int .i16 0, .int .i16 0, .int .i16 0, .int .i16 0, .int .i16 0] 220))) := by
  obtain ⟨k0, k1, k2, kb⟩ := laid3b (w := w) (o1 := .cells (stI true xs) 220) (o2 := .cells (stI true ys) 220) (o3 := .cells noneI 220) (Below.refl _ _)
  exact ⟨k0, k1, k2, kb⟩
 have sx : (stI true xs).size = 17 := stI_size hx
 have sy : (stI true ys).size = 17 := stI_size hy
 clear hput
 go_enter Tryz.func162, Tryz.ntmps162
 go_wp2_with fail
 go_loopw [17] (fun v17 wr => ∃ j : Nat, j ≤ 8 ∧ v17 = .int .i64 j ∧ Hid (EachAt w (mixI g xs ys j) ys wr)) (fun v17 _ => 8 - (intOf v17).toNat)
 case atStart => exact ⟨0, Nat.zero_le _, rfl, H0.out⟩
 case round =>
  obtain ⟨j, hj, rfl, hq⟩ := hrel
  clear H0 zx zy sx sy
  by_cases hjlt : j < 8
  ·obtain ⟨x, hxj⟩ : ∃ x, xs[j]? = some x := ⟨_, List.getElem?_eq_getElem (by omega)⟩
   obtain ⟨y, hyj⟩ : ∃ y, ys[j]? = some y := ⟨_, List.getElem?_eq_getElem (by omega)⟩
   have WX : Hid (Wv x) := hwx x (List.mem_of_getElem? hxj)
   have WY : Hid (Wv y) := hwy y (List.mem_of_getElem? hyj)
   have hmj : (mixI g xs ys j)[j]? = some x := by
    exact mixI_at hx hy hjlt hxj
   have hml : (mixI g xs ys j).length = 8 := by unfold mixI; simp; omega
   have hms : Hid ((mixI g xs ys j).set j (g x y) = mixI g xs ys (j + 1)) := mixI_set hx hy hjlt hxj hyj
   obtain ⟨x0, x1⟩ := stI_get (r := true) hmj
   obtain ⟨y0, y1⟩ := stI_get (r := true) hyj
   have cx0 := cell_of hq.out.x _ x0
   have cx1 := cell_of hq.out.x _ x1
   have cy0 := cell_of hq.out.y _ y0
   have cy1 := cell_of hq.out.y _ y1
   have hji : (j : Int) < 8 := by omega
   clear x0 x1 y0 y1
   go_wp2_with fail
   go_region_with (go_at_call 320; go_must (refine (HP.out _ x y hq.out.b.drew WX.out WY.out).mono ?_); rintro e w1 ⟨rfl, b1⟩; have A1 : Hid (EachAt w (mixI g xs ys j) ys w1) := hq.out.call (W' := w1) ⟨b1.os, b1.tape, b1.output, b1.size, b1.block⟩; obtain ⟨d0, d1, d2, d3⟩ := A1.out.cells hmj)
   all_goals
    have A2 : Hid (EachAt w (mixI g xs ys (j + 1)) ys ((w1.setCell ⟨w.heap.size, 1 + j * 2, none⟩ (.int .i16 (g x y).a)).setCell ⟨w.heap.size, 1 + j * 2 + 1, none⟩ (.int .i16 (g x y).b))) := by
     unfold Hid; rw [← hms.out]; exact A1.out.set (by omega) (g x y)
    clear b1
    go_wp2_with fail
    exact ⟨⟨j + 1, by omega, by go_num, A2⟩, by simp [intOf]; omega⟩
  ·obtain rfl : j = 8 := by omega
   have A : Hid (EachAt w (List.zipWith g xs ys) ys wr) := by unfold Hid; rw [← mixI_end hx hy]; exact hq.out
   have sz : (stI true (List.zipWith g xs ys)).size = 17 := stI_size (by simp; omega)
   have hr : Hid (_ = _) := setCells_whole A.out.z (d := stI true (List.zipWith g xs ys)) (by rw [sz]; rfl)
   have HB : Hid (Below w.heap.size w _) := setCells_below (b := w.heap.size + 1 + 1) (by omega) (stI true (List.zipWith g xs ys)).toList 0 w _ A.out.b
   clear hq hj hjlt
   go_wp2_with (first
    | (refine wp_ld rfl _ rfl rfl A.out.x sz ?_)
    | (refine wp_st rfl _ _ rfl rfl rfl A.out.z rfl sz (stI_one _ _) ?_))
   refine bodyPost_ret (results_st Tryz.results162 _ _ rfl hr.out sz) rfl ⟨rfl, HB.out⟩
end WI
end Go.Proofs.YtiopfihjmkfdmaaGreatDoor
