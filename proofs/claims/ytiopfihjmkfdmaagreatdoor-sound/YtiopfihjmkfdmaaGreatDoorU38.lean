import Derived.Test.YtiopfihjmkfdmaaGreatDoorU17
import Derived.Test.YtiopfihjmkfdmaaGreatDoorU21
import Derived.Test.YtiopfihjmkfdmaaGreatDoorU23
import Derived.ChangeKeysEq
import Derived.Laws.StructEq
namespace Go.Proofs.YtiopfihjmkfdmaaGreatDoor
namespace Sp
section
variable {D : Dom}
structure WdTo (K : Rk D) (next : D.St → D.St) (delay : Nat) (U : D.St) (k f : Nat) (sj : D.St) : Prop where
 sum : f + k = D.fuel + 1
 eq : fixF D next delay f k sj = U
 wf : Wf K sj
 no : sj = none → next none = none
 up : ∀ e, sj = some e → 8 * K.top < rkE K e + f
theorem WdTo.start {K : Rk D} {next : D.St → D.St} {delay : Nat} {U s : D.St} (hU : fixF D next delay D.fuel 1 s = U) (hs : Wf K s) (h0 : s = none → next none = none) : WdTo K next delay U 1 D.fuel s :=
 ⟨rfl, hU, hs, h0, fun _ _ => Nat.lt_of_lt_of_le K.fuel (Nat.le_add_left _ _)⟩
theorem WdTo.end {K : Rk D} {next : D.St → D.St} {delay : Nat} {U : D.St} {k f : Nat} {sj : D.St} (h : WdTo K next delay U k f sj) (he : eqS D (jn D sj (next sj)) sj = true) : sj = U := by
 have := h.eq
 cases f with
 | zero => exact this
 | succ f =>
  rw [fixF_succ, if_pos he] at this
  exact this
theorem WdTo.on {K : Rk D} {next : D.St → D.St} {delay : Nat} {U : D.St} {k f : Nat} {sj : D.St} (h : WdTo K next delay U k f sj) (hn : ∀ i, Wf K i → Wf K (next i)) (he : eqS D (jn D sj (next sj)) sj = false) :
  ∃ e n f', sj = some e ∧ (∀ k, K.wf (e k)) ∧ jn D sj (next sj) = some n ∧ (∀ k, K.wf (n k)) ∧ f = f' + 1 ∧ WdTo K next delay U (k + 1) f' (stepV D next delay k sj) := by
 have hne : ¬ jn D sj (next sj) = sj := fun e => by rw [(eqS_iff D _ _).2 e] at he; cases he
 cases sj with
 | none => rw [h.no rfl] at hne; exact absurd rfl hne
 | some e =>
  have we := h.wf e rfl
  have hj : Wf K (jn D (some e) (next (some e))) := wf_jn h.wf (hn _ h.wf)
  obtain ⟨n, hn'⟩ : ∃ n, jn D (some e) (next (some e)) = some n := by
   cases hx : next (some e) with
   | none => exact ⟨_, rfl⟩
   | some t => exact ⟨_, rfl⟩
  obtain ⟨g, h1, h2, h3⟩ := step_rise (K := K) we (hn _ h.wf) delay k hne
  have hup := h.up e rfl
  have hle := rkE_le (K := K) we
  obtain ⟨f', rfl⟩ : ∃ f', f = f' + 1 := ⟨f - 1, by omega⟩
  refine ⟨e, n, f', rfl, we, hn', hj n hn', rfl, ?_⟩
  have hsum := h.sum
  have heq := h.eq
  rw [fixF_succ, if_neg (by rw [he]; exact Bool.noConfusion)] at heq
  refine ⟨by omega, heq, ?_, ?_, ?_⟩
  ·rw [h1]; exact Wf.some h2
  ·intro e; rw [h1] at e; cases e
  ·intro e he'
   rw [h1] at he'
   cases he'
   omega
structure NrTo (K : Rk D) (cond : CondF D) (body : BodyF D) (s U : D.St) (n : Nat) (sj : D.St) : Prop where
 eq : narF D (nxtV D cond body s) n sj = U
 wf : Wf K sj
 no : s = none → sj = none
 sub : ∀ e, s = some e → subS K (some e) sj
theorem NrTo.start {K : Rk D} {P : Pol} {cond : CondF D} {body : BodyF D} (hc : CondWf K cond) (hb : BodyWf K body) (nc : CondNo cond) (nb : BodyNo body) {s : D.St} (hs : Wf K s) :
  NrTo K cond body s (allV D P cond body s) P.narrow (fixF D (nxtV D cond body s) P.delay D.fuel 1 s) := by
 have hn : ∀ i, Wf K i → Wf K (nxtV D cond body s i) := fun i hi => nxt_wf hc hb hs hi
 have h0 : s = none → nxtV D cond body s none = none := fun e => by
  subst e
  unfold nxtV
  rw [nc, nb]; rfl
 refine ⟨rfl, fixF_wf hn P.delay D.fuel 1 s hs, fun e => ?_, fun e he => ?_⟩
 ·have h1 := h0 e
  subst e
  exact fixF_none h1 _ _ _
 ·subst he
  obtain ⟨i, h1, h2⟩ := fixF_fix hn P.delay D.fuel 1 e (hs e rfl) (by have := K.fuel; omega)
  rw [h1]
  exact fix_sub h2
theorem NrTo.on {K : Rk D} {cond : CondF D} {body : BodyF D} (hc : CondWf K cond) (hb : BodyWf K body) {s U : D.St} (hs : Wf K s) {n : Nat} {sj : D.St} (h : NrTo K cond body s U (n + 1) sj) :
  NrTo K cond body s U n (eachV D D.narrow sj (nxtV D cond body s sj)) ∧ (sj = none ∨ ∃ e e', sj = some e ∧ nxtV D cond body s sj = some e' ∧ (∀ k, K.wf (e k)) ∧ (∀ k, K.wf (e' k))) := by
 have hw := nxt_wf hc hb hs h.wf
 cases s with
 | none =>
  have h1 := h.no rfl
  have h2 := h.eq
  subst h1
  exact ⟨⟨h2, wf_none, fun _ => rfl, fun e he => by cases he⟩, .inl rfl⟩
 | some e =>
  obtain ⟨h1, h2⟩ := narrow_wf (hs e rfl) h.wf hw (h.sub e rfl) (subS_l _ _)
  obtain ⟨g, hg, _⟩ := h.sub e rfl e rfl
  obtain ⟨q, hq, _⟩ := (subS_l (K := K) (some e) (body (cond sj).2.1).2) e rfl
  have hq' : nxtV D cond body (some e) sj = some q := hq
  refine ⟨⟨h.eq, h1, (fun e => by cases e), fun e' he' => by cases he'; exact h2⟩, .inr ⟨g, q, hg, hq', h.wf g hg, hw q hq'⟩⟩
theorem nxt_none {cond : CondF D} {body : BodyF D} (nc : CondNo cond) (nb : BodyNo body) {s : D.St} (h : s = none) : nxtV D cond body s none = none := by
 subst h
 unfold nxtV
 rw [nc, nb]; rfl
theorem anW_point {K : Rk D} {P : Pol} {cond : CondF D} {body : BodyF D} (hc : CondWf K cond) (hb : BodyWf K body) (p : Int) {e : D.Env} (he : ∀ k, K.wf (e k)) : ∃ s', Tel.point p s' ∈ (anW D P cond body p (some e)).1 := by
 unfold anW
 cases hn : P.unroll with
 | zero =>
  obtain ⟨g, hg, _⟩ := (allV_some (P := P) hc hb he).2 e rfl
  refine ⟨g, ?_⟩
  simp only [unrF, List.nil_append]
  rw [hg]
  simp [telP]
 | succ n =>
  refine ⟨e, ?_⟩
  simp [unrF, telP]
structure UnTo (K : Rk D) (cond : CondF D) (body : BodyF D) (p : Int) (U : List (Tel D.V) × D.St × D.St) (m : Nat) (ej : List (Tel D.V)) (oj sj : D.St) : Prop where
 eq : U = (ej ++ (unrF D cond body p m oj sj).1, (unrF D cond body p m oj sj).2)
 wo : Wf K oj
 ws : Wf K sj
theorem UnTo.start {K : Rk D} (cond : CondF D) (body : BodyF D) (p : Int) (m : Nat) {s : D.St} (hs : Wf K s) : UnTo K cond body p (unrF D cond body p m none s) m [] none s := ⟨rfl, wf_none, hs⟩
theorem UnTo.end {K : Rk D} {cond : CondF D} {body : BodyF D} {p : Int} {U : List (Tel D.V) × D.St × D.St} {ej : List (Tel D.V)} {oj sj : D.St} (h : UnTo K cond body p U 0 ej oj sj) : U = (ej, oj, sj) := by
 rw [h.eq]
 simp [unrF]
theorem UnTo.parts {K : Rk D} {cond : CondF D} {body : BodyF D} {p : Int} {U : List (Tel D.V) × D.St × D.St} {m : Nat} {ej : List (Tel D.V)} {oj sj : D.St} (h : UnTo K cond body p U (m + 1) ej oj sj) :
  ∃ more, U.1 = ej ++ telP D p sj ++ (cond sj).1 ++ (body (cond sj).2.1).1 ++ more := by
 rw [h.eq]
 exact ⟨(unrF D cond body p m (jn D oj (cond sj).2.2) (body (cond sj).2.1).2).1, by simp [unrF]⟩
theorem UnTo.on {K : Rk D} {cond : CondF D} {body : BodyF D} (hc : CondWf K cond) (hb : BodyWf K body) {p : Int} {U : List (Tel D.V) × D.St × D.St} {m : Nat} {ej : List (Tel D.V)} {oj sj : D.St} (h : UnTo K cond body p U (m + 1) ej oj sj) :
  UnTo K cond body p U m (ej ++ telP D p sj ++ (cond sj).1 ++ (body (cond sj).2.1).1) (jn D oj (cond sj).2.2) (body (cond sj).2.1).2 := by
 refine ⟨?_, wf_jn h.wo (hc _ h.ws).2, hb _ (hc _ h.ws).1⟩
 rw [h.eq]
 simp [unrF]
end
end Sp
end Go.Proofs.YtiopfihjmkfdmaaGreatDoor
namespace Go.Proofs.YtiopfihjmkfdmaaGreatDoor
open Go.RowKit
set_option maxRecDepth 100000
set_option maxHeartbeats 2000000
def VisAt (w : World) (v : Value) (vis : List (Int × List Int)) : Prop :=
 ∃ a cap, v = .slice a vis.length cap ∧ vis.length ≤ cap ∧ (vis ≠ [] → ∃ g, a = some ⟨g, 0, none⟩ ∧ ∀ i u, (visCells vis)[i]? = some u → w.cell? ⟨g, i, none⟩ = some u)
theorem visAt_of {base : Nat} {w : World} {v : Value} {vis : List (Int × List Int)} (h : w.ownsRow base 80 9 v vis.length (visCells vis)) : VisAt w v vis := by
 rcases h.2 with ⟨rfl, hz⟩ | ⟨g, cap, cur, rfl, _, hh, hnc, _, _, htake⟩
 ·exact ⟨none, 0, by rw [hz], by omega, fun hne => absurd (List.eq_nil_of_length_eq_zero hz) hne⟩
 ·refine ⟨_, cap, rfl, hnc, fun _ => ⟨g, rfl, fun i u hu => cell_of hh i ?_⟩⟩
  have hl := (List.getElem?_eq_some_iff.1 hu).1
  have h3 : cur.toList[i]? = (visCells vis)[i]? := by
   rw [← htake, List.getElem?_take, if_pos (by rw [← h.1]; exact hl)]
  rw [← Array.getElem?_toList, h3]; exact hu
theorem VisAt.below {w w' : World} {v : Value} {vis : List (Int × List Int)} (h : VisAt w v vis) (hb : Below w.heap.size w w') : VisAt w' v vis := by
 obtain ⟨a, cap, h1, h2, h3⟩ := h
 refine ⟨a, cap, h1, h2, fun hne => ?_⟩
 obtain ⟨g, h4, h5⟩ := h3 hne
 exact ⟨g, h4, fun i u hu => by rw [hb.cell (p := ⟨g, i, none⟩) (cell_lt (h5 i u hu))]; exact h5 i u hu⟩
theorem visCells_get (vis : List (Int × List Int)) (i : Nat) (x : Int × List Int) (h : vis[i]? = some x) (j : Nat) (u : Value) (hu : (visCell x)[j]? = some u) : (visCells vis)[i * 9 + j]? = some u := by
 induction vis generalizing i with
 | nil => simp at h
 | cons y ys ih =>
  have e : visCells (y :: ys) = visCell y ++ visCells ys := by simp [visCells]
  have hl : (visCell y).length = 9 := rfl
  rw [e]
  cases i with
  | zero =>
   have hj := (List.getElem?_eq_some_iff.1 hu).1
   simp at h
   subst h
   rw [List.getElem?_append_left (by omega)]
   simpa using hu
  | succ i =>
   rw [List.getElem?_append_right (by omega), hl]
   have := ih i (by simpa using h)
   rw [show (i + 1) * 9 + j - 9 = i * 9 + j by omega]
   exact this
structure STr (w : World) (a a' : Option Addr) (cap cap' : Nat) (stop : Int) (vis : List (Int × List Int)) (wr : World) : Prop where
 bel : Below w.heap.size w wr
 left : VisAt wr (.slice a vis.length cap) vis
 right : VisAt wr (.slice a' vis.length cap') vis
 blk : wr.heap[w.heap.size]? = some (.cells #[.slice a vis.length cap, .int .i64 stop] 41)
 blk1 : wr.heap[w.heap.size + 1]? = some (.cells #[.slice a' vis.length cap', .int .i64 stop] 41)
theorem STr.drew {w : World} {a a' : Option Addr} {cap cap' : Nat} {stop : Int} {vis : List (Int × List Int)} {wr : World} (h : STr w a a' cap cap' stop vis wr) : STr w a a' cap cap' stop vis wr.drew :=
 ⟨h.bel.drew, h.left.below (below_drew1 _), h.right.below (below_drew1 _), h.blk, h.blk1⟩
end Go.Proofs.YtiopfihjmkfdmaaGreatDoor
