import Derived.Test.YtiopfihjmkfdmaaGreatDoorS22
import Derived.Test.YtiopfihjmkfdmaaGreatDoorS5
import Derived.Test.YtiopfihjmkfdmaaGreatDoorS8
import Derived.Deep.AppendLies
import Derived.Maps.AppendAt
import Derived.Test.YtiopfihjmkfdmaaGreatDoorS17
import Derived.Test.YtiopfihjmkfdmaaGreatDoorS9
import Derived.Test.YtiopfihjmkfdmaaGreatDoorS41
namespace Go.Proofs.YtiopfihjmkfdmaaGreatDoor
open Go.RowKit
set_option maxRecDepth 100000
set_option maxHeartbeats 1000000
theorem infoI16 : (Tryz.prog.info? 48).map (fun i => (i.zero, i.size, i.bytes)) = some (some (.int .i16 0), 1, 2) := by kernel_rfl
def shorts (zs : List Int) : List Value := zs.map fun z => .int .i16 z
def RowS (base : Nat) (w : World) (v : Value) (zs : List Int) : Prop := w.ownsRow base 48 1 v zs.length (shorts zs)
def stepsFrom (ns : List Nat) : List Int := [-32768, 32767] ++ ns.flatMap fun (n : Nat) => [((n : Nat) : Int), -((n : Nat) : Int)]
theorem RowS.form {base : Nat} {w : World} {v : Value} {zs : List Int} (h : RowS base w v zs) : ∃ a c, v = .slice a zs.length c := by
 rcases h.2 with ⟨rfl, hz⟩ | ⟨g, cap, cur, rfl, _⟩
 ·exact ⟨none, 0, by rw [hz]⟩
 ·exact ⟨_, _, rfl⟩
def NumsAt (w : World) (v : Value) (ns : List Nat) : Prop :=
 ∃ a cap, v = .slice a ns.length cap ∧ (ns ≠ [] → ∃ g off, a = some ⟨g, off, none⟩ ∧ g < w.heap.size ∧ ∀ (i n : Nat), ns[i]? = some n → w.cell? ⟨g, off + i, none⟩ = some (.int .i16 ((n : Nat) : Int)))
theorem rowS_more {base : Nat} {w w2 : World} {v v' : Value} {zs : List Int} {x y : Int} {o : Obj} (hb : base ≤ w.heap.size) (h : RowS base w v zs) (hown : w2.ownsRow base 48 1 v' (zs.length + 2) (shorts zs ++ [.int .i16 x, .int .i16 y])) (hg : (w.alloc o).grownBy w2 v.ownBlock) {w0 : World} (b0 : Below base w0 w) : RowS base w2 v' (zs ++ [x, y]) ∧ Below base w0 w2 := by
 refine ⟨?_, b0.grown (grown_alloc hg) hb (fun k hk => (ownsRow9_lt h k hk).1)⟩
 unfold RowS shorts at *
 rw [List.length_append, List.map_append]
 exact hown
theorem stepsFrom_len (ns : List Nat) : (stepsFrom ns).length = 2 + 2 * ns.length := by
 unfold stepsFrom
 rw [List.length_append]
 induction ns with
 | nil => rfl
 | cons x xs ih =>
  rw [List.flatMap_cons, List.length_append, List.length_cons] at *
  simp only [List.length_cons, List.length_nil] at *
  omega
theorem iv_new (v : Value) (ns : List Nat) (w : World) (h : NumsAt w v ns) (hs : ns.length ≤ 1000) (hn : ∀ n ∈ ns, n ≤ 32767) :
  Calls Tryz.prog 52 #[v] w fun e w' => ∃ u, e = .returned (.agg #[u]) ∧ RowS w.heap.size w' u (stepsFrom ns) ∧ Below w.heap.size w w' := by
 obtain ⟨i16, hi16, hz16, hs16, hb16⟩ := info_parts infoI16
 obtain ⟨ad, cap, rfl, hc⟩ := h
 have HN : Hid (∀ n ∈ ns, n ≤ 32767) := hn
 have HC : Hid (ns ≠ [] → _) := hc
 clear hn hc
 go_enter Tryz.func52, Tryz.ntmps52
 go_wp2_with fail
 have W0 : Hid (RowS (w.heap.size + 1) ((w.alloc (.cells #[.slice none 0 0] 133)).alloc (.cells #[.int .i16 (-32768), .int .i16 32767] 48)) (.slice (some ⟨w.heap.size + 1, 0, none⟩) 2 2) (stepsFrom [])) := by
  refine ⟨rfl, .inr ⟨w.heap.size + 1, 2, #[.int .i16 (-32768), .int .i16 32767], rfl, Nat.le_refl _, ?_, Nat.le_refl _, by unfold maxLen; omega, rfl, rfl⟩⟩
  have := heap_alloc_new (w.alloc (.cells #[.slice none 0 0] 133)) (.cells #[.int .i16 (-32768), .int .i16 32767] 48)
  simpa using this
 have hw0 : ((w.alloc (.cells #[.slice none 0 0] 133)).alloc (.cells #[.int .i16 (-32768), .int .i16 32767] 48)).heap[w.heap.size]? = some (.cells #[.slice none 0 0] 133) := heap_alloc_old (heap_alloc_new _ _)
 have hwb : Below w.heap.size w ((w.alloc (.cells #[.slice none 0 0] 133)).alloc (.cells #[.int .i16 (-32768), .int .i16 32767] 48)) := by go_grown
 have hws : w.heap.size + 1 ≤ ((w.alloc (.cells #[.slice none 0 0] 133)).alloc (.cells #[.int .i16 (-32768), .int .i16 32767] 48)).heap.size := by simp
 generalize (w.alloc (.cells #[.slice none 0 0] 133)).alloc (.cells #[.int .i16 (-32768), .int .i16 32767] 48) = wz at *
 go_loopw [3, 9] (fun v3 v9 wr => ∃ j : Nat, j ≤ ns.length ∧ v9 = .int .i64 j ∧ Hid (RowS (w.heap.size + 1) wr v3 (stepsFrom (ns.take j)) ∧ Below (w.heap.size + 1) wz wr ∧ w.heap.size + 1 ≤ wr.heap.size)) (fun _ v9 _ => ns.length - (intOf v9).toNat)
 case atStart => exact ⟨0, Nat.zero_le _, rfl, W0.out, Below.refl _ _, hws⟩
 case round =>
  obtain ⟨j, hj, rfl, hq⟩ := hrel
  obtain ⟨aq, cq, rfl⟩ := hq.out.1.form
  by_cases hjlt : j < ns.length
  ·obtain ⟨z, hz⟩ : ∃ z, ns[j]? = some z := ⟨_, List.getElem?_eq_getElem hjlt⟩
   have hne : ns ≠ [] := by intro e; subst e; simp at hjlt
   obtain ⟨g, off, rfl, hg, hcell⟩ := HC.out hne
   have hcz : wr.cell? ⟨g, off + j, none⟩ = some (.int .i16 ((z : Nat) : Int)) := by
    rw [hq.out.2.1.cell (p := ⟨g, off + j, none⟩) (by show g < w.heap.size + 1; omega), hwb.cell (p := ⟨g, off + j, none⟩) hg]; exact hcell j z hz
   have hzz := HN.out z (List.mem_of_getElem? hz)
   have hzi : ((z : Nat) : Int) ≤ 32767 := by omega
   have htk : Hid (stepsFrom (ns.take (j + 1)) = stepsFrom (ns.take j) ++ [((z : Nat) : Int), -((z : Nat) : Int)]) := by
    have hk := List.getElem?_eq_some_iff.1 hz
    unfold Hid stepsFrom
    rw [List.take_succ_eq_append_getElem hk.1, hk.2, List.flatMap_append, ← List.append_assoc]
    simp
   have hsl : (stepsFrom (ns.take j)).length ≤ 2000 := by rw [stepsFrom_len, List.length_take]; omega
   have hrow : Hid (RowS (w.heap.size + 1) wr (.slice aq (stepsFrom (ns.take j)).length cq) (stepsFrom (ns.take j))) := hq.out.1
   have hbs := hq.out.2.2
   clear hz hcell
   go_wp2_with (first
    | (at_builtin; refine wpList_append_own_at _ rfl _ _ 36 rfl (w.heap.size + 1) 48 i16 (.int .i16 0) 1 2 Tryz.underlying36 hi16 hz16 hs16 hb16 rfl (by decide) _ _ _ rfl (hrow.out.alloc _) ⟨wr.heap.size, 0, none⟩ 2 2 [.int .i16 ((z : Nat) : Int), .int .i16 (-((z : Nat) : Int))] rfl rfl (World.news_of_block (cs := #[.int .i16 ((z : Nat) : Int), .int .i16 (-((z : Nat) : Int))]) (t := 48) (fr := (0, 0)) (heap_alloc_new _ _)) ?q1 ?q2 ?q3 ?q4 ?_))
   case q1 => intro u hu; simp at hu; rcases hu with rfl | rfl <;> rfl
   case q2 => unfold maxLen; omega
   case q3 => omega
   case q4 => simp; omega
   intro v3 w3 hown3 hgrow3 _ _
   obtain ⟨r3, b3⟩ := rowS_more hbs hrow.out hown3 hgrow3 hq.out.2.1
   rw [← htk.out] at r3
   have hs3 : w.heap.size + 1 ≤ w3.heap.size := by have h1 := b3.size; omega
   have HQ : Hid (_ ∧ _ ∧ _) := And.intro r3 (And.intro b3 hs3)
   clear hown3 hgrow3 r3 b3 hs3 hrow
   go_wp2_with fail
   exact ⟨⟨j + 1, by omega, by go_num, HQ⟩, by simp [intOf]; omega⟩
  ·have EJ : Hid (ns.take j = ns) := List.take_of_length_le (by omega)
   have hr0 : wr.heap[w.heap.size]? = some (.cells #[.slice none 0 0] 133) := (hq.out.2.1.block _ (Nat.lt_succ_self _)).trans hw0
   have m0 := cell_of hr0 0 (v := .slice none 0 0) rfl
   have mf0 := frozen_of hr0 0
   have hrow : RowS (w.heap.size + 1) wr (.slice aq (stepsFrom (ns.take j)).length cq) (stepsFrom (ns.take j)) := hq.out.1
   have MQ : Hid ((wr.setCell ⟨w.heap.size, 0, none⟩ (.slice aq (stepsFrom (ns.take j)).length cq)).cell? ⟨w.heap.size, 0, none⟩ = some (.slice aq (stepsFrom (ns.take j)).length cq)) := cell_of (heap_setCell_at hr0 0 (.slice aq (stepsFrom (ns.take j)).length cq)) 0 rfl
   have HF : Hid (RowS w.heap.size (wr.setCell ⟨w.heap.size, 0, none⟩ (.slice aq (stepsFrom (ns.take j)).length cq)) (.slice aq (stepsFrom (ns.take j)).length cq) (stepsFrom ns) ∧ Below w.heap.size w (wr.setCell ⟨w.heap.size, 0, none⟩ (.slice aq (stepsFrom (ns.take j)).length cq))) := by
    refine ⟨?_, ?_⟩
    ·have ej := EJ.out
     rw [ej] at hrow ⊢
     have h1 := ownsRow9_keep (w' := wr.setCell ⟨w.heap.size, 0, none⟩ (.slice aq (stepsFrom ns).length cq)) hrow (fun k hk => Below.heap_setCell _ _ _ _ (by have := (ownsRow9_lt hrow k hk).1; show k ≠ w.heap.size; omega))
     obtain ⟨h2, h3⟩ := h1
     refine ⟨h2, ?_⟩
     rcases h3 with h3 | ⟨g, cap, cur, e, hg, r⟩
     ·exact .inl h3
     ·exact .inr ⟨g, cap, cur, e, Nat.le_trans (Nat.le_succ _) hg, r⟩
    ·exact (hwb.trans (hq.out.2.1.mono (Nat.le_succ _))).setCell (p := ⟨w.heap.size, 0, none⟩) (Nat.le_refl _) _
   clear hrow hr0
   go_wp2_with fail
   exact bodyPost_ret (v := .agg #[.slice aq (stepsFrom (ns.take j)).length cq]) (by simp [results, Tryz.results52, go_sem, MQ.out]) rfl ⟨_, rfl, HF.out.1, HF.out.2⟩
end Go.Proofs.YtiopfihjmkfdmaaGreatDoor
namespace Go.Proofs.YtiopfihjmkfdmaaGreatDoor
namespace Sp
def NoLoop : Bl → Prop
 | .nil => True
 | .assign _ _ t => NoLoop t
 | .read _ t => NoLoop t
 | .assert _ _ _ t => NoLoop t
 | .ite _ _ _ xs _ ys t => NoLoop xs ∧ NoLoop ys ∧ NoLoop t
 | .loop _ _ _ _ _ => False
abbrev Dom.wide (D : Dom) (w : D.V → D.V → D.V) : Dom := { D with widen := w }
theorem anS_wide (D : Dom) (w : D.V → D.V → D.V) : ∀ (x : Sm) (ct : Ct) (e : D.Env), anS (D.wide w) x ct e = anS D x ct e
 | .num _, _, _ => rfl
 | .name _, _, _ => rfl
 | .neg x, ct, e => by
  have h := anS_wide D w x ct e
  simp only [anS]
  rw [h]
 | .bin k x y, ct, e => by
  have h1 := anS_wide D w x ct e
  have h2 := anS_wide D w y (if 3 ≤ k then siteUp (cS x ct) else cS x ct) e
  simp only [anS]
  rw [h1, h2]
  generalize anS D x ct e = r1
  generalize anS D y (if 3 ≤ k then siteUp (cS x ct) else cS x ct) e = r2
  obtain ⟨e1, _ | a⟩ := r1
  ·rfl
  ·obtain ⟨e2, _ | b⟩ := r2
   ·rfl
   ·rfl
theorem jn_wide (D : Dom) (w : D.V → D.V → D.V) (s t : D.St) : jn (D.wide w) s t = jn D s t := by
 cases s with
 | none => rfl
 | some s =>
  cases t with
  | none => rfl
  | some t => rfl
theorem bndV_wide (D : Dom) (w : D.V → D.V → D.V) (x : Sm) (r : Nat) (a : D.V) (s : D.St) : bndV (D.wide w) x r a s = bndV D x r a s := by
 cases s with
 | none => rfl
 | some s =>
  cases x with
  | name k =>
   generalize hq : D.bound r (getV D s k) a = q
   have hq' : (D.wide w).bound r (getV (D.wide w) s k) a = q := hq
   simp only [bndV]
   rw [hq', hq]
   cases q with
   | none => rfl
   | some v => rfl
  | num n => rfl
  | neg x => rfl
  | bin k x y => rfl
theorem behindV_wide (D : Dom) (w : D.V → D.V → D.V) (r : Nat) (x y : Sm) (a b : D.V) (s : D.Env) : behindV (D.wide w) r x y a b s = behindV D r x y a b s := by
 unfold behindV
 rw [bndV_wide D w y, bndV_wide D w x]
theorem anC_wide (D : Dom) (w : D.V → D.V → D.V) (k : Nat) (x y : Sm) (ct : Ct) (s : D.St) : anC (D.wide w) k x y ct s = anC D k x y ct s := by
 cases s with
 | none => rfl
 | some e =>
  simp only [anC]
  rw [anS_wide D w x ct e, anS_wide D w y (cS x ct) e]
  generalize anS D x ct e = r1
  generalize anS D y (cS x ct) e = r2
  obtain ⟨e1, _ | a⟩ := r1
  ·rfl
  ·obtain ⟨e2, _ | b⟩ := r2
   ·rfl
   ·show (e1 ++ e2, behindV (D.wide w) k x y a b e, behindV (D.wide w) (opp k) x y a b e) = (e1 ++ e2, behindV D k x y a b e, behindV D (opp k) x y a b e)
    rw [behindV_wide D w k, behindV_wide D w (opp k)]
theorem stAssign_wide (D : Dom) (w : D.V → D.V → D.V) (k : Nat) (x : Sm) (ct : Ct) (e : D.Env) : stAssign (D.wide w) k x ct e = stAssign D k x ct e := by
 unfold stAssign
 rw [anS_wide D w x ct e]
 rfl
theorem stAssert_wide (D : Dom) (w : D.V → D.V → D.V) (q : Int) (k : Nat) (x y : Sm) (ct : Ct) (e : D.Env) : stAssert (D.wide w) q k x y ct e = stAssert D q k x y ct e := by
 unfold stAssert
 rw [anC_wide D w k x y ct (some e)]
theorem stP_wide (D : Dom) (w : D.V → D.V → D.V) (p : Int) {f g : D.Env → Res D} (h : ∀ e, f e = g e) (s : D.St) : stP (D.wide w) p f s = stP D p g s := by
 cases s with
 | none => rfl
 | some e =>
  simp only [stP]
  rw [h e]
theorem thenR_wide (D : Dom) (w : D.V → D.V → D.V) {r r' : Res D} {f g : D.St → Res D} (hr : r = r') (h : ∀ s, f s = g s) : thenR (D.wide w) r f = thenR D r' g := by
 subst hr
 simp only [thenR]
 rw [h r.2]
theorem stIf_wide (D : Dom) (w : D.V → D.V → D.V) {c c' : D.St → List (Tel D.V) × D.St × D.St} {f f' g g' : D.St → Res D} (hc : ∀ s, c s = c' s) (hf : ∀ s, f s = f' s) (hg : ∀ s, g s = g' s) (e : D.Env) : stIf (D.wide w) c f g e = stIf D c' f' g' e := by
 simp only [stIf]
 rw [hc (some e), hf, hg, jn_wide]
theorem anB_wide (D : Dom) (w : D.V → D.V → D.V) (P P' : Pol) : ∀ (t : Bl) (_ : NoLoop t) (ct : Ct) (s : D.St), anB (D.wide w) P t ct s = anB D P' t ct s
 | .nil, _, _, _ => rfl
 | .assign k x t, h, ct, s => by
  simp only [anB]
  exact thenR_wide D w (stP_wide D w _ (stAssign_wide D w k x _) s) (anB_wide D w P P' t h _)
 | .read k t, h, ct, s => by
  simp only [anB]
  exact thenR_wide D w (stP_wide D w _ (fun _ => rfl) s) (anB_wide D w P P' t h _)
 | .assert k x y t, h, ct, s => by
  simp only [anB]
  exact thenR_wide D w (stP_wide D w _ (stAssert_wide D w _ k x y _) s) (anB_wide D w P P' t h _)
 | .ite k x y xs true ys t, h, ct, s => by
  simp only [anB]
  exact thenR_wide D w (stP_wide D w _ (stIf_wide D w (anC_wide D w k x y _) (anB_wide D w P P' xs h.1 _) (anB_wide D w P P' ys h.2.1 _)) s) (anB_wide D w P P' t h.2.2 _)
 | .ite k x y xs false ys t, h, ct, s => by
  simp only [anB]
  exact thenR_wide D w (stP_wide D w _ (stIf_wide D w (anC_wide D w k x y _) (anB_wide D w P P' xs h.1 _) (fun _ => rfl)) s) (anB_wide D w P P' t h.2.2 _)
 | .loop k x y xs t, h, ct, s => h.elim
theorem telP_wide (D : Dom) (w : D.V → D.V → D.V) (p : Int) (s : D.St) : telP (D.wide w) p s = telP D p s := by
 cases s with
 | none => rfl
 | some e => rfl
theorem tell1_wide (D : Dom) (w : D.V → D.V → D.V) (F : Found D) (x : Tel D.V) : tell1 (D.wide w) F x = tell1 D F x := by
 cases x with
 | point p s =>
  show (F.1.modify p.toNat (fun f => jn (D.wide w) f (some s)), F.2) = (F.1.modify p.toNat (fun f => jn D f (some s)), F.2)
  have : (fun f => jn (D.wide w) f (some s)) = (fun f => jn D f (some s)) := funext fun f => jn_wide D w f (some s)
  rw [this]
 | site q b => rfl
theorem tell_wide (D : Dom) (w : D.V → D.V → D.V) : ∀ (es : List (Tel D.V)) (F : Found D), tell (D.wide w) F es = tell D F es
 | [], _ => rfl
 | x :: es, F => by
  have h := tell_wide D w es (tell1 D F x)
  show tell (D.wide w) (tell1 (D.wide w) F x) es = tell D (tell1 D F x) es
  rw [tell1_wide]
  exact h
theorem reportOf_wide (D : Dom) (w : D.V → D.V → D.V) (P P' : Pol) (t : Bl) (h : NoLoop t) : reportOf (D.wide w) P t = reportOf D P' t := by
 have h1 := anB_wide D w P P' t h (0, 0) (some fun _ => D.num 0)
 show tell (D.wide w) _ ((anB (D.wide w) P t (0, 0) (some fun _ => D.num 0)).1 ++ telP (D.wide w) (cB t (0, 0)).1 (anB (D.wide w) P t (0, 0) (some fun _ => D.num 0)).2) = tell D _ ((anB D P' t (0, 0) (some fun _ => D.num 0)).1 ++ telP D (cB t (0, 0)).1 (anB D P' t (0, 0) (some fun _ => D.num 0)).2)
 rw [h1, telP_wide, tell_wide]
theorem straight (s s' : List Int) (P P' : Pol) (t : Bl) (h : NoLoop t) : (show List (Option (Fin 8 → Iv)) × List Nat from reportOf (ivDom s) P t) = (show List (Option (Fin 8 → Iv)) × List Nat from reportOf (ivDom s') P' t) :=
 reportOf_wide (ivDom s') (ivWiden s) P P' t h
end Sp
end Go.Proofs.YtiopfihjmkfdmaaGreatDoor
namespace Go.Proofs.YtiopfihjmkfdmaaGreatDoor
namespace Sp
def HasW (w s : Bs) : Prop := ∃ a b, s = a ++ w ++ b
theorem HasW.suf {w l s : Bs} (h : HasW w l) (hl : l <:+ s) : HasW w s := by
 obtain ⟨a, b, rfl⟩ := h
 obtain ⟨c, rfl⟩ := hl
 exact ⟨c ++ a, b, by simp⟩
theorem hasW_tok {w l : Bs} (h : tok l = w) : HasW w l := ⟨[], l.drop (tokLen l), by rw [← h]; unfold tok; simp⟩
section
variable {A : Alg}
theorem pChain_suf {lv : Nat} {u : Bs → R A.S} (hu : ∀ l x l', u l = .ok (x, l') → l' <:+ l) : ∀ m (x : A.S) l (y : A.S) l', pChain A lv u m x l = .ok (y, l') → l' <:+ l := by
 intro m
 induction m with
 | zero => intro x l y l' h; cases h; exact List.suffix_refl _
 | succ m ih =>
  intro x l y l' h
  rw [pChain_succ A lv u m x l] at h
  split at h
  ·split at h
   ·split at h
    ·next z l1 hz => exact ((ih _ _ _ _ h).trans (hu _ _ _ hz)).trans (next_suffix l)
    ·cases h
   ·cases h; exact List.suffix_refl _
  ·cases h; exact List.suffix_refl _
theorem pWith_suf {lv : Nat} {u : Bs → R A.S} (hu : ∀ l x l', u l = .ok (x, l') → l' <:+ l) : ∀ l x l', pWith A lv u l = .ok (x, l') → l' <:+ l := by
 intro l x l' h
 unfold pWith at h
 split at h
 ·next y l1 hy => exact (pChain_suf hu _ _ _ _ _ h).trans (hu _ _ _ hy)
 ·cases h
theorem pSum_suf {u : Bs → R A.S} (hu : ∀ l x l', u l = .ok (x, l') → l' <:+ l) : ∀ l x l', pSum A u l = .ok (x, l') → l' <:+ l := pWith_suf (pWith_suf hu)
theorem pUnary_suf : ∀ n o l (x : A.S) l', pUnary A n o l = .ok (x, l') → l' <:+ l := by
 intro n
 induction n with
 | zero => intro o l x l' h; cases h
 | succ n ih =>
  intro o l x l' h
  unfold pUnary at h
  split at h
  ·split at h
   ·cases h; exact next_suffix l
   ·cases h
  ·split at h
   ·split at h
    ·next k l1 hk =>
     obtain ⟨_, h6⟩ := pName_ok_iff hk
     cases h
     rw [h6]; exact next_suffix l
    ·cases h
   ·split at h
    ·split at h
     ·next l1 he =>
      obtain ⟨_, _, rfl⟩ := enter_ok_iff he
      split at h
      ·next y l2 hy => cases h; exact (ih _ _ _ _ hy).trans (next_suffix l)
      ·cases h
     ·cases h
    ·split at h
     ·next l1 he =>
      obtain ⟨_, _, rfl⟩ := enter_ok_iff he
      split at h
      ·next y l2 hy =>
       split at h
       ·next l3 ht3 =>
        obtain ⟨_, rfl⟩ := take_ok_iff ht3
        cases h
        exact ((next_suffix l2).trans (pSum_suf (ih _) _ _ _ hy)).trans (next_suffix l)
       ·cases h
      ·cases h
     ·cases h
theorem pS_suf {o : Nat} {l : Bs} {x : A.S} {l' : Bs} (h : pS A o l = .ok (x, l')) : l' <:+ l := pSum_suf (pUnary_suf _ _) _ _ _ h
theorem pCond_suf {o : Nat} {l : Bs} {c : Nat × A.S × A.S} {l' : Bs} (h : pCond A o l = .ok (c, l')) : l' <:+ l := by
 unfold pCond at h
 split at h
 ·next x1 l1 hx =>
  split at h
  ·split at h
   ·next y1 l2 hy => cases h; exact ((pS_suf hy).trans (next_suffix l1)).trans (pS_suf hx)
   ·cases h
  ·cases h
 ·cases h
structure Bars (A : Alg) (src : Bs) (Q : A.T → Prop) : Prop where
 assign : ∀ k x, Q (A.assign k x)
 read : HasW wRead src → ∀ k, Q (A.read k)
 assert : ∀ k x y, Q (A.assert k x y)
 ite : ∀ k x y xs, (∀ z ∈ xs, Q z) → Q (A.ite k x y xs none)
 iteElse : ∀ k x y xs ys, (∀ z ∈ xs, Q z) → (∀ z ∈ ys, Q z) → Q (A.ite k x y xs (some ys))
 loop : HasW wWhile src → ∀ k x y xs, (∀ z ∈ xs, Q z) → Q (A.loop k x y xs)
variable {src : Bs} {Q : A.T → Prop}
def BarsR (src : Bs) (Q : A.T → Prop) (st : Bs → R A.T) : Prop := ∀ l x l', l <:+ src → st l = .ok (x, l') → l' <:+ l ∧ Q x
theorem pMany_bar {st : Bs → R A.T} (hs : BarsR src Q st) : ∀ m (acc : List A.T) l ys l', l <:+ src → (∀ z ∈ acc, Q z) → pMany A st m acc l = .ok (ys, l') → l' <:+ l ∧ ∀ z ∈ ys, Q z := by
 intro m
 induction m with
 | zero => intro acc l ys l' _ ha h; cases h; exact ⟨List.suffix_refl _, ha⟩
 | succ m ih =>
  intro acc l ys l' hl ha h
  rw [pMany_succ A st m acc l] at h
  split at h
  ·split at h
   ·next x l1 hx =>
    obtain ⟨h1, h2⟩ := hs _ _ _ hl hx
    obtain ⟨h3, h4⟩ := ih _ _ _ _ (h1.trans hl) (fun z hz => by
     rcases List.mem_append.1 hz with hz | hz
     ·exact ha z hz
     ·rw [List.mem_singleton.1 hz]; exact h2) h
    exact ⟨h3.trans h1, h4⟩
   ·cases h
  ·cases h; exact ⟨List.suffix_refl _, ha⟩
theorem pBlock_bar {st : Bs → R A.T} (hs : BarsR src Q st) {o : Nat} {l : Bs} {xs : List A.T} {l' : Bs} (hl : l <:+ src) (h : pBlock A st o l = .ok (xs, l')) : l' <:+ l ∧ ∀ z ∈ xs, Q z := by
 unfold pBlock at h
 split at h
 ·next l1 he =>
  obtain ⟨_, _, rfl⟩ := enter_ok_iff he
  split at h
  ·next ys l2 hm =>
   obtain ⟨h1, h2⟩ := pMany_bar hs _ [] _ _ _ ((next_suffix l).trans hl) (fun z hz => by cases hz) hm
   split at h
   ·next l3 ht3 =>
    obtain ⟨_, rfl⟩ := take_ok_iff ht3
    cases h
    exact ⟨((next_suffix l2).trans h1).trans (next_suffix l), h2⟩
   ·cases h
  ·cases h
 ·cases h
theorem pStmt_bar (H : Bars A src Q) : ∀ n o, BarsR src Q (pStmt A n o) := by
 intro n
 induction n with
 | zero => intro o l x l' _ h; cases h
 | succ n ih =>
  intro o l x l' hl h
  have hn : next l <:+ src := (next_suffix l).trans hl
  unfold pStmt at h
  split at h
  ·next ht =>
   unfold pRead at h
   split at h
   ·next k l1 hk =>
    obtain ⟨h5, rfl⟩ := pName_ok_iff hk
    split at h
    ·next l2 h2 =>
     obtain ⟨_, rfl⟩ := take_ok_iff h2
     cases h
     exact ⟨((next_suffix _).trans (next_suffix _)).trans (next_suffix l), H.read ((hasW_tok ht).suf hl) k⟩
    ·cases h
   ·cases h
  ·split at h
   ·unfold pAssert at h
    split at h
    ·next k x1 y1 l1 hc =>
     split at h
     ·next l2 h6 =>
      obtain ⟨_, rfl⟩ := take_ok_iff h6
      cases h
      exact ⟨((next_suffix _).trans (pCond_suf hc)).trans (next_suffix l), H.assert _ _ _⟩
     ·cases h
    ·cases h
   ·split at h
    ·unfold pIf at h
     split at h
     ·next k x1 y1 l1 hc =>
      have s1 := pCond_suf hc
      split at h
      ·next xs l2 hb =>
       obtain ⟨h6, h7⟩ := pBlock_bar (ih _) (s1.trans hn) hb
       split at h
       ·split at h
        ·next ys l3 hb2 =>
         obtain ⟨h8, h9⟩ := pBlock_bar (ih _) (((next_suffix l2).trans h6).trans (s1.trans hn)) hb2
         cases h
         exact ⟨((h8.trans (next_suffix l2)).trans h6).trans (s1.trans (next_suffix l)), H.iteElse _ _ _ _ _ h7 h9⟩
        ·cases h
       ·cases h; exact ⟨h6.trans (s1.trans (next_suffix l)), H.ite _ _ _ _ h7⟩
      ·cases h
     ·cases h
    ·split at h
     ·next ht =>
      unfold pWhile at h
      split at h
      ·next k x1 y1 l1 hc =>
       have s1 := pCond_suf hc
       split at h
       ·next xs l2 hb =>
        obtain ⟨h6, h7⟩ := pBlock_bar (ih _) (s1.trans hn) hb
        cases h
        exact ⟨h6.trans (s1.trans (next_suffix l)), H.loop ((hasW_tok ht).suf hl) _ _ _ _ h7⟩
       ·cases h
      ·cases h
     ·unfold pAssign at h
      split at h
      ·next k l1 hk =>
       obtain ⟨h5, rfl⟩ := pName_ok_iff hk
       split at h
       ·next l2 h2 =>
        obtain ⟨_, rfl⟩ := take_ok_iff h2
        split at h
        ·next x1 l3 hx =>
         split at h
         ·next l4 h10 =>
          obtain ⟨_, rfl⟩ := take_ok_iff h10
          cases h
          exact ⟨(((next_suffix _).trans (pS_suf hx)).trans (next_suffix _)).trans (next_suffix l), H.assign _ _⟩
         ·cases h
        ·cases h
       ·cases h
      ·cases h
theorem parse_bar (H : Bars A src Q) {xs : List A.T} (h : parse A src = .ok xs) : ∀ z ∈ xs, Q z := by
 unfold parse at h
 split at h
 ·cases h
 ·split at h
  ·next ys hp =>
   cases h
   unfold pProg at hp
   split at hp
   ·next zs l1 hm =>
    split at hp
    ·cases hp
     exact (pMany_bar (pStmt_bar H _ _) _ [] _ _ _ (skip_suffix src) (fun z hz => by cases hz) hm).2
    ·cases hp
   ·cases hp
  ·cases h
end
theorem joinB_all {Q : Bl → Prop} (h0 : Q .nil) : ∀ (fs : List (Bl → Bl)), (∀ f ∈ fs, ∀ t, Q t → Q (f t)) → Q (joinB fs)
 | [], _ => h0
 | f :: fs, h => h f (List.mem_cons_self ..) _ (joinB_all h0 fs fun g hg => h g (List.mem_cons_of_mem _ hg))
theorem tree_noLoop {src : Bs} {t : Bl} (h : tree src = .ok t) (hw : ¬ HasW wWhile src) : NoLoop t := by
 unfold tree at h
 split at h
 ·next fs hp =>
  cases h
  refine joinB_all (Q := NoLoop) trivial fs ?_
  refine parse_bar (A := Tr) (Q := fun f => ∀ t, NoLoop t → NoLoop (f t)) ⟨fun _ _ _ h => h, fun _ _ _ h => h, fun _ _ _ _ h => h, fun k x y xs hx t ht => ?_, fun k x y xs ys hx hy t ht => ?_, fun hh => absurd hh hw⟩ hp
  ·exact ⟨joinB_all (Q := NoLoop) trivial xs hx, trivial, ht⟩
  ·exact ⟨joinB_all (Q := NoLoop) trivial xs hx, joinB_all (Q := NoLoop) trivial ys hy, ht⟩
 ·cases h
end Sp
end Go.Proofs.YtiopfihjmkfdmaaGreatDoor
