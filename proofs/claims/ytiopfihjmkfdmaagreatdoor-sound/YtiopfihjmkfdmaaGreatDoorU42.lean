import Derived.Test.YtiopfihjmkfdmaaGreatDoorU41
import Derived.Deep.CutRange
namespace Go.Proofs.YtiopfihjmkfdmaaGreatDoor
namespace WI
open Go.RowKit
set_option maxRecDepth 100000
set_option maxHeartbeats 2000000
theorem block_nil (C : Cx) (π : Par) (T : Tab) (F : Fd) (b : Bool) (w : World) (s : ST) (h : AnAt C π T F w) :
  Calls Tryz.prog 82 #[.agg (wk C b), .slice none 0 0, .agg (stC s)] w (Post C π T F b w [] s) := by
 obtain ⟨k0, k1, k2, kb⟩ := laid3b (w := w) (o1 := .cells (wk C b) 217) (o2 := .cells (stC s) 220) (o3 := .cells #[.bool false, .int .i16 0, .int .i16 0, .int .i16 0, .int .i16 0, .int .i16 0, .int .i16 0, .int .i16 0, .int .i16 0, .int .i16 0, .int .i16 0, .int .i16 0, .int .i16 0, .int .i16 0, .int .i16 0, .int .i16 0, .int .i16 0] 220) (Below.refl _ _)
 have x17 := stC_size s
 have x1o := stC_one s
 unfold Post
 rw [told_nil]
 generalize wk C b = wa at *
 generalize stC s = xa at *
 have HX : Hid (_ = _) := k1
 have HZ : Hid (_ = _) := k2
 have HB : Hid (Below w.heap.size w _) := kb
 have HA : Hid (AnAt C π T F w) := h
 have hr0 : Hid (_ = _) := setCells_whole k2 (d := xa) (by rw [x17]; rfl)
 have HBf : Hid (Below w.heap.size w _) := setCells_below (b := w.heap.size + 1 + 1) (by omega) xa.toList 0 w _ kb
 clear k0 k1 k2 kb h
 go_enter Tryz.func82, Tryz.ntmps82
 go_wp2_with fail
 refine wp_loop_rounds 1 ?_
 rw [rounds_succ]
 go_wp2_with (first
  | (refine wp_ld rfl _ rfl rfl HX.out x17 ?_)
  | (refine wp_st rfl _ _ rfl rfl rfl HZ.out rfl x17 x1o ?_))
 refine bodyPost_ret (results_st Tryz.results82 _ _ rfl hr0.out x17) rfl ⟨rfl, HA.out.call HBf.out, AKeep.of_below HBf.out HA.out.le⟩
theorem side_no {v : Value} {x : Sp.Sm} (hx : ∀ k, x ≠ .name k) (h1 : ∃ t u, v = .iface t u) (h2 : ∀ w, (Instr.typeAssert v 277 275 true).run Tryz.prog w = .ok (.tuple #[.int .i64 0, .bool false]) w) : SideIs v x := by
 cases x with
 | name k => exact absurd rfl (hx k)
 | num n => exact ⟨h1, h2⟩
 | neg x => exact ⟨h1, h2⟩
 | bin k x y => exact ⟨h1, h2⟩
theorem ta_num_name (x : Value) (w : World) : (Instr.typeAssert (.iface 226 x) 277 275 true).run Tryz.prog w = .ok (.tuple #[.int .i64 0, .bool false]) w := by kernel_rfl
def RpAn : Rep Sp.Tr where
 S ct v x ct' := (∃ t u, v = .iface t u) ∧ SumAn v x ct ∧ SideIs v x ∧ Sp.OkS x ∧ Sp.cS x ct = ct'
 iface _ _ _ _ h := h.1
 num ct n hn := ⟨⟨_, _, rfl⟩, num_an n ct, side_no (fun k h => by cases h) ⟨_, _, rfl⟩ (ta_num_name _), fun m hm => by
  have := List.mem_singleton.1 hm
  subst this
  exact ⟨by omega, by omega⟩, rfl⟩
 name ct k hk := ⟨⟨_, _, rfl⟩, name_an k hk ct, ⟨rfl, hk⟩, (fun m hm => by cases hm), rfl⟩
 neg ct v x ct' h := by
  obtain ⟨⟨t, u, rfl⟩, hs, _, ok, he⟩ := h
  exact ⟨⟨_, _, rfl⟩, neg_an t u x ct ok hs, side_no (fun k h => by cases h) ⟨_, _, rfl⟩ (ta_neg_name _), ok, he⟩
 bin ct k v x ct1 u y ct2 hk h h' := by
  obtain ⟨⟨tl, ul, rfl⟩, hs, _, ok, rfl⟩ := h
  obtain ⟨⟨tr, ur, rfl⟩, hs', _, ok', rfl⟩ := h'
  have e : (if 3 ≤ k then Sp.siteUp (Sp.cS x ct) else Sp.cS x ct) = Sp.cS x ct := if_neg (by omega)
  refine ⟨⟨_, _, rfl⟩, bin_an k (by omega) 0 tl ul tr ur x y ct (fun h => by omega) ok ok' hs (by rw [e]; exact hs'), side_no (fun k h => by cases h) ⟨_, _, rfl⟩ (ta_bin_name _), Sp.okB_app ok ok', ?_⟩
  show Sp.cS y (if 3 ≤ k then Sp.siteUp (Sp.cS x ct) else Sp.cS x ct) = _
  rw [e]
 binSite ct k v x ct1 u y ct2 h3 hk h h' := by
  obtain ⟨⟨tl, ul, rfl⟩, hs, _, ok, rfl⟩ := h
  obtain ⟨⟨tr, ur, rfl⟩, hs', _, ok', rfl⟩ := h'
  have e : (if 3 ≤ k then Sp.siteUp (Sp.cS x ct) else Sp.cS x ct) = Sp.siteUp (Sp.cS x ct) := if_pos h3
  refine ⟨⟨_, _, rfl⟩, bin_an k hk _ tl ul tr ur x y ct (fun _ => rfl) ok ok' hs (by rw [e]; exact hs'), side_no (fun k h => by cases h) ⟨_, _, rfl⟩ (ta_bin_name _), Sp.okB_app ok ok', ?_⟩
  show Sp.cS y (if 3 ≤ k then Sp.siteUp (Sp.cS x ct) else Sp.cS x ct) = _
  rw [e]
  rfl
abbrev GF := Par → Sp.Pol → (Fin 8 → Sp.Iv) → List TelT × ST
structure StG (ct : Int × Int) (lo hi : Nat) (w : World) (v : Value) (f : Sp.Bl → Sp.Bl) (ct' : Int × Int) (G : GF) : Prop where
 cb : ∀ rest, Sp.cB (f rest) ct = Sp.cB rest ct'
 ok : ∀ rest, Sp.OkB rest → Sp.OkB (f rest)
 eq : ∀ π P rest s, Sp.anB (Dm π) P (f rest) ct s = Sp.thenR (Dm π) (Sp.stP (Dm π) ct.1 (G π P) s) (Sp.anB (Dm π) P rest ct')
 wf : ∀ π P e, (∀ k, Wv (e k)) → Sp.Wf (Kr π) (G π P e).2
 lp : ∀ π P T rest, Sp.LoopsB (Dm π) P T (f rest) ct → Sp.LoopsB (Dm π) P T (f .nil) ct ∧ Sp.LoopsB (Dm π) P T rest ct'
 calls : ∀ (C : Cx) (π : Par) (T : Tab) (F : Fd) (b : Bool) (W : World) (e : Fin 8 → Sp.Iv), SameOn lo hi w W → hi ≤ C.base → C.narrow ≤ 1000 → C.unroll ≤ 1000 → Sp.LoopsB (Dm π) C.pol T (f .nil) ct → AnAt C π T F W → (∀ k, Wv (e k)) → Rng b F (G π C.pol e).1 →
  Calls Tryz.prog 115 #[.agg (wk C b), v, .agg (stC (some e))] W (Post C π T F b W (G π C.pol e).1 (G π C.pol e).2)
def StA (ct : Int × Int) (lo hi : Nat) (w : World) (v : Value) (f : Sp.Bl → Sp.Bl) (ct' : Int × Int) : Prop :=
 (∃ t u, v = .iface t u ∧ WhereAt t u ct.1) ∧ ∃ G, StG ct lo hi w v f ct' G
theorem AKeep.same {C : Cx} {lo hi : Nat} {w w1 w2 : World} (h : SameOn lo hi w w1) (k : AKeep C w1 w2) (hh : hi ≤ C.base) : SameOn lo hi w w2 :=
 fun i h1 h2 hn => by rw [k.below.block i (by omega)]; exact h i h1 h2 hn
def stepsA : List (Sp.Bl → Sp.Bl) → (Nat → Int × Int) → (Nat → (Fin 8 → Sp.Iv) → List TelT × ST) → List StepA
 | [], _, _ => []
 | _ :: fs, f, g => ((f 0).1, g 0) :: stepsA fs (fun i => f (i + 1)) (fun i => g (i + 1))
theorem stepsA_len : ∀ (fs : List (Sp.Bl → Sp.Bl)) (f : Nat → Int × Int) (g : Nat → (Fin 8 → Sp.Iv) → List TelT × ST), (stepsA fs f g).length = fs.length
 | [], _, _ => rfl
 | _ :: fs, f, g => by show (stepsA fs _ _).length + 1 = _; rw [stepsA_len fs]; rfl
theorem stepsA_get : ∀ (fs : List (Sp.Bl → Sp.Bl)) (f : Nat → Int × Int) (g : Nat → (Fin 8 → Sp.Iv) → List TelT × ST) (i : Nat) (x : StepA), (stepsA fs f g)[i]? = some x → x = ((f i).1, g i)
 | [], _, _, i, x, h => by simp [stepsA] at h
 | _ :: fs, f, g, 0, x, h => by simpa [stepsA] using h.symm
 | _ :: fs, f, g, i + 1, x, h => by
  have h' : (stepsA fs (fun i => f (i + 1)) (fun i => g (i + 1)))[i]? = some x := by simpa [stepsA] using h
  exact stepsA_get fs _ _ i x h'
theorem then_blk (π : Par) (p : Int) (g : (Fin 8 → Sp.Iv) → List TelT × ST) (s : ST) (A : ST → List TelT × ST) (xs : List StepA) (h : ∀ s, A s = blkF xs s) : Sp.thenR (Dm π) (Sp.stP (Dm π) p g s) A = blkF ((p, g) :: xs) s := by
 cases s with
 | none => exact (congrArg (fun r : List TelT × ST => (([] : List TelT) ++ r.1, r.2)) ((h none).trans (blkF_none xs)))
 | some e => exact (congrArg (fun r : List TelT × ST => ((Sp.Tel.point p e :: (g e).1) ++ r.1, r.2)) (h (g e).2))
theorem joins_all (π : Par) (P : Sp.Pol) (T : Tab) (lo hi : Nat) (w : World) : ∀ (fs : List (Sp.Bl → Sp.Bl)) (vs : Nat → Value) (f : Nat → Int × Int) (Gi : Nat → GF), (∀ i g, fs[i]? = some g → StG (f i) lo hi w (vs i) g (f (i + 1)) (Gi i)) →
  Sp.cB (Sp.joinB fs) (f 0) = f fs.length ∧ Sp.OkB (Sp.joinB fs) ∧ (∀ s, Sp.anB (Dm π) P (Sp.joinB fs) (f 0) s = blkF (stepsA fs f (fun i => Gi i π P)) s) ∧ (Sp.LoopsB (Dm π) P T (Sp.joinB fs) (f 0) → ∀ i g, fs[i]? = some g → Sp.LoopsB (Dm π) P T (g .nil) (f i))
 | [], vs, f, Gi, _ => ⟨rfl, (fun n hn => by cases hn), (fun s => rfl), fun _ i g h => by simp at h⟩
 | x :: fs, vs, f, Gi, h => by
  have hx := h 0 x (by simp)
  obtain ⟨h1, h2, h3, h4⟩ := joins_all π P T lo hi w fs (fun i => vs (i + 1)) (fun i => f (i + 1)) (fun i => Gi (i + 1)) (fun i g hg => h (i + 1) g (by simpa using hg))
  refine ⟨?_, hx.ok _ h2, fun s => ?_, fun hl i g hg => ?_⟩
  ·show Sp.cB (x (Sp.joinB fs)) (f 0) = _
   rw [hx.cb]
   exact h1
  ·exact (hx.eq π P (Sp.joinB fs) s).trans (then_blk π _ _ s _ _ h3)
  ·obtain ⟨l1, l2⟩ := hx.lp π P T _ hl
   cases i with
   | zero =>
    have : x = g := by simpa using hg
    subst this
    exact l1
   | succ i => exact h4 l2 i g (by simpa using hg)
structure BlA (ct : Int × Int) (lo hi : Nat) (w : World) (v : Value) (t : Sp.Bl) (ct' : Int × Int) : Prop where
 cb : Sp.cB t ct = ct'
 ok : Sp.OkB t
 calls : ∀ (C : Cx) (π : Par) (T : Tab) (b : Bool) (W : World), SameOn lo hi w W → hi ≤ C.base → C.narrow ≤ 1000 → C.unroll ≤ 1000 → Sp.LoopsB (Dm π) C.pol T t ct → BlkAll C π T b W v (Sp.anB (Dm π) C.pol t ct)
theorem blk_an {ct ct' : Int × Int} {lo hi : Nat} {w : World} {v : Value} {fs : List (Sp.Bl → Sp.Bl)} (h : Blk StA ct lo hi w v fs ct') : BlA ct lo hi w v (Sp.joinB fs) ct' := by
 obtain ⟨vs, f, ho, hg, he, rfl, rfl⟩ := h
 have hvl : vs.length = fs.length := by have := ho.1; rw [Nat.mul_one] at this; exact this
 have hget : ∀ i g, fs[i]? = some g → ∃ u, vs[i]? = some u ∧ StA (f i) lo hi w u g (f (i + 1)) := fun i g hx => by
  have hi : i < vs.length := by rw [hvl]; exact (List.getElem?_eq_some_iff.1 hx).1
  exact ⟨_, List.getElem?_eq_getElem hi, he i _ g (List.getElem?_eq_getElem hi) hx⟩
 have hall : ∀ i, ∃ G : GF, ∀ g, fs[i]? = some g → StG (f i) lo hi w (vs.getD i .nilIface) g (f (i + 1)) G := fun i => by
  cases hf : fs[i]? with
  | none => exact ⟨fun _ _ _ => ([], none), fun g hg => by cases hg⟩
  | some g =>
   obtain ⟨u, hu, _, G, hG⟩ := hget i g hf
   refine ⟨G, fun g' hg' => ?_⟩
   cases hg'
   rw [List.getD_eq_getElem?_getD, hu]
   exact hG
 obtain ⟨Gi, hGi⟩ := Classical.axiomOfChoice hall
 have J := fun π P T => joins_all π P T lo hi w fs (fun i => vs.getD i .nilIface) f Gi hGi
 refine ⟨(J default ⟨0, 0, 0⟩ (fun _ s => ([], s))).1, (J default ⟨0, 0, 0⟩ (fun _ s => ([], s))).2.1, ?_⟩
 intro C π T b W hso hhB hnar hunr hlp F W' s hk ha hs hr
 obtain ⟨_, _, j3, j4⟩ := J π C.pol T
 have hso' := hk.same hso hhB
 rw [j3] at hr ⊢
 rcases ho.2 with ⟨rfl, hz⟩ | ⟨g, cap, cur, rfl, hlg, hh, hnc, hcm, hcs, htake⟩
 ·obtain rfl : fs = [] := List.eq_nil_of_length_eq_zero hz
  exact block_nil C π T F b W' s ha
 ·have hgl := hg g rfl
  have hsl := stepsA_len fs f (fun i => Gi i π C.pol)
  have := block_calls C π T F b W' g cap (stepsA fs f (fun i => Gi i π C.pol)) vs (by rw [hsl]; exact hvl) (by omega) (by rw [hsl]; unfold maxLen at hcm; omega) s hs ha hr
   (fun i u hu => by
     have h1 : W'.heap[g]? = some (.cells cur 234) := by rw [hso' g hlg hgl (by rw [hh]; exact not_num (by decide))]; exact hh
     refine cell_of h1 i ?_
     have h2 : i < vs.length := (List.getElem?_eq_some_iff.1 hu).1
     have h3 : cur.toList[i]? = vs[i]? := by
      rw [← htake, List.getElem?_take, if_pos (by omega)]
     rw [← Array.getElem?_toList, h3]; exact hu)
   (fun i u p G hu hx => by
     have hp := stepsA_get fs f _ i _ hx
     injection hp with hp1 hp2
     have hi : i < fs.length := by rw [← hvl]; exact (List.getElem?_eq_some_iff.1 hu).1
     obtain ⟨u', hu', ⟨t, y, e1, e2⟩, _⟩ := hget i _ (List.getElem?_eq_getElem hi)
     rw [hu] at hu'
     cases hu'
     have hst := hGi i _ (List.getElem?_eq_getElem hi)
     rw [List.getD_eq_getElem?_getD, hu] at hst
     refine ⟨t, y, e1, by rw [hp1]; exact e2, fun e he => by rw [hp2]; exact hst.wf π C.pol e he, fun F' W2 e hk2 ha2 hwe hr2 => ?_⟩
     subst hp2
     exact hst.calls C π T F' b W2 e (hk2.same hso' hhB) hhB hnar hunr (j4 hlp i _ (List.getElem?_eq_getElem hi)) ha2 hwe hr2)
  rw [hsl] at this
  exact this
end WI
end Go.Proofs.YtiopfihjmkfdmaaGreatDoor
