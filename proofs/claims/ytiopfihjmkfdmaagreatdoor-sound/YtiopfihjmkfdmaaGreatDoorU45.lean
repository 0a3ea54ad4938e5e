import Derived.Test.YtiopfihjmkfdmaaGreatDoorU42
import Derived.Test.YtiopfihjmkfdmaaGreatDoorU43
import Derived.Test.YtiopfihjmkfdmaaGreatDoorU44
namespace Go.Proofs.YtiopfihjmkfdmaaGreatDoor
namespace WI
open Go.RowKit
set_option maxRecDepth 100000
set_option maxHeartbeats 2000000
theorem conds_at {vl vr : Value} {k : Nat} {x y : Sp.Sm} {ct : Sp.Ct} (h : CondAn vl vr k x y ct) {C : Cx} {π : Par} {T : Tab} {F : Fd} {b : Bool} {s : ST} (hs : Sp.Wf (Kr π) s) (hr : Rng b F (Sp.anC (Dm π) k x y ct s).1) :
  CondsAt C π T F b k vl vr s (Sp.anC (Dm π) k x y ct s).1 (Sp.anC (Dm π) k x y ct s).2.1 (Sp.anC (Dm π) k x y ct s).2.2 := fun W hW => h C π T F b W s hW hs hr
theorem Rng.right2 {π : Par} {b : Bool} {F : Fd} {es es' es'' : List TelT} (h : Rng b F (es ++ es' ++ es'')) : Rng b (WI.told π b (WI.told π b F es) es') es'' := by
 rw [← told_append]
 exact h.right
theorem st_assign (ct : Int × Int) (lo hi : Nat) (w : World) (k : Nat) (v : Value) (x : Sp.Sm) (ct' : Int × Int) (hk : k < 8) (h : RpAn.S (ptUp ct) v x ct') : StA ct lo hi w (.iface 279 (.agg #[.int .i64 ct.1, .int .i64 (k : Nat), v])) (Sp.Bl.assign k x) ct' := by
 obtain ⟨⟨t, u, rfl⟩, hs, _, ok, he⟩ := h
 refine ⟨⟨_, _, rfl, mw_assign _ _ _⟩, fun π P e => Sp.stAssign (Dm π) k x (Sp.ptUp ct) e, ?_, ?_, ?_, ?_, ?_, ?_⟩
 ·intro rest; rw [← he]; rfl
 ·intro rest hr; exact Sp.okB_app ok hr
 ·intro π P rest s; rw [← he]; rfl
 ·intro π P e hwe; exact Sp.assign_wf' (K := Kr π) ok _ e hwe
 ·intro π P T rest hl; rw [← he]; exact ⟨trivial, hl⟩
 ·intro C π T F b W e hso hhB _ _ _ ha hwe hr
  exact stmt_assign ct.1 k t u C π T F b W e _ _ ha (fun W' hk' ha' => assign_calls ct.1 k hk t u C π T F b W' e _ _ ha' (fun W2 h2 => hs C π T F b W2 e h2 hwe hr) _ rfl)
theorem st_read (ct : Int × Int) (lo hi : Nat) (w : World) (k : Nat) (hk : k < 8) : StA ct lo hi w (.iface 283 (.agg #[.int .i64 ct.1, .int .i64 (k : Nat)])) (Sp.Bl.read k) (ptUp ct) := by
 refine ⟨⟨_, _, rfl, mw_read _ _⟩, fun π P e => Sp.stRead (Dm π) k e, ?_, ?_, ?_, ?_, ?_, ?_⟩
 ·intro rest; rfl
 ·intro rest hr; exact hr
 ·intro π P rest s; rfl
 ·intro π P e hwe; exact Sp.Wf.some (Sp.wf_set hwe k (Kr π).wwhole)
 ·intro π P T rest hl; exact ⟨trivial, hl⟩
 ·intro C π T F b W e hso hhB _ _ _ ha hwe hr
  exact stmt_read ct.1 k hk C π T F b W e ha
theorem st_assert (ct : Int × Int) (lo hi : Nat) (w : World) (k : Nat) (v : Value) (x : Sp.Sm) (ct1 : Int × Int) (u : Value) (y : Sp.Sm) (ct2 : Int × Int) (hk : k < 6) (h : RpAn.S (siteUp (ptUp ct)) v x ct1) (h' : RpAn.S ct1 u y ct2) : StA ct lo hi w (.iface 287 (.agg #[.int .i64 ct.1, .int .i64 ct.2, .int .i64 (k : Nat), v, u])) (Sp.Bl.assert k x y) ct2 := by
 obtain ⟨⟨tl, ul, rfl⟩, hs, sx, okx, rfl⟩ := h
 obtain ⟨⟨tr, ur, rfl⟩, hs', sy, oky, rfl⟩ := h'
 have hc := cond_an k hk tl ul tr ur x y _ okx oky sx sy hs hs'
 refine ⟨⟨_, _, rfl, mw_assert _ _ _ _ _⟩, fun π P e => Sp.stAssert (Dm π) ct.2 k x y (Sp.siteUp (Sp.ptUp ct)) e, ?_, ?_, ?_, ?_, ?_, ?_⟩
 ·intro rest; rfl
 ·intro rest hr; exact Sp.okB_app (Sp.okB_app okx oky) hr
 ·intro π P rest s; rfl
 ·intro π P e hwe; exact (Sp.anC_wf (K := Kr π) okx oky (Sp.Wf.some hwe)).1
 ·intro π P T rest hl; exact ⟨trivial, hl⟩
 ·intro C π T F b W e hso hhB _ _ _ ha hwe hr
  have hr' : Rng b F ((Sp.anC (Dm π) k x y (Sp.siteUp (Sp.ptUp ct)) (some e)).1 ++ [Sp.Tel.site ct.2 (Sp.anC (Dm π) k x y (Sp.siteUp (Sp.ptUp ct)) (some e)).2.2.isSome]) := hr
  exact stmt_assert ct.1 ct.2 k tl ul tr ur C π T F b W e _ _ ha (fun W' hk' ha' => assert_calls ct.1 ct.2 k tl ul tr ur C π T F b W' e _ _ _ ha' (conds_at hc (Sp.Wf.some hwe) hr'.left) hr'.right)
theorem st_ite (ct : Int × Int) (lo hi : Nat) (w : World) (k : Nat) (v : Value) (x : Sp.Sm) (ct1 : Int × Int) (u : Value) (y : Sp.Sm) (ct2 : Int × Int) (bv : Value) (xs : List (Sp.Bl → Sp.Bl)) (ct3 : Int × Int) (hk : k < 6) (h : RpAn.S (ptUp ct) v x ct1) (h' : RpAn.S ct1 u y ct2) (hb : Blk StA ct2 lo hi w bv xs ct3) :
  StA ct lo hi w (.iface 290 (.agg #[.int .i64 ct.1, .int .i64 (k : Nat), v, u, bv, .slice none 0 0, .bool false])) (Sp.Bl.ite k x y (Sp.joinB xs) false .nil) ct3 := by
 obtain ⟨⟨tl, ul, rfl⟩, hs, sx, okx, rfl⟩ := h
 obtain ⟨⟨tr, ur, rfl⟩, hs', sy, oky, rfl⟩ := h'
 obtain ⟨av, nv, cv, rfl⟩ := blk_slice hb
 have B := blk_an hb
 have hc := cond_an k hk tl ul tr ur x y _ okx oky sx sy hs hs'
 have hcw : ∀ π, Sp.CondWf (Kr π) (Sp.anC (Dm π) k x y (Sp.ptUp ct)) := fun π s hs => Sp.anC_wf okx oky hs
 have hbw : ∀ π P, Sp.BodyWf (Kr π) (Sp.anB (Dm π) P (Sp.joinB xs) (Sp.cS y (Sp.cS x (Sp.ptUp ct)))) := fun π P s hs => Sp.anB_wf P _ B.ok _ s hs
 refine ⟨⟨_, _, rfl, mw_if _ _ _ _ _ _ _⟩, fun π P e => Sp.stIf (Dm π) (Sp.anC (Dm π) k x y (Sp.ptUp ct)) (Sp.anB (Dm π) P (Sp.joinB xs) (Sp.cS y (Sp.cS x (Sp.ptUp ct)))) (fun s => ([], s)) e, ?_, ?_, ?_, ?_, ?_, ?_⟩
 ·intro rest; rw [← B.cb]; rfl
 ·intro rest hr
  intro n hn
  have : n ∈ Sp.nuS x ++ Sp.nuS y ++ Sp.nuB (Sp.joinB xs) ++ [] ++ Sp.nuB rest := hn
  exact Sp.okB_app (Sp.okB_app (Sp.okB_app (Sp.okB_app okx oky) B.ok) (fun n h => by cases h)) hr n this
 ·intro π P rest s; rw [← B.cb]; rfl
 ·intro π P e hwe; exact Sp.if_wf' (K := Kr π) (hcw π) (hbw π P) (fun s hs => hs) e hwe
 ·intro π P T rest hl; rw [← B.cb]; exact ⟨⟨hl.1, trivial⟩, hl.2⟩
 ·intro C π T F b W e hso hhB hnar hunr hlp ha hwe hr
  have wc := hcw π (some e) (Sp.Wf.some hwe)
  have hr' : Rng b F ((Sp.anC (Dm π) k x y (Sp.ptUp ct) (some e)).1 ++ (Sp.anB (Dm π) C.pol (Sp.joinB xs) (Sp.cS y (Sp.cS x (Sp.ptUp ct))) (Sp.anC (Dm π) k x y (Sp.ptUp ct) (some e)).2.1).1 ++ []) := hr
  exact stmt_if ct.1 k tl ul tr ur av nv cv none 0 0 false C π T F b W e _ _ ha (fun W' hk' ha' => branch_calls ct.1 k tl ul tr ur av nv cv none 0 0 false C π T F b W' e _ _ [] _ _ _ _ _ ha' (conds_at hc (Sp.Wf.some hwe) hr'.left.left)
   (fun W2 hk2 ha2 => B.calls C π T b W hso hhB hnar hunr hlp.1 _ W2 _ (hk'.trans hk2) ha2 wc.1 hr'.left.right)
   (fun W2 hk2 ha2 => block_nil C π T _ b W2 _ ha2) (hbw π C.pol _ wc.1) wc.2 rfl)
theorem st_iteElse (ct : Int × Int) (lo hi : Nat) (w : World) (k : Nat) (v : Value) (x : Sp.Sm) (ct1 : Int × Int) (u : Value) (y : Sp.Sm) (ct2 : Int × Int) (bv : Value) (xs : List (Sp.Bl → Sp.Bl)) (ct3 : Int × Int) (cv : Value) (ys : List (Sp.Bl → Sp.Bl)) (ct4 : Int × Int) (hk : k < 6) (h : RpAn.S (ptUp ct) v x ct1) (h' : RpAn.S ct1 u y ct2) (hb : Blk StA ct2 lo hi w bv xs ct3) (hc' : Blk StA ct3 lo hi w cv ys ct4) :
  StA ct lo hi w (.iface 290 (.agg #[.int .i64 ct.1, .int .i64 (k : Nat), v, u, bv, cv, .bool true])) (Sp.Bl.ite k x y (Sp.joinB xs) true (Sp.joinB ys)) ct4 := by
 obtain ⟨⟨tl, ul, rfl⟩, hs, sx, okx, rfl⟩ := h
 obtain ⟨⟨tr, ur, rfl⟩, hs', sy, oky, rfl⟩ := h'
 obtain ⟨av, nv, cv, rfl⟩ := blk_slice hb
 obtain ⟨ae, ne, ce, rfl⟩ := blk_slice hc'
 have B := blk_an hb
 have E := blk_an hc'
 have hB := B.cb
 subst hB
 have hc := cond_an k hk tl ul tr ur x y _ okx oky sx sy hs hs'
 have hcw : ∀ π, Sp.CondWf (Kr π) (Sp.anC (Dm π) k x y (Sp.ptUp ct)) := fun π s hs => Sp.anC_wf okx oky hs
 have hbw : ∀ π P, Sp.BodyWf (Kr π) (Sp.anB (Dm π) P (Sp.joinB xs) (Sp.cS y (Sp.cS x (Sp.ptUp ct)))) := fun π P s hs => Sp.anB_wf P _ B.ok _ s hs
 have hew : ∀ π P, Sp.BodyWf (Kr π) (Sp.anB (Dm π) P (Sp.joinB ys) (Sp.cB (Sp.joinB xs) (Sp.cS y (Sp.cS x (Sp.ptUp ct))))) := fun π P s hs => Sp.anB_wf P _ E.ok _ s hs
 refine ⟨⟨_, _, rfl, mw_if _ _ _ _ _ _ _⟩, fun π P e => Sp.stIf (Dm π) (Sp.anC (Dm π) k x y (Sp.ptUp ct)) (Sp.anB (Dm π) P (Sp.joinB xs) (Sp.cS y (Sp.cS x (Sp.ptUp ct)))) (Sp.anB (Dm π) P (Sp.joinB ys) (Sp.cB (Sp.joinB xs) (Sp.cS y (Sp.cS x (Sp.ptUp ct))))) e, ?_, ?_, ?_, ?_, ?_, ?_⟩
 ·intro rest; rw [← E.cb]; rfl
 ·intro rest hr; exact Sp.okB_app (Sp.okB_app (Sp.okB_app (Sp.okB_app okx oky) B.ok) E.ok) hr
 ·intro π P rest s; rw [← E.cb]; rfl
 ·intro π P e hwe; exact Sp.if_wf' (K := Kr π) (hcw π) (hbw π P) (hew π P) e hwe
 ·intro π P T rest hl; rw [← E.cb]; exact ⟨⟨hl.1, hl.2.1, trivial⟩, hl.2.2⟩
 ·intro C π T F b W e hso hhB hnar hunr hlp ha hwe hr
  have wc := hcw π (some e) (Sp.Wf.some hwe)
  have hr' : Rng b F ((Sp.anC (Dm π) k x y (Sp.ptUp ct) (some e)).1 ++ (Sp.anB (Dm π) C.pol (Sp.joinB xs) (Sp.cS y (Sp.cS x (Sp.ptUp ct))) (Sp.anC (Dm π) k x y (Sp.ptUp ct) (some e)).2.1).1 ++ (Sp.anB (Dm π) C.pol (Sp.joinB ys) (Sp.cB (Sp.joinB xs) (Sp.cS y (Sp.cS x (Sp.ptUp ct)))) (Sp.anC (Dm π) k x y (Sp.ptUp ct) (some e)).2.2).1) := hr
  exact stmt_if ct.1 k tl ul tr ur av nv cv ae ne ce true C π T F b W e _ _ ha (fun W' hk' ha' => branch_calls ct.1 k tl ul tr ur av nv cv ae ne ce true C π T F b W' e _ _ _ _ _ _ _ _ ha' (conds_at hc (Sp.Wf.some hwe) hr'.left.left)
   (fun W2 hk2 ha2 => B.calls C π T b W hso hhB hnar hunr hlp.1 _ W2 _ (hk'.trans hk2) ha2 wc.1 hr'.left.right)
   (fun W2 hk2 ha2 => E.calls C π T b W hso hhB hnar hunr hlp.2.1 _ W2 _ (hk'.trans hk2) ha2 wc.2 hr'.right2) (hbw π C.pol _ wc.1) (hew π C.pol _ wc.2) rfl)
theorem st_loop (ct : Int × Int) (lo hi : Nat) (w : World) (k : Nat) (v : Value) (x : Sp.Sm) (ct1 : Int × Int) (u : Value) (y : Sp.Sm) (ct2 : Int × Int) (bv : Value) (xs : List (Sp.Bl → Sp.Bl)) (ct3 : Int × Int) (hk : k < 6) (h : RpAn.S (ptUp ct) v x ct1) (h' : RpAn.S ct1 u y ct2) (hb : Blk StA ct2 lo hi w bv xs ct3) :
  StA ct lo hi w (.iface 293 (.agg #[.int .i64 ct.1, .int .i64 (k : Nat), v, u, bv])) (Sp.Bl.loop k x y (Sp.joinB xs)) ct3 := by
 obtain ⟨⟨tl, ul, rfl⟩, hs, sx, okx, rfl⟩ := h
 obtain ⟨⟨tr, ur, rfl⟩, hs', sy, oky, rfl⟩ := h'
 obtain ⟨av, nv, cv, rfl⟩ := blk_slice hb
 have B := blk_an hb
 have hc := cond_an k hk tl ul tr ur x y _ okx oky sx sy hs hs'
 have hcw : ∀ π, Sp.CondWf (Kr π) (Sp.anC (Dm π) k x y (Sp.ptUp ct)) := fun π s hs => Sp.anC_wf okx oky hs
 have hbw : ∀ π P, Sp.BodyWf (Kr π) (Sp.anB (Dm π) P (Sp.joinB xs) (Sp.cS y (Sp.cS x (Sp.ptUp ct)))) := fun π P s hs => Sp.anB_wf P _ B.ok _ s hs
 have hbn : ∀ π P, Sp.BodyNo (D := Dm π) (Sp.anB (Dm π) P (Sp.joinB xs) (Sp.cS y (Sp.cS x (Sp.ptUp ct)))) := fun π P => Sp.anB_none P _ _
 refine ⟨⟨_, _, rfl, mw_while _ _ _ _ _⟩, fun π P e => Sp.anW (Dm π) P (Sp.anC (Dm π) k x y (Sp.ptUp ct)) (Sp.anB (Dm π) P (Sp.joinB xs) (Sp.cS y (Sp.cS x (Sp.ptUp ct)))) ct.1 (some e), ?_, ?_, ?_, ?_, ?_, ?_⟩
 ·intro rest; rw [← B.cb]; rfl
 ·intro rest hr; exact Sp.okB_app (Sp.okB_app (Sp.okB_app okx oky) B.ok) hr
 ·intro π P rest s; rw [← B.cb]; rfl
 ·intro π P e hwe; exact Sp.anW_wf (K := Kr π) (hcw π) (hbw π P) rfl (hbn π P) _ (Sp.Wf.some hwe)
 ·intro π P T rest hl; rw [← B.cb]; exact ⟨⟨hl.1, hl.2.1, trivial⟩, hl.2.2⟩
 ·intro C π T F b W e hso hhB hnar hunr hlp ha hwe hr
  have hp := hlp.1.1
  have hT : T ct.1 (some e) = Sp.anW (Dm π) C.pol (Sp.anC (Dm π) k x y (Sp.ptUp ct)) (Sp.anB (Dm π) C.pol (Sp.joinB xs) (Sp.cS y (Sp.cS x (Sp.ptUp ct)))) ct.1 (some e) := hlp.1.2 (some e)
  have hpt : b = true → 0 ≤ ct.1 ∧ ct.1.toNat < F.1.length := fun hb => by
   obtain ⟨s', hs'⟩ := Sp.anW_point (K := Kr π) (P := C.pol) (hcw π) (hbw π C.pol) ct.1 hwe
   exact hr hb _ hs'
  have hl := loop_calls ct.1 hp k tl ul tr ur av nv cv C π T F b
  refine stmt_while ct.1 k tl ul tr ur av nv cv C π T F b W e _ _ ha (fun W' hk' ha' => ?_)
  have hlw := hl W' (some e) ha' (Sp.Wf.some hwe) (fun W2 hk2 ha2 => by
   rw [hT]
   exact around_calls ct.1 k tl ul tr ur av nv cv _ _ (fun s => Sp.allV (Dm π) C.pol (Sp.anC (Dm π) k x y (Sp.ptUp ct)) (Sp.anB (Dm π) C.pol (Sp.joinB xs) (Sp.cS y (Sp.cS x (Sp.ptUp ct)))) s) C π T F b W2 (some e) _ ha2 (Sp.Wf.some hwe) rfl
    (fun F' W3 s' h3 hs' hr' => hc C π T F' b W3 s' h3 hs' hr') (hcw π) (hbw π C.pol) (B.calls C π T b W2 ((hk'.trans hk2).same hso hhB) hhB hnar hunr hlp.2.1)
    (fun F' W3 s' h3 ha3 hs' => all_calls ct.1 k tl ul tr ur av nv cv x y (Sp.ptUp ct) _ C π T F' b W3 s' ha3 hs' hc (hcw π) (hbw π C.pol) (hbn π C.pol) (B.calls C π T false W3 (((hk'.trans hk2).trans h3).same hso hhB) hhB hnar hunr hlp.2.1) hnar)
    (fun s' hs' => Sp.allV_wf (hcw π) (hbw π C.pol) rfl (hbn π C.pol) hs') hunr hpt hr)
  rw [hT] at hlw
  exact hlw
def RtAn : RepT Sp.Tr RpAn where
 T := StA
 mono := by
  intro ct ct' lo hi lo' hi' w w' v x h hl hh hs
  obtain ⟨h1, G, hG⟩ := h
  refine ⟨h1, G, hG.cb, hG.ok, hG.eq, hG.wf, hG.lp, ?_⟩
  intro C π T F b W e hso hhB
  exact hG.calls C π T F b W e (fun k h1 h2 hn => (hso k (by omega) (by omega) (by rw [hs k h1 h2 hn]; exact hn)).trans (hs k h1 h2 hn)) (by omega)
 iface h := by
  obtain ⟨⟨t, u, e, _⟩, _⟩ := h
  exact ⟨t, u, e⟩
 assign := st_assign
 read := st_read
 assert := st_assert
 ite := st_ite
 iteElse := st_iteElse
 loop := st_loop
end WI
end Go.Proofs.YtiopfihjmkfdmaaGreatDoor
namespace Go.Proofs.YtiopfihjmkfdmaaGreatDoor
namespace WI
open Go.RowKit
set_option maxRecDepth 100000
set_option maxHeartbeats 1000000
structure SameAt (w : World) (v : Sp.Iv) (l : List Sp.Iv) (W : World) : Prop where
 o : W.heap[w.heap.size]? = some (.cells #[.int .i16 v.a, .int .i16 v.b] 131)
 z : W.heap[w.heap.size + 1]? = some (.cells noneI 220)
 x : W.heap[w.heap.size + 1 + 1]? = some (.cells (stI true l) 220)
 b : Below w.heap.size w W
theorem SameAt.set {w : World} {v : Sp.Iv} {l : List Sp.Iv} {W : World} (h : SameAt w v l W) {j : Nat} (hj : j < l.length) : SameAt w v (l.set j v) ((W.setCell ⟨w.heap.size + 1 + 1, 1 + j * 2, none⟩ (.int .i16 v.a)).setCell ⟨w.heap.size + 1 + 1, 1 + j * 2 + 1, none⟩ (.int .i16 v.b)) := by
 have e1 : w.heap.size ≠ w.heap.size + 1 + 1 := by omega
 have e2 : w.heap.size + 1 ≠ w.heap.size + 1 + 1 := by omega
 refine ⟨?_, ?_, ?_, (h.b.setCell (p := ⟨w.heap.size + 1 + 1, 1 + j * 2, none⟩) (by show w.heap.size ≤ w.heap.size + 1 + 1; omega) _).setCell (p := ⟨w.heap.size + 1 + 1, 1 + j * 2 + 1, none⟩) (by show w.heap.size ≤ w.heap.size + 1 + 1; omega) _⟩
 ·rw [Below.heap_setCell _ _ _ _ e1, Below.heap_setCell _ _ _ _ e1]; exact h.o
 ·rw [Below.heap_setCell _ _ _ _ e2, Below.heap_setCell _ _ _ _ e2]; exact h.z
 ·rw [heap_setCell_at (heap_setCell_at h.x (1 + j * 2) (.int .i16 v.a)) (1 + j * 2 + 1) (.int .i16 v.b), stI_set v hj]
def fillI (v : Sp.Iv) (j : Nat) : List Sp.Iv := List.replicate j v ++ List.replicate (8 - j) ⟨0, 0⟩
theorem fill_len (v : Sp.Iv) {j : Nat} (h : j ≤ 8) : (fillI v j).length = 8 := by unfold fillI; simp; omega
theorem fill_set (v : Sp.Iv) {j : Nat} (h : j < 8) : (fillI v j).set j v = fillI v (j + 1) := by
 unfold fillI
 rw [List.set_append_right _ _ (by simp), List.length_replicate, Nat.sub_self, show 8 - j = (8 - (j + 1)) + 1 by omega, List.replicate_succ, List.set_cons_zero, List.replicate_succ']
 simp
theorem same_calls (v : Sp.Iv) (w : World) :
  Calls Tryz.prog 83 #[.agg #[.int .i16 v.a, .int .i16 v.b]] w fun e w' => e = .returned (.agg (stC (some fun _ => v))) ∧ Below w.heap.size w w' := by
 have k : Hid (w.heap.size ≤ w.heap.size) := Nat.le_refl _
 go_enter Tryz.func83, Tryz.ntmps83
 go_wp2_with fail
 have H0 : Hid (SameAt w v (fillI v 0) (((w.alloc (.cells #[.int .i16 v.a, .int .i16 v.b] 131)).alloc (.cells noneI 220)).alloc (.cells (stI true (fillI v 0)) 220))) := by
  obtain ⟨k0, k1, k2, kb⟩ := laid3b (w := w) (o1 := .cells #[.int .i16 v.a, .int .i16 v.b] 131) (o2 := .cells noneI 220) (o3 := .cells (stI true (fillI v 0)) 220) (Below.refl _ _)
  exact ⟨k0, k1, k2, kb⟩
 change Code.wp _ _ _ _ (((w.alloc (.cells #[.int .i16 v.a, .int .i16 v.b] 131)).alloc (.cells noneI 220)).alloc (.cells (stI true (fillI v 0)) 220))
 generalize ((w.alloc (.cells #[.int .i16 v.a, .int .i16 v.b] 131)).alloc (.cells noneI 220)).alloc (.cells (stI true (fillI v 0)) 220) = W0 at *
 go_loopw [6] (fun v6 wr => ∃ j : Nat, j ≤ 8 ∧ v6 = .int .i64 j ∧ Hid (SameAt w v (fillI v j) wr)) (fun v6 _ => 8 - (intOf v6).toNat)
 case atStart => exact ⟨0, Nat.zero_le _, rfl, H0.out⟩
 case round =>
  obtain ⟨j, hj, rfl, hq⟩ := hrel
  clear H0 k
  by_cases hjlt : j < 8
  ·obtain ⟨x, hxj⟩ : ∃ x, (fillI v j)[j]? = some x := ⟨_, List.getElem?_eq_getElem (by rw [fill_len _ hj]; omega)⟩
   have d0 := cell_of hq.out.o 0 (v := .int .i16 v.a) rfl
   have d1 := cell_of hq.out.o 1 (v := .int .i16 v.b) rfl
   have x0 := cell_of hq.out.x _ (stI_get hxj).1
   have x1 := cell_of hq.out.x _ (stI_get hxj).2
   have f0 := frozen_of hq.out.x (1 + j * 2)
   have f1 := frozen_of hq.out.x (1 + j * 2 + 1)
   have A : Hid (SameAt w v (fillI v (j + 1)) ((wr.setCell ⟨w.heap.size + 1 + 1, 1 + j * 2, none⟩ (.int .i16 v.a)).setCell ⟨w.heap.size + 1 + 1, 1 + j * 2 + 1, none⟩ (.int .i16 v.b))) := by
    unfold Hid; rw [← fill_set _ hjlt]; exact hq.out.set (by rw [fill_len _ hj]; omega)
   have hji : (j : Int) < 8 := by omega
   clear hxj
   go_wp2_with fail
   exact ⟨⟨j + 1, by omega, by go_num, A⟩, by simp [intOf]; omega⟩
  ·obtain rfl : j = 8 := by omega
   have e8 : stI true (fillI v 8) = stC (some fun _ => v) := by
    unfold stC
    congr 1
   have hx : wr.heap[w.heap.size + 1 + 1]? = some (.cells (stI true (fillI v 8)) 220) := hq.out.x
   have hz := hq.out.z
   have hB := hq.out.b
   have sz : (stI true (fillI v 8)).size = 17 := stI_size (fill_len _ (Nat.le_refl _))
   have o1 : (stI true (fillI v 8)).all (·.oneCell') = true := stI_one _ _
   rw [e8] at hx sz o1
   clear hq hj hjlt e8
   generalize hxa : stC (some fun _ => v) = xa at *
   have HXA : Hid (stC (some fun _ => v) = xa) := hxa
   clear hxa
   have HX : Hid (_ = _) := hx
   have HZ : Hid (_ = _) := hz
   have hr : Hid (_ = _) := setCells_whole hz (d := xa) (by rw [sz]; rfl)
   have HB : Hid (Below w.heap.size w _) := setCells_below (b := w.heap.size + 1) (by omega) xa.toList 0 w _ hB
   clear hx hz hB
   go_wp2_with (first
    | (refine wp_ld rfl _ rfl rfl HX.out sz ?_)
    | (refine wp_st rfl _ _ rfl rfl rfl HZ.out rfl sz o1 ?_))
   refine bodyPost_ret (results_st Tryz.results83 _ _ rfl hr.out sz) rfl ⟨by rw [HXA.out], HB.out⟩
end WI
end Go.Proofs.YtiopfihjmkfdmaaGreatDoor
