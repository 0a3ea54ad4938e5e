import Derived.Test.YtiopfihjmkfdmaaGreatDoorS9
import Derived.Test.YtiopfihjmkfdmaaGreatDoorS41
import Derived.Test.YtiopfihjmkfdmaaGreatDoorS3
import Derived.Test.YtiopfihjmkfdmaaGreatDoorS45
import Derived.Test.YtiopfihjmkfdmaaGreatDoorS44
import Derived.Test.YtiopfihjmkfdmaaGreatDoorS17
import Derived.Test.YtiopfihjmkfdmaaGreatDoorS18
import Derived.Test.YtiopfihjmkfdmaaGreatDoorS42
namespace Go.Proofs.YtiopfihjmkfdmaaGreatDoor
namespace Sp
theorem Nums.trans {a b c : Bs} {ns ms : List Nat} (h : Nums a b ns) (k : Nums b c ms) : Nums a c (ns ++ ms) := by
 induction k with
 | nil => rw [List.append_nil]; exact h
 | step _ ih => rw [← List.append_assoc]; exact ih.step
theorem Nums.at_nil {ns : List Nat} {l : Bs} (h : Nums [] l ns) : l = [] ∧ ns = [] := by
 induction h with
 | nil => exact ⟨rfl, rfl⟩
 | step _ ih => obtain ⟨rfl, rfl⟩ := ih; exact ⟨rfl, rfl⟩
theorem Nums.head {a l : Bs} {ns : List Nat} (h : Nums a l ns) : (l = a ∧ ns = []) ∨ ∃ ms, Nums (next a) l ms ∧ ns = numsAt a ++ ms := by
 induction h with
 | nil => exact .inl ⟨rfl, rfl⟩
 | @step l ns h ih =>
  right
  rcases ih with ⟨rfl, rfl⟩ | ⟨ms, h1, rfl⟩
  ·exact ⟨[], .nil, by simp⟩
  ·exact ⟨_, h1.step, by simp⟩
def natsS : Sm → List Nat
 | .num n => [n]
 | .name _ => []
 | .neg x => natsS x
 | .bin _ x y => natsS x ++ natsS y
def natsB : Bl → List Nat
 | .nil => []
 | .assign _ x rest => natsS x ++ natsB rest
 | .read _ rest => natsB rest
 | .assert _ x y rest => natsS x ++ natsS y ++ natsB rest
 | .ite _ x y xs _ ys rest => natsS x ++ natsS y ++ natsB xs ++ natsB ys ++ natsB rest
 | .loop _ x y xs rest => natsS x ++ natsS y ++ natsB xs ++ natsB rest
theorem nuS_nats : ∀ x : Sm, nuS x = (natsS x).map fun n : Nat => (n : Int)
 | .num _ => rfl
 | .name _ => rfl
 | .neg x => nuS_nats x
 | .bin _ x y => by show nuS x ++ nuS y = (natsS x ++ natsS y).map _; rw [nuS_nats x, nuS_nats y, List.map_append]
theorem nuB_nats : ∀ t : Bl, nuB t = (natsB t).map fun n : Nat => (n : Int)
 | .nil => rfl
 | .assign _ x t => by show nuS x ++ nuB t = (natsS x ++ natsB t).map _; rw [nuS_nats x, nuB_nats t, List.map_append]
 | .read _ t => nuB_nats t
 | .assert _ x y t => by show nuS x ++ nuS y ++ nuB t = (natsS x ++ natsS y ++ natsB t).map _; simp only [nuS_nats, nuB_nats t, List.map_append]
 | .ite _ x y xs _ ys t => by show nuS x ++ nuS y ++ nuB xs ++ nuB ys ++ nuB t = (natsS x ++ natsS y ++ natsB xs ++ natsB ys ++ natsB t).map _; simp only [nuS_nats, nuB_nats xs, nuB_nats ys, nuB_nats t, List.map_append]
 | .loop _ x y xs t => by show nuS x ++ nuS y ++ nuB xs ++ nuB t = (natsS x ++ natsS y ++ natsB xs ++ natsB t).map _; simp only [nuS_nats, nuB_nats xs, nuB_nats t, List.map_append]
inductive Way (a : Bs) : Bs → List Nat → Prop
 | nil : Way a a []
 | step {l : Bs} {ns : List Nat} : Way a l ns → 0 < tokLen l → Way a (next l) (ns ++ numsAt l)
theorem Way.trans {a b c : Bs} {ns ms : List Nat} (h : Way a b ns) (k : Way b c ms) : Way a c (ns ++ ms) := by
 induction k with
 | nil => rw [List.append_nil]; exact h
 | step _ hp ih => rw [← List.append_assoc]; exact ih.step hp
theorem Way.nums {a l : Bs} {ns : List Nat} (h : Way a l ns) : Nums a l ns := by
 induction h with
 | nil => exact .nil
 | step _ _ ih => exact ih.step
theorem Way.head {a l : Bs} {ns : List Nat} (h : Way a l ns) : (l = a ∧ ns = []) ∨ ∃ ms, 0 < tokLen a ∧ Way (next a) l ms ∧ ns = numsAt a ++ ms := by
 induction h with
 | nil => exact .inl ⟨rfl, rfl⟩
 | @step l ns h hp ih =>
  right
  rcases ih with ⟨rfl, rfl⟩ | ⟨ms, h0, h1, rfl⟩
  ·exact ⟨[], hp, .nil, by simp⟩
  ·exact ⟨_, h0, h1.step hp, by simp⟩
theorem Way.same : ∀ (n : Nat) {a : Bs} {ns ms : List Nat}, a.length ≤ n → Nums a [] ns → Way a [] ms → ns = ms
 | n, a, ns, ms, hn, h, k => by
  by_cases ha : a = []
  ·subst ha
   rw [h.at_nil.2, k.nums.at_nil.2]
  ·rcases h.head with ⟨e, _⟩ | ⟨ns', h1, rfl⟩
   ·exact absurd e.symm ha
   ·rcases k.head with ⟨e, _⟩ | ⟨ms', hp, k1, rfl⟩
    ·exact absurd e.symm ha
    ·have hlt := next_lt hp
     match n, hn with
     | 0, hn => omega
     | n + 1, hn => rw [Way.same n (by omega) h1 k1]
theorem way_tok {l t : Bs} (h : tok l = t) (ht : t ≠ []) (hd : t.head?.any isDig = false) : Way l (next l) [] := by
 have hp : 0 < tokLen l := by rw [← tok_length, h]; exact List.length_pos_iff.2 ht
 have := (Way.nil (a := l)).step hp
 rwa [numsAt, if_neg (kind_of_tok h hd)] at this
theorem way_kind {l : Bs} (h : tokKind l = 2) : Way l (next l) [] := by
 have := (Way.nil (a := l)).step (tokLen_pos (.inl h))
 rwa [numsAt, if_neg (by omega)] at this
theorem way_num {l : Bs} (h : tokKind l = 3) : Way l (next l) [decimal (tok l)] := by
 have := (Way.nil (a := l)).step (tokLen_pos (.inr (.inl h)))
 rwa [numsAt, if_pos h] at this
theorem Way.more {a l : Bs} {ns : List Nat} (h : Way a l ns) {b : Bs} (k : Way l b []) : Way a b ns := by
 have := h.trans k
 rwa [List.append_nil] at this
theorem Way.less {a l : Bs} {ns : List Nat} (h : Way a l []) {b : Bs} (k : Way l b ns) : Way a b ns := h.trans k
theorem way_take {t l l1 : Bs} (h : take t l = .ok l1) (ht : t ≠ []) (hd : t.head?.any isDig = false) : Way l l1 [] := by
 obtain ⟨h1, rfl⟩ := take_ok_iff h
 exact way_tok h1 ht hd
theorem way_enter {t l l1 : Bs} {o : Nat} (h : enter t o l = .ok l1) (ht : t ≠ []) (hd : t.head?.any isDig = false) : Way l l1 [] := by
 obtain ⟨h1, _, rfl⟩ := enter_ok_iff h
 exact way_tok h1 ht hd
theorem name_kind {l : Bs} {k : Nat} (h5 : nameVal l = some k) : tokKind l = 2 := by
 unfold nameVal at h5
 split at h5
 ·split at h5
  ·next hc => exact hc.1
  ·cases h5
 ·cases h5
theorem way_name {l l1 : Bs} {k : Nat} (h : pName l = .ok (k, l1)) : Way l l1 [] := by
 obtain ⟨h5, rfl⟩ := pName_ok_iff h
 exact way_kind (name_kind h5)
theorem way_op {l : Bs} {k : Nat} (h : opOf (tok l) = some k) : Way l (next l) [] := by
 unfold opOf at h
 split at h
 ·next e => exact way_tok e (by simp) rfl
 ·split at h
  ·next e => exact way_tok e (by simp) rfl
  ·split at h
   ·next e => exact way_tok e (by simp) rfl
   ·split at h
    ·next e => exact way_tok e (by simp) rfl
    ·split at h
     ·next e => exact way_tok e (by simp) rfl
     ·cases h
theorem way_rel {l : Bs} {k : Nat} (h : relOf (tok l) = some k) : Way l (next l) [] := by
 unfold relOf at h
 split at h
 ·next e => exact way_tok e (by simp) rfl
 ·split at h
  ·next e => exact way_tok e (by simp) rfl
  ·split at h
   ·next e => exact way_tok e (by simp) rfl
   ·split at h
    ·next e => exact way_tok e (by simp) rfl
    ·split at h
     ·next e => exact way_tok e (by simp) rfl
     ·split at h
      ·next e => exact way_tok e (by simp) rfl
      ·cases h
def WayS (u : Bs → R Tr.S) : Prop := ∀ l (x : Sm) l', u l = .ok (x, l') → Way l l' (natsS x)
theorem pChain_way {lv : Nat} {u : Bs → R Tr.S} (hu : WayS u) {a : Bs} : ∀ m (x : Sm) l (y : Sm) l', Way a l (natsS x) → pChain Tr lv u m x l = .ok (y, l') → Way a l' (natsS y) := by
 intro m
 induction m with
 | zero => intro x l y l' hx h; cases h; exact hx
 | succ m ih =>
  intro x l y l' hx h
  rw [pChain_succ Tr lv u m x l] at h
  split at h
  ·next k hk =>
   split at h
   ·split at h
    ·next z l1 hz => exact ih _ _ _ _ ((hx.more (way_op hk)).trans (hu _ _ _ hz)) h
    ·cases h
   ·cases h; exact hx
  ·cases h; exact hx
theorem pWith_way {lv : Nat} {u : Bs → R Tr.S} (hu : WayS u) : WayS (pWith Tr lv u) := by
 intro l x l' h
 unfold pWith at h
 split at h
 ·next y l1 hy => exact pChain_way hu _ _ _ _ _ (hu _ _ _ hy) h
 ·cases h
theorem pSum_way {u : Bs → R Tr.S} (hu : WayS u) : WayS (pSum Tr u) := pWith_way (pWith_way hu)
theorem numVal_dec {t : Bs} {v : Nat} (h : numVal t = some v) : v = decimal t := by
 unfold numVal at h
 split at h
 ·cases h
 ·split at h
  ·cases h; rfl
  ·cases h
theorem pUnary_way : ∀ n o, WayS (pUnary Tr n o) := by
 intro n
 induction n with
 | zero => intro o l x l' h; cases h
 | succ n ih =>
  intro o l x l' h
  unfold pUnary at h
  split at h
  ·next h3 =>
   split at h
   ·next v hv =>
    cases h
    rw [numVal_dec hv]
    exact way_num h3
   ·cases h
  ·split at h
   ·split at h
    ·next k l1 hk => cases h; exact way_name hk
    ·cases h
   ·split at h
    ·split at h
     ·next l1 he =>
      split at h
      ·next y l2 hy => cases h; exact (way_enter he (by simp) rfl).less (show Way _ _ (natsS y) from ih _ _ y _ hy)
      ·cases h
     ·cases h
    ·split at h
     ·next l1 he =>
      split at h
      ·next y l2 hy =>
       split at h
       ·next l3 ht3 =>
        cases h
        exact ((way_enter he (by simp) rfl).less (pSum_way (ih _) _ _ _ hy)).more (way_take ht3 (by simp) rfl)
       ·cases h
      ·cases h
     ·cases h
theorem pS_way {o : Nat} {l : Bs} {x : Sm} {l' : Bs} (h : pS Tr o l = .ok (x, l')) : Way l l' (natsS x) := pSum_way (pUnary_way _ _) _ _ _ h
theorem pCond_way {o : Nat} {l : Bs} {k : Nat} {x y : Sm} {l' : Bs} (h : pCond Tr o l = .ok ((k, x, y), l')) : Way l l' (natsS x ++ natsS y) := by
 unfold pCond at h
 split at h
 ·next x1 l1 hx =>
  split at h
  ·next k1 hk =>
   split at h
   ·next y1 l2 hy => cases h; exact ((pS_way hx).more (way_rel hk)).trans (pS_way hy)
   ·cases h
  ·cases h
 ·cases h
def natsT (f : Bl → Bl) : List Nat := natsB (f .nil)
def PutT (f : Bl → Bl) : Prop := ∀ t, natsB (f t) = natsT f ++ natsB t
def WayT (st : Bs → R Tr.T) : Prop := ∀ l (f : Bl → Bl) l', st l = .ok (f, l') → Way l l' (natsT f) ∧ PutT f
theorem joinB_nats : ∀ (fs : List (Bl → Bl)), (∀ f ∈ fs, PutT f) → natsB (joinB fs) = (fs.map natsT).flatten
 | [], _ => rfl
 | f :: fs, h => by
  show natsB (f (joinB fs)) = natsT f ++ (fs.map natsT).flatten
  rw [h f (List.mem_cons_self ..), joinB_nats fs fun g hg => h g (List.mem_cons_of_mem _ hg)]
theorem pMany_way {st : Bs → R Tr.T} (hs : WayT st) {a : Bs} : ∀ m (acc : List (Bl → Bl)) l ys l', Way a l (acc.map natsT).flatten → (∀ f ∈ acc, PutT f) → pMany Tr st m acc l = .ok (ys, l') → Way a l' (ys.map natsT).flatten ∧ ∀ f ∈ ys, PutT f := by
 intro m
 induction m with
 | zero => intro acc l ys l' hx ha h; cases h; exact ⟨hx, ha⟩
 | succ m ih =>
  intro acc l ys l' hx ha h
  rw [pMany_succ Tr st m acc l] at h
  split at h
  ·split at h
   ·next f l1 hf =>
    obtain ⟨h1, h2⟩ := hs _ _ _ hf
    refine ih _ _ _ _ ?_ (fun z hz => ?_) h
    ·have e : (List.map natsT (@HAppend.hAppend (List (Bl → Bl)) (List (Bl → Bl)) _ _ acc [f])).flatten = (List.map natsT acc).flatten ++ natsT f := by
      simp only [List.map_append, List.flatten_append]
      exact congrArg ((List.map natsT acc).flatten ++ ·) (List.append_nil (natsT f))
     exact Eq.mpr (congrArg (Way a l1) e) (hx.trans h1)
    ·rcases List.mem_append.1 hz with hz | hz
     ·exact ha z hz
     ·rw [List.mem_singleton.1 hz]; exact h2
   ·cases h
  ·cases h; exact ⟨hx, ha⟩
theorem pBlock_way {st : Bs → R Tr.T} (hs : WayT st) {o : Nat} {l : Bs} {xs : List (Bl → Bl)} {l' : Bs} (h : pBlock Tr st o l = .ok (xs, l')) : Way l l' (natsB (joinB xs)) := by
 unfold pBlock at h
 split at h
 ·next l1 he =>
  split at h
  ·next ys l2 hm =>
   obtain ⟨h1, h2⟩ := pMany_way hs _ [] _ _ _ .nil (fun z hz => by cases hz) hm
   split at h
   ·next l3 ht3 =>
    cases h
    rw [joinB_nats _ h2]
    exact ((way_enter he (by simp) rfl).less h1).more (way_take ht3 (by simp) rfl)
   ·cases h
  ·cases h
 ·cases h
theorem pStmt_way : ∀ n o, WayT (pStmt Tr n o) := by
 intro n
 induction n with
 | zero => intro o l x l' h; cases h
 | succ n ih =>
  intro o l f l' h
  unfold pStmt at h
  split at h
  ·next ht =>
   unfold pRead at h
   split at h
   ·next k l1 hk =>
    split at h
    ·next l2 h2 =>
     cases h
     exact ⟨(way_tok ht (by decide) rfl).less ((way_name hk).less (way_take h2 (by simp) rfl)), fun t => rfl⟩
    ·cases h
   ·cases h
  ·split at h
   ·next ht =>
    unfold pAssert at h
    split at h
    ·next k x1 y1 l1 hc =>
     split at h
     ·next l2 h6 =>
      cases h
      refine ⟨(way_tok ht (by decide) rfl).less (Way.more (l := l1) ?_ (way_take h6 (by simp) rfl)), fun t => ?_⟩
      ·show Way _ _ (natsS x1 ++ natsS y1 ++ [])
       rw [List.append_nil]; exact pCond_way hc
      ·show natsS x1 ++ natsS y1 ++ natsB t = (natsS x1 ++ natsS y1 ++ []) ++ natsB t
       rw [List.append_nil]
     ·cases h
    ·cases h
   ·split at h
    ·next ht =>
     unfold pIf at h
     split at h
     ·next k x1 y1 l1 hc =>
      split at h
      ·next xs l2 hb =>
       have hb1 := pBlock_way (ih _) hb
       split at h
       ·next hel =>
        split at h
        ·next ys l3 hb2 =>
         have hb3 := pBlock_way (ih _) hb2
         cases h
         refine ⟨(way_tok ht (by decide) rfl).less ?_, fun t => ?_⟩
         ·show Way _ _ (natsS x1 ++ natsS y1 ++ natsB (joinB xs) ++ natsB (joinB ys) ++ [])
          rw [List.append_nil]
          exact (((pCond_way hc).trans hb1).more (way_tok hel (by decide) rfl)).trans hb3
         ·show natsS x1 ++ natsS y1 ++ natsB (joinB xs) ++ natsB (joinB ys) ++ natsB t = (natsS x1 ++ natsS y1 ++ natsB (joinB xs) ++ natsB (joinB ys) ++ []) ++ natsB t
          rw [List.append_nil]
        ·cases h
       ·cases h
        refine ⟨(way_tok ht (by decide) rfl).less ?_, fun t => ?_⟩
        ·show Way _ _ (natsS x1 ++ natsS y1 ++ natsB (joinB xs) ++ [] ++ [])
         rw [List.append_nil, List.append_nil]
         exact (pCond_way hc).trans hb1
        ·show natsS x1 ++ natsS y1 ++ natsB (joinB xs) ++ [] ++ natsB t = (natsS x1 ++ natsS y1 ++ natsB (joinB xs) ++ [] ++ []) ++ natsB t
         rw [List.append_nil, List.append_nil]
      ·cases h
     ·cases h
    ·split at h
     ·next ht =>
      unfold pWhile at h
      split at h
      ·next k x1 y1 l1 hc =>
       split at h
       ·next xs l2 hb =>
        have hb1 := pBlock_way (ih _) hb
        cases h
        refine ⟨(way_tok ht (by decide) rfl).less ?_, fun t => ?_⟩
        ·show Way _ _ (natsS x1 ++ natsS y1 ++ natsB (joinB xs) ++ [])
         rw [List.append_nil]
         exact (pCond_way hc).trans hb1
        ·show natsS x1 ++ natsS y1 ++ natsB (joinB xs) ++ natsB t = (natsS x1 ++ natsS y1 ++ natsB (joinB xs) ++ []) ++ natsB t
         rw [List.append_nil]
       ·cases h
      ·cases h
     ·unfold pAssign at h
      split at h
      ·next k l1 hk =>
       split at h
       ·next l2 h2 =>
        split at h
        ·next x1 l3 hx =>
         split at h
         ·next l4 h10 =>
          cases h
          refine ⟨(way_name hk).less ((way_take h2 (by simp) rfl).less (Way.more (l := l3) ?_ (way_take h10 (by simp) rfl))), fun t => ?_⟩
          ·show Way _ _ (natsS x1 ++ [])
           rw [List.append_nil]; exact pS_way hx
          ·show natsS x1 ++ natsB t = (natsS x1 ++ []) ++ natsB t
           rw [List.append_nil]
         ·cases h
        ·cases h
       ·cases h
      ·cases h
theorem tree_nums {src : Bs} {t : Bl} {ns : List Nat} (h : tree src = .ok t) (hn : Nums (skip src) [] ns) : natsB t = ns := by
 unfold tree at h
 split at h
 ·next fs hp =>
  cases h
  unfold parse at hp
  split at hp
  ·cases hp
  ·split at hp
   ·next ys hq =>
    cases hp
    unfold pProg at hq
    split at hq
    ·next zs l1 hm =>
     split at hq
     ·next he =>
      cases hq
      obtain ⟨h1, h2⟩ := pMany_way (pStmt_way _ _) _ [] _ _ _ .nil (fun z hz => by cases hz) hm
      subst he
      rw [joinB_nats _ h2]
      exact (Way.same _ (Nat.le_refl _) hn h1).symm
     ·cases hq
    ·cases hq
   ·cases hp
 ·cases h
end Sp
end Go.Proofs.YtiopfihjmkfdmaaGreatDoor
namespace Go.Proofs.YtiopfihjmkfdmaaGreatDoor
open Go.RowKit
set_option maxRecDepth 100000
set_option maxHeartbeats 4000000
theorem thresholds_calls (va : Option Addr) (vn vc : Nat) (p q : Int) (na : Option Addr) (nn nc : Nat) (dom delay narrow unroll : Int) (th : Bool) (w : World) :
  Calls Tryz.prog 53 #[.agg #[.slice va vn vc, .int .i64 p, .int .i64 q, .slice na nn nc], .agg #[.int .i64 dom, .int .i64 delay, .int .i64 narrow, .int .i64 unroll, .bool th]] w fun e w' => e = .returned (if th then .slice na nn nc else .slice none 0 0) ∧ Below w.heap.size w w' := by
 cases th with
 | true =>
  go_enter Tryz.func53, Tryz.ntmps53
  go_wp2_with fail
  go_ret
  exact ⟨rfl, by go_grown⟩
 | false =>
  go_enter Tryz.func53, Tryz.ntmps53
  go_wp2_with fail
  go_ret
  exact ⟨rfl, by go_grown⟩
theorem isConfig_yes (delay narrow unroll : Nat) (th : Bool) (h1 : delay ≤ 4) (h2 : narrow ≤ 3) (h3 : unroll ≤ 3) (w : World) :
  Calls Tryz.prog 49 #[.agg #[.int .i64 0, .int .i64 (delay : Nat), .int .i64 (narrow : Nat), .int .i64 (unroll : Nat), .bool th]] w fun e w' => e = .returned (.bool true) ∧ Below w.heap.size w w' := by
 have H1 : Hid (∀ W, Calls _ _ _ W _) := fun W => within_yes (delay : Nat) 4 W (by omega) (by omega)
 have H2 : Hid (∀ W, Calls _ _ _ W _) := fun W => within_yes (narrow : Nat) 3 W (by omega) (by omega)
 have H3 : Hid (∀ W, Calls _ _ _ W _) := fun W => within_yes (unroll : Nat) 3 W (by omega) (by omega)
 clear h1 h2 h3
 go_enter Tryz.func49, Tryz.ntmps49
 go_wp2_with fail
 refine (H1.out _).mono ?_
 rintro r w1 ⟨rfl, rfl⟩
 go_wp2_with fail
 refine (H2.out _).mono ?_
 rintro r w1 ⟨rfl, rfl⟩
 go_wp2_with fail
 refine (H3.out _).mono ?_
 rintro r w1 ⟨rfl, rfl⟩
 go_wp2_with fail
 go_ret
 exact ⟨rfl, by go_grown⟩
def stepsAt (th : Bool) (t : Sp.Bl) : List Int := stepsFrom (if th then Sp.natsB t else [])
theorem does_of {w : World} {B : Nat} {u : Value} {zs : List Int} (h : RowS B w u zs) (hz : zs ≠ []) (hl : (zs.length : Int) ≤ 1000000) : WI.Does w.heap.size zs (.agg #[u]) w := by
 rcases h.2 with ⟨_, h0⟩ | ⟨g, cap, cur, rfl, hb, hh, hn, hm, hs, ht⟩
 ·exact absurd (List.eq_nil_of_length_eq_zero h0) hz
 ·refine ⟨Nat.le_refl _, g, 0, cap, rfl, heap_lt hh, hl, fun i x hx => ?_⟩
  rw [Nat.zero_add]
  refine cell_of hh i ?_
  have h2 : i < zs.length := (List.getElem?_eq_some_iff.1 hx).1
  have h3 : cur.toList[i]? = (shorts zs)[i]? := by
   rw [← ht, List.getElem?_take, if_pos (by omega)]
  rw [← Array.getElem?_toList, h3]
  unfold shorts
  rw [List.getElem?_map, hx]
  rfl
theorem numsAt_of {w : World} {B : Nat} {v : Value} {ns : List Nat} (h : w.ownsRow B 226 1 v ns.length (numVals ns)) : NumsAt w v ns := by
 rcases h.2 with ⟨rfl, h0⟩ | ⟨g, cap, cur, rfl, hb, hh, hn, hm, hs, ht⟩
 ·have : ns = [] := List.eq_nil_of_length_eq_zero h0
  subst this
  exact ⟨none, 0, rfl, fun h => absurd rfl h⟩
 ·refine ⟨_, cap, rfl, fun _ => ⟨g, 0, rfl, heap_lt hh, fun i n hi => ?_⟩⟩
  rw [Nat.zero_add]
  refine cell_of hh i ?_
  have h2 : i < ns.length := (List.getElem?_eq_some_iff.1 hi).1
  have h3 : cur.toList[i]? = (numVals ns)[i]? := by
   rw [← ht, List.getElem?_take, if_pos (by omega)]
  rw [← Array.getElem?_toList, h3]
  unfold numVals
  rw [List.getElem?_map, hi]
  rfl
theorem NumsAt.below {w w' : World} {v : Value} {ns : List Nat} (h : NumsAt w v ns) (b : Below w.heap.size w w') : NumsAt w' v ns := by
 obtain ⟨a, cap, rfl, hc⟩ := h
 refine ⟨a, cap, rfl, fun hn => ?_⟩
 obtain ⟨g, off, h1, h2, h3⟩ := hc hn
 exact ⟨g, off, h1, Nat.lt_of_lt_of_le h2 b.size, fun i n hi => by rw [b.cell (p := ⟨g, off + i, none⟩) h2]; exact h3 i n hi⟩
def RepAt (B : Nat) (w : World) (v : Value) (F : List (Option (Fin 8 → Sp.Iv)) × List Nat) : Prop :=
 ∃ g h, v = .agg #[.slice (some ⟨g, 0, none⟩) F.1.length F.1.length, .slice (some ⟨h, 0, none⟩) F.2.length F.2.length] ∧ B ≤ g ∧ B ≤ h ∧ w.heap[g]? = some (.cells (WI.fcCells F.1).toArray 76) ∧ w.heap[h]? = some (.cells (WI.siteCells F.2).toArray 3)
def AnPost (w : World) (th : Bool) (P : Sp.Pol) : Except (Nat × Nat) Sp.Bl → Ending → World → Prop
 | .ok t, e, w' => ∃ v, e = .returned (.tuple #[v, .nilIface]) ∧ RepAt w.heap.size w' v (Sp.reportOf (Sp.ivDom (stepsAt th t)) P t) ∧ Below w.heap.size w w'
 | .error er, e, w' => ∃ v, e = .returned (.tuple #[.agg #[.slice none 0 0, .slice none 0 0], v]) ∧ ErrAt w' w.heap.size v er ∧ Below w.heap.size w w'
end Go.Proofs.YtiopfihjmkfdmaaGreatDoor
namespace Go.Proofs.YtiopfihjmkfdmaaGreatDoor
namespace Sp
section
variable {D : Dom}
theorem tell_cons (F : Found D) (x : Tel D.V) (es : List (Tel D.V)) : tell D F (x :: es) = tell D (tell1 D F x) es := rfl
theorem tell1_len (F : Found D) (x : Tel D.V) : (tell1 D F x).1.length = F.1.length ∧ (tell1 D F x).2.length = F.2.length := by
 cases x with
 | point p s => exact ⟨by simp [tell1], rfl⟩
 | site q b => exact ⟨rfl, by simp [tell1]⟩
theorem tell_len : ∀ (es : List (Tel D.V)) (F : Found D), (tell D F es).1.length = F.1.length ∧ (tell D F es).2.length = F.2.length
 | [], _ => ⟨rfl, rfl⟩
 | x :: es, F => by
  rw [tell_cons]
  obtain ⟨h1, h2⟩ := tell_len es (tell1 D F x)
  obtain ⟨h3, h4⟩ := tell1_len F x
  exact ⟨h1.trans h3, h2.trans h4⟩
variable (M : Snd D)
variable {M}
theorem site1_keep {F : Found D} {q : Nat} (h : F.2[q]? = some 2) (x : Tel D.V) : (tell1 D F x).2[q]? = some 2 := by
 cases x with
 | point p s => exact h
 | site r b =>
  unfold tell1
  simp only [List.getElem?_modify, h, Option.map_eq_map, Option.map_some]
  by_cases hr : r.toNat = q
  ·rw [if_pos hr]
   cases b <;> rfl
  ·rw [if_neg hr]
theorem site_keep {q : Nat} : ∀ (es : List (Tel D.V)) {F : Found D}, F.2[q]? = some 2 → (tell D F es).2[q]? = some 2
 | [], _, h => h
 | x :: es, _, h => site_keep es (site1_keep h x)
def SitesOk (F : Found D) : Prop := ∀ (q n : Nat), F.2[q]? = some n → n ≤ 2
theorem sites1_ok {F : Found D} (h : SitesOk F) (x : Tel D.V) : SitesOk (tell1 D F x) := by
 cases x with
 | point p s => exact h
 | site r b =>
  intro q n hn
  unfold tell1 at hn
  cases hq : F.2[q]? with
  | none => simp only [List.getElem?_modify, hq] at hn; cases hn
  | some m =>
   simp only [List.getElem?_modify, hq, Option.map_eq_map, Option.map_some] at hn
   have := h q m hq
   cases hn
   split
   ·cases b <;> simp <;> omega
   ·exact this
theorem site_told {q : Int} : ∀ (es : List (Tel D.V)) (F : Found D), SitesOk F → .site q true ∈ es → q.toNat < F.2.length → (tell D F es).2[q.toNat]? = some 2
 | x :: es, F, ho, h, hl => by
  rw [tell_cons]
  rcases List.mem_cons.1 h with rfl | h
  ·refine site_keep es ?_
   unfold tell1
   simp only [List.getElem?_modify, if_true]
   rw [List.getElem?_eq_getElem hl]
   have := ho q.toNat _ (List.getElem?_eq_getElem hl)
   simp
   omega
  ·exact site_told es _ (sites1_ok ho x) h (by rw [(tell1_len F x).2]; exact hl)
def tolds (D : Dom) (P : Pol) (t : Bl) : List (Tel D.V) := (anB D P t (0, 0) (some fun _ => D.num 0)).1 ++ telP D (cB t (0, 0)).1 (anB D P t (0, 0) (some fun _ => D.num 0)).2
theorem reportOf_eq (P : Pol) (t : Bl) : reportOf D P t = tell D (List.replicate ((cB t (0, 0)).1 + 1).toNat none, List.replicate (cB t (0, 0)).2.toNat 0) (tolds D P t) := rfl
end
end Sp
end Go.Proofs.YtiopfihjmkfdmaaGreatDoor
namespace Go.Proofs.YtiopfihjmkfdmaaGreatDoor
namespace Sp
def FeS (n : Nat) (x : Sm) : Prop := (natsS x).length ≤ n + 1
def FeT (n : Nat) (f : Bl → Bl) : Prop := ∀ rest, (natsB (f rest)).length ≤ 2 * n + (natsB rest).length
theorem feL : ∀ {n : Nat} {fs : List (Bl → Bl)}, Pn.QL FeT n fs → (natsB (joinB fs)).length ≤ 2 * n
 | n, [], _ => Nat.zero_le _
 | n, f :: fs, ⟨a, b, hab, h1, h2⟩ => by
  have d := feL h2
  have e := h1 (joinB fs)
  show (natsB (f (joinB fs))).length ≤ 2 * n
  omega
theorem fe_made : Pn.Made Tr (fun n (x : Sm) => FeS n x) (fun n (f : Bl → Bl) => FeT n f) where
 pm n m x h hn := by unfold FeS at *; omega
 qm n m x h hn := fun rest => by have := h rest; omega
 num v hv := Nat.le_refl _
 name k _ := Nat.zero_le _
 neg n x h := h
 bin k n m x y _ hx hy := by
  show (natsS x ++ natsS y).length ≤ _
  unfold FeS at hx hy
  rw [List.length_append]; omega
 assign k n x _ h := fun rest => by
  show (natsS x ++ natsB rest).length ≤ _
  unfold FeS at h
  rw [List.length_append]; omega
 read k _ := fun rest => by show (natsB rest).length ≤ _; omega
 assert k n m x y _ hx hy := fun rest => by
  show (natsS x ++ natsS y ++ natsB rest).length ≤ _
  unfold FeS at hx hy
  simp only [List.length_append]; omega
 ite k n m j x y xs _ hx hy hxs := fun rest => by
  have d := feL hxs
  show (natsS x ++ natsS y ++ natsB (joinB xs) ++ [] ++ natsB rest).length ≤ _
  unfold FeS at hx hy
  simp only [List.length_append, List.length_nil]; omega
 iteElse k n m j i x y xs ys _ hx hy hxs hys := fun rest => by
  have d := feL hxs
  have g := feL hys
  show (natsS x ++ natsS y ++ natsB (joinB xs) ++ natsB (joinB ys) ++ natsB rest).length ≤ _
  unfold FeS at hx hy
  simp only [List.length_append]; omega
 loop k n m j x y xs _ hx hy hxs := fun rest => by
  have d := feL hxs
  show (natsS x ++ natsS y ++ natsB (joinB xs) ++ natsB rest).length ≤ _
  unfold FeS at hx hy
  simp only [List.length_append]; omega
theorem tree_few {src : Bs} {t : Bl} (h : tree src = .ok t) : (natsB t).length ≤ 800 := by
 unfold tree at h
 split at h
 ·next fs hp =>
  cases h
  exact feL (Pn.parse_n fe_made hp).2
 ·cases h
theorem report_len (D : Dom) (P : Pol) (t : Bl) (h : Small (0, 0) (pB t) (qB t)) : (reportOf D P t).1.length = pB t + 1 ∧ (reportOf D P t).2.length = qB t := by
 rw [reportOf_eq, (tell_len _ _).1, (tell_len _ _).2, cB_sm t (0, 0) h]
 simp
end Sp
end Go.Proofs.YtiopfihjmkfdmaaGreatDoor
