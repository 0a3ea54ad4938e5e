/- STATEMENTS: which values stand for them; (reader) statements: the loop that appends. -/
import Derived.Test.YtjkllmiikdlhhaaGreatDoorCond
import Derived.Maps.AppendAt
namespace Go.Proofs.YtjkllmiikdlhhaaGreatDoor
open Go.RowKit
set_option maxRecDepth 100000
set_option maxHeartbeats 400000

/-- the blocks from lo to hi are in w' as in w -/
def SameOn (lo hi : Nat) (w w' : World) : Prop := ∀ k, lo ≤ k → k < hi → w'.heap[k]? = w.heap[k]?

theorem SameOn.refl (lo hi : Nat) (w : World) : SameOn lo hi w w := fun _ _ _ => rfl
theorem SameOn.trans {lo hi : Nat} {w1 w2 w3 : World} (h : SameOn lo hi w1 w2) (k : SameOn lo hi w2 w3) : SameOn lo hi w1 w3 := fun i h1 h2 => (k i h1 h2).trans (h i h1 h2)
theorem Ext.sameOn {b lo hi : Nat} {w w' : World} (h : Ext b w w') (hh : hi ≤ w.heap.size) (hb : b < lo ∨ hi ≤ b) : SameOn lo hi w w' :=
  fun k h1 h2 => h.block k (by omega) (by omega)

/-- a slice of statements, its row and theirs among the blocks from lo to hi -/
def Blk {τ : Type} (T : Nat → Nat → World → Value → τ → Prop) (lo hi : Nat) (w : World) (v : Value) (xs : List τ) : Prop :=
  ∃ vs, w.ownsRow lo 106 1 v xs.length vs ∧ (∀ g, v.ownBlock = some g → g < hi) ∧ ∀ (i : Nat) (u : Value) (x : τ), vs[i]? = some u → xs[i]? = some x → T lo hi w u x

/-- which values stand for what an algebra makes of statements -/
structure RepT (A : Sp.Alg) (Rp : Rep A) where
  T : Nat → Nat → World → Value → A.T → Prop
  mono : ∀ {lo hi lo' hi' : Nat} {w w' : World} {v : Value} {x : A.T}, T lo hi w v x → lo' ≤ lo → hi ≤ hi' → SameOn lo hi w w' → T lo' hi' w' v x
  iface : ∀ {lo hi : Nat} {w : World} {v : Value} {x : A.T}, T lo hi w v x → ∃ t u, v = .iface t u
  assign : ∀ (lo hi : Nat) (w : World) (k : Nat) (v : Value) (x : A.S), k < 8 → Rp.S v x → T lo hi w (.iface 135 (.agg #[.int .i64 (k : Nat), v])) (A.assign k x)
  read : ∀ (lo hi : Nat) (w : World) (k : Nat), k < 8 → T lo hi w (.iface 139 (.agg #[.int .i64 (k : Nat)])) (A.read k)
  assert : ∀ (lo hi : Nat) (w : World) (k : Nat) (v : Value) (x : A.S) (u : Value) (y : A.S), k < 6 → Rp.S v x → Rp.S u y → T lo hi w (.iface 143 (.agg #[.int .i64 (k : Nat), v, u])) (A.assert k x y)
  ite : ∀ (lo hi : Nat) (w : World) (k : Nat) (v : Value) (x : A.S) (u : Value) (y : A.S) (bv : Value) (xs : List A.T), k < 6 → Rp.S v x → Rp.S u y → Blk T lo hi w bv xs →
    T lo hi w (.iface 146 (.agg #[.int .i64 (k : Nat), v, u, bv, .slice none 0 0, .bool false])) (A.ite k x y xs none)
  iteElse : ∀ (lo hi : Nat) (w : World) (k : Nat) (v : Value) (x : A.S) (u : Value) (y : A.S) (bv : Value) (xs : List A.T) (cv : Value) (ys : List A.T), k < 6 → Rp.S v x → Rp.S u y → Blk T lo hi w bv xs → Blk T lo hi w cv ys →
    T lo hi w (.iface 146 (.agg #[.int .i64 (k : Nat), v, u, bv, cv, .bool true])) (A.ite k x y xs (some ys))
  loop : ∀ (lo hi : Nat) (w : World) (k : Nat) (v : Value) (x : A.S) (u : Value) (y : A.S) (bv : Value) (xs : List A.T), k < 6 → Rp.S v x → Rp.S u y → Blk T lo hi w bv xs →
    T lo hi w (.iface 149 (.agg #[.int .i64 (k : Nat), v, u, bv])) (A.loop k x y xs)

theorem ownsRow_same {lo lo' hi : Nat} {e : TypeId} {w w' : World} {v : Value} {n : Nat} {vs : List Value} (h : w.ownsRow lo e 1 v n vs) (hl : lo' ≤ lo) (hg : ∀ g, v.ownBlock = some g → g < hi) (hs : SameOn lo hi w w') : w'.ownsRow lo' e 1 v n vs := by
  obtain ⟨h1, h2⟩ := h
  refine ⟨h1, ?_⟩
  rcases h2 with h2 | ⟨g, cap, cur, rfl, hb, hh, r⟩
  · exact .inl h2
  · exact .inr ⟨g, cap, cur, rfl, Nat.le_trans hl hb, by rw [hs g hb (hg g rfl)]; exact hh, r⟩

theorem Blk.mono {A : Sp.Alg} {Rp : Rep A} (Rt : RepT A Rp) {lo hi lo' hi' : Nat} {w w' : World} {v : Value} {xs : List A.T} (h : Blk Rt.T lo hi w v xs) (hl : lo' ≤ lo) (hh : hi ≤ hi') (hs : SameOn lo hi w w') : Blk Rt.T lo' hi' w' v xs := by
  obtain ⟨vs, h1, h2, h3⟩ := h
  exact ⟨vs, ownsRow_same h1 hl h2 hs, fun g hg => Nat.lt_of_lt_of_le (h2 g hg) hh, fun i u x hu hx => Rt.mono (h3 i u x hu hx) hl hh hs⟩

theorem Ext.grown {b : Nat} {a w w' : World} {row : Option Nat} (h : Ext b a w) (hg : w.grownBy w' row) (hr : ∀ k, row = some k → a.heap.size ≤ k) : Ext b a w' :=
  ⟨hg.os.trans h.os, hg.tape.trans h.tape, hg.output.trans h.output, Nat.le_trans h.size hg.size, fun k hk hb => (hg.block k (Nat.lt_of_lt_of_le hk h.size) (fun e => by have := hr k e.symm; omega)).trans (h.block k hk hb)⟩

/-- a new block ahead of it changes nothing that was there -/
theorem grown_alloc {w w' : World} {o : Obj} {row : Option Nat} (hg : (w.alloc o).grownBy w' row) : w.grownBy w' row :=
  ⟨hg.os, hg.tape, hg.output, by have := hg.size; simp at this; omega, fun k hk hr => by
    rw [hg.block k (by simp; omega) hr]; exact Below.heap_alloc _ _ _ hk⟩

theorem infoStatement : (Tryz.prog.info? 106).map (fun i => (i.zero, i.size, i.bytes)) = some (some .nilIface, 1, 16) := by kernel_rfl

/-- the statements so far, while their slice grows: each lies apart from the slice's own row -/
def Elems {τ : Type} (T : Nat → Nat → World → Value → τ → Prop) (base : Nat) (w : World) (t : Value) (vs : List Value) (xs : List τ) : Prop :=
  ∀ (i : Nat) (u : Value) (x : τ), vs[i]? = some u → xs[i]? = some x → ∃ lo hi, base ≤ lo ∧ hi ≤ w.heap.size ∧ (∀ g, t.ownBlock = some g → g < lo ∨ hi ≤ g) ∧ T lo hi w u x

def StReads {A : Sp.Alg} {Rp : Rep A} (Rt : RepT A Rp) (f : Nat) (b : Nat) (s : ByteArray) (m1 m2 o n : Nat) (st : Sp.Bs → Sp.R A.T) : Prop :=
  ∀ l w, l.length < n → Rd b s m1 m2 l o w → Env b m1 m2 w → Calls Tryz.prog f #[.pointer (some ⟨b, 0, none⟩)] w (PostG (fun w' v x => Rt.T w.heap.size w'.heap.size w' v x) b s m1 m2 o w (st l))

theorem pMany_stop {A : Sp.Alg} {st : Sp.Bs → Sp.R A.T} {m : Nat} {xs : List A.T} {l : Sp.Bs} (h : ¬ Sp.tokKind l = 2) : Sp.pMany A st m xs l = .ok (xs, l) := by
  cases m with
  | zero => rfl
  | succ m => unfold Sp.pMany; rw [if_neg h]

theorem ownsRow_ext {b base : Nat} {e : TypeId} {w w' : World} {v : Value} {n : Nat} {vs : List Value} (h : w.ownsRow base e 1 v n vs) (x : Ext b w w') (hb : b < base) : w'.ownsRow base e 1 v n vs := by
  obtain ⟨h1, h2⟩ := h
  refine ⟨h1, ?_⟩
  rcases h2 with h2 | ⟨g, cap, cur, rfl, hg, hh, r⟩
  · exact .inl h2
  · exact .inr ⟨g, cap, cur, rfl, hg, by rw [x.block g (heap_lt hh) (by omega)]; exact hh, r⟩

theorem ownsRow_lt {base : Nat} {e : TypeId} {w : World} {v : Value} {n : Nat} {vs : List Value} (h : w.ownsRow base e 1 v n vs) : ∀ g, v.ownBlock = some g → base ≤ g ∧ g < w.heap.size := by
  intro g hg
  rcases h.2 with ⟨rfl, _⟩ | ⟨g', cap, cur, rfl, hb, hh, _⟩
  · simp [Value.ownBlock] at hg
  · simp [Value.ownBlock] at hg
    subst hg
    exact ⟨hb, heap_lt hh⟩

theorem elems_blk {A : Sp.Alg} {Rp : Rep A} (Rt : RepT A Rp) {base : Nat} {w : World} {t : Value} {vs : List Value} {xs : List A.T} (h : w.ownsRow base 106 1 t xs.length vs) (he : Elems Rt.T base w t vs xs) : Blk Rt.T base w.heap.size w t xs := by
  refine ⟨vs, h, fun g hg => (ownsRow_lt h g hg).2, fun i u x hu hx => ?_⟩
  obtain ⟨lo, hi, h1, h2, _, h4⟩ := he i u x hu hx
  exact Rt.mono h4 h1 h2 (SameOn.refl _ _ _)

theorem elems_push {A : Sp.Alg} {Rp : Rep A} (Rt : RepT A Rp) {b base : Nat} {wr w1 w2 : World} {t v' u : Value} {vs : List Value} {xs : List A.T} {x : A.T}
    (ho : wr.ownsRow base 106 1 t xs.length vs) (he : Elems Rt.T base wr t vs xs) (hb : b < base) (hbase : base ≤ wr.heap.size) (x1 : Ext b wr w1) (hv : Rt.T wr.heap.size w1.heap.size w1 u x) (hg : w1.grownBy w2 t.ownBlock)
    (hat : v'.ownBlock = t.ownBlock ∨ v'.ownBlock = some (w1.heap.size + 1)) : Elems Rt.T base w2 v' (vs ++ [u]) (xs ++ [x]) := by
  have hlen : vs.length = xs.length := by simpa using ho.1
  have hs1 := x1.size
  have hs2 := hg.size
  intro i u' x' hu hx
  by_cases hi : i < vs.length
  · rw [List.getElem?_append_left hi] at hu
    rw [List.getElem?_append_left (by omega)] at hx
    obtain ⟨lo, hi', h1, h2, h3, h4⟩ := he i u' x' hu hx
    refine ⟨lo, hi', h1, by omega, fun g hg' => ?_, Rt.mono h4 (Nat.le_refl _) (Nat.le_refl _) ?_⟩
    · rcases hat with hat | hat
      · exact h3 g (by rw [← hat]; exact hg')
      · rw [hat] at hg'; cases hg'; exact .inr (by omega)
    · intro k hk1 hk2
      rw [hg.block k (by omega) (fun e => by rcases h3 k e.symm with h | h <;> omega)]
      exact x1.block k (by omega) (by omega)
  · have e : i = vs.length := by
      have := (List.getElem?_eq_some_iff.1 hu).1
      simp at this
      omega
    subst e
    rw [List.getElem?_append_right (Nat.le_refl _)] at hu
    rw [hlen, List.getElem?_append_right (Nat.le_refl _)] at hx
    simp at hu hx
    subst hu hx
    refine ⟨wr.heap.size, w1.heap.size, hbase, hs2, fun g hg' => ?_, Rt.mono hv (Nat.le_refl _) (Nat.le_refl _) ?_⟩
    · rcases hat with hat | hat
      · exact .inl (ownsRow_lt ho g (by rw [← hat]; exact hg')).2
      · rw [hat] at hg'; cases hg'; exact .inr (by omega)
    · intro k hk1 hk2
      exact hg.block k hk2 (fun e => by have := (ownsRow_lt ho k e.symm).2; omega)

theorem statements_calls {A : Sp.Alg} {Rp : Rep A} (Rt : RepT A Rp) (b : Nat) (s : ByteArray) (m1 m2 o n : Nat) (st : Sp.Bs → Sp.R A.T) (hdec : Hid (∀ l x l1, st l = .ok (x, l1) → l1.length < l.length))
    (hst : StReads Rt 55 b s m1 m2 o n st) (l : Sp.Bs) (w : World) (hl : l.length < n) (h : Rd b s m1 m2 l o w) (hE : Env b m1 m2 w) :
    Calls Tryz.prog 38 #[.pointer (some ⟨b, 0, none⟩)] w (PostG (fun w' v xs => Blk Rt.T w.heap.size w'.heap.size w' v xs) b s m1 m2 o w (Sp.pMany A st (l.length + 1) [] l)) := by
  obtain ⟨i0, hi, hz0, hz1, hz2⟩ := info_parts infoStatement
  have hlt := h.lt
  have hl400 : l.length ≤ 400 := by have := h.len; have := h.sz; omega
  go_enter Tryz.func38, Tryz.ntmps38
  go_wp2_with fail
  go_loopw [3] (fun t wr => ∃ (xs : List A.T) (vs : List Value) (l' : Sp.Bs) (m : Nat), Hid (wr.ownsRow w.heap.size 106 1 t xs.length vs ∧ Elems Rt.T w.heap.size wr t vs xs) ∧ Hid (l'.length < m ∧ xs.length + l'.length ≤ l.length ∧ Sp.pMany A st (l.length + 1) [] l = Sp.pMany A st m xs l') ∧ Hid (Rd b s m1 m2 l' o wr ∧ Env b m1 m2 wr ∧ Ext b w wr)) (fun _ wr => restOf b s wr)
  case atStart => exact ⟨[], [], l, l.length + 1, ⟨World.ownsRow_nil _ _ _ _, fun i u x hu => by simp at hu⟩, ⟨Nat.lt_succ_self _, by simp, rfl⟩, h, hE, Ext.refl _ _⟩
  case round =>
    obtain ⟨xs, vs, l', m, ho', hm', hs'⟩ := hrel
    have c2 := hs'.out.1.c2
    by_cases hk : Sp.tokKind l' = 2
    · have c2' : wr.cell? ⟨b, 2, none⟩ = some (.int .i64 2) := by rw [c2, hk]; rfl
      have HK : Hid (Sp.tokKind l' = 2) := hk
      clear c2 hk
      go_wp2_with fail
      have hlen' : l'.length < n := by have := hm'.out.2.1; omega
      refine (hst l' wr hlen' hs'.out.1 hs'.out.2.1).mono ?_
      intro e w1 hp
      cases hr : st l' with
      | error er =>
        rw [hr] at hp
        obtain ⟨N, rfl, hf⟩ := hp
        have hfin : Sp.pMany A st (l.length + 1) [] l = .error er := by
          rw [hm'.out.2.2]
          cases m with
          | zero => exact absurd hm'.out.1 (by omega)
          | succ m => unfold Sp.pMany; rw [if_pos HK.out, hr]
        exact ⟨rfl, bad_postG hfin (Faulty.ahead hs'.out.2.2 ⟨N, rfl, hf⟩)⟩
      | ok xl =>
        obtain ⟨x, l1⟩ := xl
        rw [hr] at hp
        obtain ⟨v, rfl, hv, h1, x1⟩ := hp
        obtain ⟨tv, uv, rfl⟩ := Rt.iface hv
        have HV : Hid (Rt.T wr.heap.size w1.heap.size w1 (.iface tv uv) x) := hv
        have HR : Hid (st l' = .ok (x, l1)) := hr
        have hown : Hid (w1.ownsRow w.heap.size 106 1 u3 xs.length vs) :=
          ownsRow_ext ho'.out.1 x1 hlt
        clear hv hr
        go_wp2_with (first
          | (at_builtin; refine wpList_append_own_at _ rfl _ _ 36 rfl w.heap.size 106 i0 .nilIface 1 16 Tryz.underlying36 hi hz0 hz1 hz2 rfl (by decide) _ _ _ rfl (hown.out.alloc _) ⟨w1.heap.size, 0, none⟩ 1 1 [.iface tv uv] rfl rfl (cell_one_new _ _ _) ?q1 ?q2 ?q3 ?q4 ?_))
        case q1 => intro u hu; simp at hu; subst hu; rfl
        case q2 => have := hm'.out.2.1; unfold maxLen; omega
        case q3 => have := hm'.out.2.1; omega
        case q4 => have := hs'.out.2.2.size; have := x1.size; simp; omega
        intro v' w2 hown2 hgrow2 hnil2 hat2
        have hg2 := grown_alloc hgrow2
        have hrow : ∀ k, Value.ownBlock u3 = some k → w.heap.size ≤ k := fun k hk => (ownsRow_lt ho'.out.1 k hk).1
        have hbase : w.heap.size ≤ wr.heap.size := hs'.out.2.2.size
        have hel : Elems Rt.T w.heap.size w2 v' (vs ++ [.iface tv uv]) (xs ++ [x]) :=
          elems_push Rt ho'.out.1 ho'.out.2 hlt hbase x1 HV.out hg2 (by simpa using hat2)
        have hx2 : Ext b w w2 := (hs'.out.2.2.trans x1).grown hg2 hrow
        have hrd2 : Rd b s m1 m2 l1 o w2 := ⟨by rw [hg2.block b h1.lt (fun e => by have := hrow b e.symm; omega)]; exact h1.blk, h1.suf, h1.sz⟩
        have hd := hdec.out _ _ _ HR.out
        have hrest : restOf b s w2 < restOf b s wr := by rw [hrd2.rest, hs'.out.1.rest]; exact hd
        have A1 : Hid (w2.ownsRow w.heap.size 106 1 v' (xs ++ [x]).length (vs ++ [.iface tv uv]) ∧ Elems Rt.T w.heap.size w2 v' (vs ++ [.iface tv uv]) (xs ++ [x])) := ⟨by simpa using hown2, hel⟩
        have A2 : Hid (l1.length < m - 1 ∧ (xs ++ [x]).length + l1.length ≤ l.length ∧ Sp.pMany A st (l.length + 1) [] l = Sp.pMany A st (m - 1) (xs ++ [x]) l1) := by
          have h1 := hm'.out.1
          have h2 := hm'.out.2.1
          refine ⟨by omega, by simp; omega, ?_⟩
          rw [hm'.out.2.2]
          cases m with
          | zero => omega
          | succ m =>
            conv => lhs; unfold Sp.pMany
            rw [if_pos HK.out, HR.out]
            rfl
        have A3 : Hid (Rd b s m1 m2 l1 o w2 ∧ Env b m1 m2 w2 ∧ Ext b w w2) := ⟨hrd2, hE.ext hx2, hx2⟩
        clear hown2 hgrow2 hnil2 hat2 hg2 hel
        go_wp2_with fail
        exact ⟨⟨_, _, _, _, A1, A2, A3⟩, hrest⟩
    · have n2 : ¬ (((Sp.tokKind l' : Nat) : Int) = 2) := by omega
      have b2 : (((Sp.tokKind l' : Nat) : Int) == 2) = false := by simpa using n2
      have hfin : Hid (Sp.pMany A st (l.length + 1) [] l = .ok (xs, l')) := by
        unfold Hid; rw [hm'.out.2.2, pMany_stop hk]
      have hblk : Hid (Blk Rt.T w.heap.size wr.heap.size wr u3 xs) := elems_blk Rt ho'.out.1 ho'.out.2
      clear hk
      generalize Sp.tokKind l' = kd at *
      go_wp2_with fail
      go_ret
      exact good_postG hfin.out hblk hs'.out.1 hs'.out.2.2

end Go.Proofs.YtjkllmiikdlhhaaGreatDoor
