/- SUMS: what a reader of a sum owes; chain over unary, chain over product. -/
import Derived.Test.YtjkllmiikdlhhaaGreatDoorNumber
import Derived.Deep.QuietTactic
import Derived.BigQuiet
namespace Go.Proofs.YtjkllmiikdlhhaaGreatDoor
open Go.RowKit
set_option maxRecDepth 100000
set_option maxHeartbeats 400000

/-- which values stand for what an algebra makes of sums -/
structure Rep (A : Sp.Alg) where
  S : Value → A.S → Prop
  iface : ∀ v x, S v x → ∃ t u, v = .iface t u
  num : ∀ n, n ≤ 32767 → S (.iface 157 (.int .i16 (n : Nat))) (A.num n)
  name : ∀ k, k < 8 → S (.iface 131 (.int .i64 (k : Nat))) (A.name k)
  neg : ∀ v x, S v x → S (.iface 159 (.agg #[v])) (A.neg x)
  bin : ∀ k v x u y, k < 5 → S v x → S u y → S (.iface 163 (.agg #[.int .i64 (k : Nat), v, u])) (A.bin k x y)

/-- what stays while the reader works -/
structure Env (b m1 m2 : Nat) (w : World) : Prop where
  laid : Laid w
  ops : OpsMap m1 w
  rels : RelsMap m2 w
  ne1 : m1 ≠ b
  ne2 : m2 ≠ b
  nb : 9 ≤ b

theorem Laid.ext {b : Nat} {w w' : World} (h : Laid w) (x : Ext b w w') (hb : 9 ≤ b) : Laid w' := h.below (x.below hb h.size) (Nat.le_refl _)

theorem Env.ext {b m1 m2 : Nat} {w w' : World} (h : Env b m1 m2 w) (x : Ext b w w') : Env b m1 m2 w' :=
  ⟨h.laid.ext x h.nb, h.ops.ext x h.ne1, h.rels.ext x h.ne2, h.ne1, h.ne2, h.nb⟩

/-- what a reader of a sum comes to -/
def PostS {A : Sp.Alg} (Rp : Rep A) (b : Nat) (s : ByteArray) (m1 m2 o : Nat) (w : World) : Sp.R A.S → Ending → World → Prop
  | .ok (x, l'), e, w' => ∃ v, e = .returned v ∧ Rp.S v x ∧ Rd b s m1 m2 l' o w' ∧ Ext b w w'
  | .error er, e, w' => Faulty s b w er e w'

/-- how much is left, by the reader's place -/
def restOf (b : Nat) (s : ByteArray) (w : World) : Nat := match w.cell? ⟨b, 1, none⟩ with
  | some (.int _ q) => s.size - q.toNat
  | _ => 0

theorem Rd.rest {b : Nat} {s : ByteArray} {m1 m2 : Nat} {l : Sp.Bs} {o : Nat} {w : World} (h : Rd b s m1 m2 l o w) : restOf b s w = l.length := by
  unfold restOf
  rw [h.c1]
  have := h.len
  simp
  omega

theorem Rd.tokLen400 {b : Nat} {s : ByteArray} {m1 m2 : Nat} {l : Sp.Bs} {o : Nat} {w : World} (h : Rd b s m1 m2 l o w) : (Sp.tok l).length ≤ 400 := by
  have := Sp.tok_length l; have := Sp.tokLen_le l; have := h.len; have := h.sz; omega

theorem heap_drewN (w : World) (k : Nat) : (w.drewN k).heap = w.heap := by
  simp [World.drewN]

theorem OpsMap.drewN {m : Nat} {w : World} (h : OpsMap m w) (k : Nat) : OpsMap m (w.drewN k) := by
  obtain ⟨es, clock, hh, r⟩ := h
  exact ⟨es, clock, by rw [heap_drewN]; exact hh, r⟩
theorem RelsMap.drewN {m : Nat} {w : World} (h : RelsMap m w) (k : Nat) : RelsMap m (w.drewN k) := by
  obtain ⟨es, clock, hh, r⟩ := h
  exact ⟨es, clock, by rw [heap_drewN]; exact hh, r⟩

theorem Rd.drewN {b : Nat} {s : ByteArray} {m1 m2 : Nat} {l : Sp.Bs} {o : Nat} {w : World} (h : Rd b s m1 m2 l o w) (k : Nat) : Rd b s m1 m2 l o (w.drewN k) := ⟨h.blk, h.suf, h.sz⟩
theorem Ext.drewN {b : Nat} {w w' : World} (h : Ext b w w') (k : Nat) : Ext b w (w'.drewN k) := ⟨h.os, h.tape, h.output, h.size, h.block⟩
theorem Env.drewN {b m1 m2 : Nat} {w : World} (h : Env b m1 m2 w) (k : Nat) : Env b m1 m2 (w.drewN k) := h.ext ((Ext.refl b w).drewN k)

theorem ops_look_none {m : Nat} {w : World} (h : OpsMap m w) (t : Sp.Bs) (ht : t.length ≤ 400) (ho : Sp.opOf t = none) (k : Nat) :
    (Instr.lookup 62 (.map (some m)) (.string ⟨t.toArray⟩) true).run Tryz.prog (w.drewN k) = .ok (.tuple #[.int .i64 0, .bool false]) (w.drewN k) := by
  rw [ops_look (h.drewN k) t ht, ho]; rfl
theorem ops_look_some {m : Nat} {w : World} (h : OpsMap m w) (t : Sp.Bs) (ht : t.length ≤ 400) {j : Nat} (ho : Sp.opOf t = some j) (k : Nat) :
    (Instr.lookup 62 (.map (some m)) (.string ⟨t.toArray⟩) true).run Tryz.prog (w.drewN k) = .ok (.tuple #[.int .i64 (j : Nat), .bool true]) (w.drewN k) := by
  rw [ops_look (h.drewN k) t ht, ho]; rfl

theorem opOf_lt {t : Sp.Bs} {k : Nat} (h : Sp.opOf t = some k) : k < 5 := by
  unfold Sp.opOf at h
  repeat' split at h
  all_goals first | (cases h; decide) | cases h

theorem opOf_next {l : Sp.Bs} {k : Nat} (h : Sp.opOf (Sp.tok l) = some k) : (Sp.next l).length < l.length := by
  apply Sp.next_lt
  rw [← Sp.tok_length]
  apply List.length_pos_iff.2
  intro e
  rw [e] at h
  simp [Sp.opOf] at h

theorem Ext.undrewN {b : Nat} {w w' : World} {k : Nat} (h : Ext b (w.drewN k) w') : Ext b w w' := ⟨h.os, h.tape, h.output, h.size, h.block⟩

set_option maxHeartbeats 2000000 in
theorem chain_unary {A : Sp.Alg} (Rp : Rep A) (b : Nat) (s : ByteArray) (m1 m2 o n : Nat) (u : Sp.Bs → Sp.R A.S)
    (hdec : Hid (∀ l x l1, u l = .ok (x, l1) → l1.length ≤ l.length))
    (hu : Hid (∀ l w, l.length < n → Rd b s m1 m2 l o w → Env b m1 m2 w → Calls Tryz.prog 101 #[.pointer (some ⟨b, 0, none⟩)] w (PostS Rp b s m1 m2 o w (u l))))
    (l : Sp.Bs) (w : World) (hl : l.length < n) (h : Rd b s m1 m2 l o w) (hE : Env b m1 m2 w) :
    Calls Tryz.prog 96 #[.pointer (some ⟨b, 0, none⟩), .int .i64 1, .func (Fn.func 101) #[.pointer (some ⟨b, 0, none⟩)] #[]] w (PostS Rp b s m1 m2 o w (Sp.pWith A 1 u l)) := by
  go_enter Tryz.func96, Tryz.ntmps96
  go_wp2_with fail
  refine (hu.out l _ hl h hE).mono ?_
  intro e w1 hp
  cases hr : u l with
  | error er =>
    rw [hr] at hp
    obtain ⟨N, rfl, hf⟩ := hp
    refine ⟨rfl, ?_⟩
    unfold Sp.pWith
    rw [hr]
    exact ⟨N, rfl, hf⟩
  | ok xl =>
    obtain ⟨x, l1⟩ := xl
    rw [hr] at hp
    obtain ⟨v, rfl, hv, h1, x1⟩ := hp
    obtain ⟨tv, uv, rfl⟩ := Rp.iface _ _ hv
    go_wp2_with fail
    go_loopw [7] (fun t wr => ∃ (tt : TypeId) (uu : Value) (x' : A.S) (l' : Sp.Bs) (m : Nat), t = .iface tt uu ∧ Hid (Rp.S (.iface tt uu) x') ∧ Hid (l'.length < m ∧ l'.length < n ∧ Sp.pWith A 1 u l = Sp.pChain A 1 u m x' l') ∧ Hid (Rd b s m1 m2 l' o wr ∧ Env b m1 m2 wr ∧ Ext b w wr)) (fun _ wr => restOf b s wr)
    case atStart => 
      refine ⟨tv, uv, x, l1, l1.length + 1, rfl, hv, ⟨Nat.lt_succ_self _, ?_, ?_⟩, h1, hE.ext x1, x1⟩
      · have := hdec.out l x l1 hr
        omega
      · unfold Sp.pWith
        rw [hr]
    case round =>
      obtain ⟨tt, uu, x', l', m, rfl, hv', hm', hs'⟩ := hrel
      have c3 := hs'.out.1.c3
      have c5 := hs'.out.1.c5
      cases ho : Sp.opOf (Sp.tok l') with
      | none =>
        have hlk := ops_look_none hs'.out.2.1.ops (Sp.tok l') hs'.out.1.tokLen400 ho
        have HO : Hid (Sp.opOf (Sp.tok l') = none) := ho
        clear ho
        have hfin : Hid (Sp.pWith A 1 u l = .ok (x', l')) := by
          unfold Hid
          rw [hm'.out.2.2]
          cases m with
          | zero => rfl
          | succ m => unfold Sp.pChain; rw [HO.out]
        clear HO
        go_wp2_with fail
        go_quiet (fail)
        go_wp2_with fail
        go_ret
        rw [hfin.out]
        exact ⟨_, rfl, hv', hs'.out.1.drewN _, hs'.out.2.2.drewN _⟩
      | some k =>
        have hlk := ops_look_some hs'.out.2.1.ops (Sp.tok l') hs'.out.1.tokLen400 ho
        have hk5 : k < 5 := opOf_lt ho
        have HO : Hid (Sp.opOf (Sp.tok l') = some k) := ho
        clear ho
        by_cases hlv : Sp.opLevel k = 1
        · have HLV : Hid (Sp.opLevel k = 1) := hlv
          clear hlv
          go_wp2_with fail
          go_quiet (fail)
          go_wp2_with fail
          refine (opLevel_calls k hk5 _).mono ?_
          rintro e w2 ⟨rfl, rfl⟩
          rw [HLV.out]
          go_wp2_with fail
          refine (step_calls (hs'.out.1.drewN _)).mono ?_
          rintro e w2 ⟨rfl, h2, x2⟩
          go_wp2_with fail
          have hlt := opOf_next HO.out
          have x3 : Ext b w w2 := hs'.out.2.2.trans x2.undrewN
          have hp3 := hu.out (Sp.next l') w2 (by have := hm'.out.2.1; omega) h2 (hs'.out.2.1.ext x2.undrewN)
          refine hp3.mono ?_
          intro e w4 hp4
          cases hr4 : u (Sp.next l') with
          | error er =>
            rw [hr4] at hp4
            have hfin : Sp.pWith A 1 u l = .error er := by
              rw [hm'.out.2.2]
              cases m with
              | zero => exact absurd hm'.out.1 (by omega)
              | succ m => unfold Sp.pChain; rw [HO.out]; simp only; rw [if_pos HLV.out, hr4]
            obtain ⟨N, rfl, hf⟩ := hp4
            refine ⟨rfl, ?_⟩
            rw [hfin]
            exact Faulty.ahead x3 ⟨N, rfl, hf⟩
          | ok yl =>
            obtain ⟨y, l2⟩ := yl
            rw [hr4] at hp4
            obtain ⟨vy, rfl, hvy, h4, x4⟩ := hp4
            obtain ⟨ty, uy, rfl⟩ := Rp.iface _ _ hvy
            have hd4 := hdec.out _ _ _ hr4
            have hbin := Rp.bin k _ _ _ _ hk5 hv'.out hvy
            have HB : Hid (Rp.S (.iface 163 (.agg #[.int .i64 (k : Nat), .iface tt uu, .iface ty uy])) (A.bin k x' y)) := hbin
            have hnew : Hid (l2.length < m - 1 ∧ l2.length < n ∧ Sp.pWith A 1 u l = Sp.pChain A 1 u (m - 1) (A.bin k x' y) l2) := by
              have := hm'.out.1
              have := hm'.out.2.1
              refine ⟨by omega, by omega, ?_⟩
              rw [hm'.out.2.2]
              cases m with
              | zero => exact absurd hm'.out.1 (by omega)
              | succ m =>
                have e : Sp.pChain A 1 u (m + 1) x' l' = Sp.pChain A 1 u m (A.bin k x' y) l2 := by
                  conv => lhs; unfold Sp.pChain
                  rw [HO.out]; simp only; rw [if_pos HLV.out, hr4]
                exact e
            have hrest : restOf b s w4 < restOf b s wr := by
              rw [h4.rest, hs'.out.1.rest]; omega
            have HS : Hid (Rd b s m1 m2 l2 o w4 ∧ Env b m1 m2 w4 ∧ Ext b w w4) := ⟨h4, (hs'.out.2.1.ext x2.undrewN).ext x4, x3.trans x4⟩
            clear hr4 hvy hbin hp3
            go_wp2_with fail
            exact ⟨⟨_, _, _, _, _, rfl, HB, hnew, HS⟩, hrest⟩
        · have HLV : Hid (Sp.opLevel k = 0) := by
            unfold Hid Sp.opLevel at *
            split <;> simp_all
          have hfin : Hid (Sp.pWith A 1 u l = .ok (x', l')) := by
            unfold Hid
            rw [hm'.out.2.2]
            cases m with
            | zero => rfl
            | succ m => unfold Sp.pChain; rw [HO.out]; simp only; rw [if_neg hlv]
          clear hlv
          go_wp2_with fail
          go_quiet (fail)
          go_wp2_with fail
          refine (opLevel_calls k hk5 _).mono ?_
          rintro e w2 ⟨rfl, rfl⟩
          rw [HLV.out]
          go_wp2_with fail
          go_ret
          rw [hfin.out]
          exact ⟨_, rfl, hv', hs'.out.1.drewN _, hs'.out.2.2.drewN _⟩

end Go.Proofs.YtjkllmiikdlhhaaGreatDoor
