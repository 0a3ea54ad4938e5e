/- SUMS: product, sum over a reader of unaries; negation, bracketed, unary. -/
import Derived.Test.YtjkllmiikdlhhaaGreatDoorSums2
import Derived.Test.YtjkllmiikdlhhaaGreatDoorDec
namespace Go.Proofs.YtjkllmiikdlhhaaGreatDoor
open Go.RowKit
set_option maxRecDepth 100000
set_option maxHeartbeats 400000

/-- 'the Go function f reads as u does, of texts shorter than n' -/
def Reads {A : Sp.Alg} (Rp : Rep A) (f : Nat) (b : Nat) (s : ByteArray) (m1 m2 o n : Nat) (u : Sp.Bs → Sp.R A.S) : Prop :=
  ∀ l w, l.length < n → Rd b s m1 m2 l o w → Env b m1 m2 w → Calls Tryz.prog f #[.pointer (some ⟨b, 0, none⟩)] w (PostS Rp b s m1 m2 o w (u l))

theorem product_reads {A : Sp.Alg} (Rp : Rep A) (b : Nat) (s : ByteArray) (m1 m2 o n : Nat) (u : Sp.Bs → Sp.R A.S) (hdec : ∀ l x l1, u l = .ok (x, l1) → l1.length ≤ l.length)
    (hu : Reads Rp 101 b s m1 m2 o n u) : Reads Rp 97 b s m1 m2 o n (Sp.pProd A u) := by
  intro l w hl h hE
  have hc : Calls Tryz.prog 96 #[.pointer (some ⟨b, 0, none⟩), .int .i64 1, .func (Fn.func 101) #[.pointer (some ⟨b, 0, none⟩)] #[]] w (PostS Rp b s m1 m2 o w (Sp.pProd A u l)) := chain_unary Rp b s m1 m2 o n u hdec hu l w hl h hE
  clear hdec hu
  generalize Sp.pProd A u l = r at hc ⊢
  cases r with
  | error er =>
    go_enter Tryz.func97, Tryz.ntmps97
    go_wp2_with fail
    refine hc.mono ?_
    rintro e w1 ⟨N, rfl, hf⟩
    exact ⟨rfl, N, rfl, hf⟩
  | ok xl =>
    obtain ⟨x, l1⟩ := xl
    go_enter Tryz.func97, Tryz.ntmps97
    go_wp2_with fail
    refine hc.mono ?_
    rintro e w1 ⟨v, rfl, hv, h1, x1⟩
    go_wp2_with fail
    go_ret
    exact ⟨v, rfl, hv, h1, x1⟩

theorem sum_reads {A : Sp.Alg} (Rp : Rep A) (b : Nat) (s : ByteArray) (m1 m2 o n : Nat) (u : Sp.Bs → Sp.R A.S) (hdec : ∀ l x l1, u l = .ok (x, l1) → l1.length ≤ l.length)
    (hu : Reads Rp 101 b s m1 m2 o n u) : Reads Rp 88 b s m1 m2 o n (Sp.pSum A u) := by
  intro l w hl h hE
  have hc : Calls Tryz.prog 96 #[.pointer (some ⟨b, 0, none⟩), .int .i64 0, .func (Fn.func 97) #[.pointer (some ⟨b, 0, none⟩)] #[]] w (PostS Rp b s m1 m2 o w (Sp.pSum A u l)) := chain_product Rp b s m1 m2 o n (Sp.pProd A u) (Sp.pWith_dec hdec) (product_reads Rp b s m1 m2 o n u hdec hu) l w hl h hE
  clear hdec hu
  generalize Sp.pSum A u l = r at hc ⊢
  cases r with
  | error er =>
    go_enter Tryz.func88, Tryz.ntmps88
    go_wp2_with fail
    refine hc.mono ?_
    rintro e w1 ⟨N, rfl, hf⟩
    exact ⟨rfl, N, rfl, hf⟩
  | ok xl =>
    obtain ⟨x, l1⟩ := xl
    go_enter Tryz.func88, Tryz.ntmps88
    go_wp2_with fail
    refine hc.mono ?_
    rintro e w1 ⟨v, rfl, hv, h1, x1⟩
    go_wp2_with fail
    go_ret
    exact ⟨v, rfl, hv, h1, x1⟩

theorem bad_post {A : Sp.Alg} (Rp : Rep A) {b : Nat} {s : ByteArray} {m1 m2 o : Nat} {w : World} {r : Sp.R A.S} {er : Nat × Nat} {e : Ending} {w' : World} (hr : r = .error er) (h : Faulty s b w er e w') : PostS Rp b s m1 m2 o w r e w' := by
  rw [hr]; exact h

theorem good_post {A : Sp.Alg} (Rp : Rep A) {b : Nat} {s : ByteArray} {m1 m2 o : Nat} {w : World} {r : Sp.R A.S} {x : A.S} {l' : Sp.Bs} {v : Value} {w' : World} (hr : r = .ok (x, l')) (hv : Rp.S v x) (h : Rd b s m1 m2 l' o w') (hx : Ext b w w') : PostS Rp b s m1 m2 o w r (.returned v) w' := by
  rw [hr]; exact ⟨v, rfl, hv, h, hx⟩

/-- what negation comes to -/
def negOf (A : Sp.Alg) (u : Sp.Bs → Sp.R A.S) (o : Nat) (l : Sp.Bs) : Sp.R A.S := match Sp.enter [45] o l with
  | .ok l1 => (match u l1 with
    | .ok (x, l2) => .ok (A.neg x, l2)
    | .error e => .error e)
  | .error e => .error e

theorem negation_calls {A : Sp.Alg} (Rp : Rep A) (b : Nat) (s : ByteArray) (m1 m2 o n : Nat) (u : Sp.Bs → Sp.R A.S)
    (hu : o < 12 → Reads Rp 101 b s m1 m2 (o + 1) n u) (l : Sp.Bs) (w : World) (hl : l.length < n + 1) (h : Rd b s m1 m2 l o w) (hE : Env b m1 m2 w) (ho : o ≤ 12) (ht : Sp.tok l = [45]) :
    Calls Tryz.prog 107 #[.pointer (some ⟨b, 0, none⟩)] w (PostS Rp b s m1 m2 o w (negOf A u o l)) := by
  by_cases h12 : o = 12
  · subst h12
    have hr : Hid (negOf A u 12 l = .error (3, l.length)) := by
      unfold Hid negOf Sp.enter; rw [if_pos ht, if_pos rfl]; rfl
    go_enter Tryz.func107, Tryz.ntmps107
    go_wp2_with fail
    refine (enter_deep h [45] ht).mono ?_
    rintro e w1 ⟨N, rfl, hf⟩
    exact ⟨rfl, bad_post Rp hr.out ⟨N, rfl, hf⟩⟩
  · have hen : Sp.enter [45] o l = .ok (Sp.next l) := by unfold Sp.enter; rw [if_pos ht, if_neg h12]
    have hnl := Sp.next_lt_of_tok ht (by simp)
    cases hr : u (Sp.next l) with
    | error er =>
      have hfin : Hid (negOf A u o l = .error er) := by unfold Hid negOf; rw [hen]; simp only; rw [hr]
      go_enter Tryz.func107, Tryz.ntmps107
      go_wp2_with fail
      refine (enter_ok h (by omega) [45] ht).mono ?_
      rintro e w1 ⟨rfl, h1, x1⟩
      go_wp2_with fail
      refine (hu (by omega) (Sp.next l) w1 (by omega) h1 (hE.ext x1)).mono ?_
      intro e w2 hp
      rw [hr] at hp
      obtain ⟨N, rfl, hf⟩ := hp
      exact ⟨rfl, bad_post Rp hfin.out (Faulty.ahead x1 ⟨N, rfl, hf⟩)⟩
    | ok xl =>
      obtain ⟨x, l2⟩ := xl
      have hfin : Hid (negOf A u o l = .ok (A.neg x, l2)) := by unfold Hid negOf; rw [hen]; simp only; rw [hr]
      go_enter Tryz.func107, Tryz.ntmps107
      go_wp2_with fail
      refine (enter_ok h (by omega) [45] ht).mono ?_
      rintro e w1 ⟨rfl, h1, x1⟩
      go_wp2_with fail
      refine (hu (by omega) (Sp.next l) w1 (by omega) h1 (hE.ext x1)).mono ?_
      intro e w2 hp
      rw [hr] at hp
      obtain ⟨v, rfl, hv, h2, x2⟩ := hp
      obtain ⟨tv, uv, rfl⟩ := Rp.iface _ _ hv
      have c4 : w2.cell? ⟨b, 4, none⟩ = some (.int .i64 ((o : Int) + 1)) := h2.c4
      have f4 := h2.fz 4
      have hsh := rd_open h2 o (o : Int) rfl
      have HS : Hid (Rd b s m1 m2 l2 o (w2.setCell ⟨b, 4, none⟩ (.int .i64 (o : Int))) ∧ Ext b w2 (w2.setCell ⟨b, 4, none⟩ (.int .i64 (o : Int)))) := hsh
      have hn := Rp.neg _ _ hv
      have HN : Hid (Rp.S (.iface 159 (.agg #[.iface tv uv])) (A.neg x)) := hn
      clear hsh hn hr
      go_wp2_with fail
      go_ret
      exact good_post Rp hfin.out HN HS.out.1 ((x1.trans x2).trans HS.out.2)

/-- what bracketed comes to, where 'q' reads the sum -/
def bracketOf (A : Sp.Alg) (q : Sp.Bs → Sp.R A.S) (o : Nat) (l : Sp.Bs) : Sp.R A.S := match Sp.enter [40] o l with
  | .ok l1 => (match q l1 with
    | .ok (x, l2) => (match Sp.take [41] l2 with
      | .ok l3 => .ok (x, l3)
      | .error e => .error e)
    | .error e => .error e)
  | .error e => .error e

theorem bracketed_calls {A : Sp.Alg} (Rp : Rep A) (b : Nat) (s : ByteArray) (m1 m2 o n : Nat) (q : Sp.Bs → Sp.R A.S)
    (hu : o < 12 → Reads Rp 88 b s m1 m2 (o + 1) n q) (l : Sp.Bs) (w : World) (hl : l.length < n + 1) (h : Rd b s m1 m2 l o w) (hE : Env b m1 m2 w) (ho : o ≤ 12) :
    Calls Tryz.prog 108 #[.pointer (some ⟨b, 0, none⟩)] w (PostS Rp b s m1 m2 o w (bracketOf A q o l)) := by
  by_cases ht : Sp.tok l = [40]
  · by_cases h12 : o = 12
    · subst h12
      have hr : Hid (bracketOf A q 12 l = .error (3, l.length)) := by
        unfold Hid bracketOf Sp.enter; rw [if_pos ht, if_pos rfl]; rfl
      go_enter Tryz.func108, Tryz.ntmps108
      go_wp2_with fail
      refine (enter_deep h [40] ht).mono ?_
      rintro e w1 ⟨N, rfl, hf⟩
      exact ⟨rfl, bad_post Rp hr.out ⟨N, rfl, hf⟩⟩
    · have hen : Sp.enter [40] o l = .ok (Sp.next l) := by unfold Sp.enter; rw [if_pos ht, if_neg h12]
      have hnl := Sp.next_lt_of_tok ht (by simp)
      cases hr : q (Sp.next l) with
      | error er =>
        have hfin : Hid (bracketOf A q o l = .error er) := by unfold Hid bracketOf; rw [hen]; simp only; rw [hr]
        go_enter Tryz.func108, Tryz.ntmps108
        go_wp2_with fail
        refine (enter_ok h (by omega) [40] ht).mono ?_
        rintro e w1 ⟨rfl, h1, x1⟩
        go_wp2_with fail
        refine (hu (by omega) (Sp.next l) w1 (by omega) h1 (hE.ext x1)).mono ?_
        intro e w2 hp
        rw [hr] at hp
        obtain ⟨N, rfl, hf⟩ := hp
        exact ⟨rfl, bad_post Rp hfin.out (Faulty.ahead x1 ⟨N, rfl, hf⟩)⟩
      | ok xl =>
        obtain ⟨x, l2⟩ := xl
        by_cases hsh : Sp.tok l2 = [41]
        · have hfin : Hid (bracketOf A q o l = .ok (x, Sp.next l2)) := by unfold Hid bracketOf; rw [hen]; simp only; rw [hr]; simp only; unfold Sp.take; rw [if_pos hsh]
          go_enter Tryz.func108, Tryz.ntmps108
          go_wp2_with fail
          refine (enter_ok h (by omega) [40] ht).mono ?_
          rintro e w1 ⟨rfl, h1, x1⟩
          go_wp2_with fail
          refine (hu (by omega) (Sp.next l) w1 (by omega) h1 (hE.ext x1)).mono ?_
          intro e w2 hp
          rw [hr] at hp
          obtain ⟨v, rfl, hv, h2, x2⟩ := hp
          have HV : Hid (Rp.S v x) := hv
          clear hv hr
          go_wp2_with fail
          refine (take_ok h2 [41] hsh).mono ?_
          rintro e w3 ⟨rfl, h3, x3⟩
          have c4 : w3.cell? ⟨b, 4, none⟩ = some (.int .i64 ((o : Int) + 1)) := h3.c4
          have f4 := h3.fz 4
          have hsh := rd_open h3 o (o : Int) rfl
          have HS : Hid (Rd b s m1 m2 (Sp.next l2) o (w3.setCell ⟨b, 4, none⟩ (.int .i64 (o : Int))) ∧ Ext b w3 (w3.setCell ⟨b, 4, none⟩ (.int .i64 (o : Int)))) := hsh
          clear hsh
          go_wp2_with fail
          go_ret
          exact good_post Rp hfin.out HV HS.out.1 (((x1.trans x2).trans x3).trans HS.out.2)
        · have hfin : Hid (bracketOf A q o l = .error (2, l2.length)) := by unfold Hid bracketOf; rw [hen]; simp only; rw [hr]; simp only; unfold Sp.take; rw [if_neg hsh]; rfl
          go_enter Tryz.func108, Tryz.ntmps108
          go_wp2_with fail
          refine (enter_ok h (by omega) [40] ht).mono ?_
          rintro e w1 ⟨rfl, h1, x1⟩
          go_wp2_with fail
          refine (hu (by omega) (Sp.next l) w1 (by omega) h1 (hE.ext x1)).mono ?_
          intro e w2 hp
          rw [hr] at hp
          obtain ⟨v, rfl, hv, h2, x2⟩ := hp
          clear hv hr
          go_wp2_with fail
          refine (take_bad h2 [41] hsh).mono ?_
          rintro e w3 ⟨N, rfl, hf⟩
          exact ⟨rfl, bad_post Rp hfin.out (Faulty.ahead (x1.trans x2) ⟨N, rfl, hf⟩)⟩
  · have hr : Hid (bracketOf A q o l = .error (2, l.length)) := by
      unfold Hid bracketOf Sp.enter; rw [if_neg ht]; rfl
    go_enter Tryz.func108, Tryz.ntmps108
    go_wp2_with fail
    refine (enter_bad h [40] ht).mono ?_
    rintro e w1 ⟨N, rfl, hf⟩
    exact ⟨rfl, bad_post Rp hr.out ⟨N, rfl, hf⟩⟩

theorem pUnary_succ (A : Sp.Alg) (n o : Nat) (l : Sp.Bs) : Sp.pUnary A (n + 1) o l =
    if Sp.tokKind l = 3 then (match Sp.numVal (Sp.tok l) with
      | some v => .ok (A.num v, Sp.next l)
      | none => Sp.bad 2 l)
    else if Sp.tokKind l = 2 then (match Sp.pName l with
      | .ok (k, l1) => .ok (A.name k, l1)
      | .error e => .error e)
    else if Sp.tok l = [45] then negOf A (Sp.pUnary A n (o + 1)) o l
    else bracketOf A (Sp.pSum A (Sp.pUnary A n (o + 1))) o l := rfl

end Go.Proofs.YtjkllmiikdlhhaaGreatDoor
