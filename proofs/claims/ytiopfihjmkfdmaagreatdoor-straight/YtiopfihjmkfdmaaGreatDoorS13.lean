import Derived.Test.YtiopfihjmkfdmaaGreatDoorS12
namespace Go.Proofs.YtiopfihjmkfdmaaGreatDoor
open Go.RowKit
set_option maxRecDepth 100000
set_option maxHeartbeats 400000
def Reads {A : Sp.Alg} (Rp : Rep A) (f : Nat) (b : Nat) (s : ByteArray) (m1 m2 o n : Nat) (u : Sp.Bs → Sp.R A.S) : Prop :=
 ∀ l ct w, l.length < n → Rd b s m1 m2 l o ct w → Env b m1 m2 w → Calls Tryz.prog f #[.pointer (some ⟨b, 0, none⟩)] w (PostS Rp b s m1 m2 o ct w (u l))
theorem product_reads {A : Sp.Alg} (Rp : Rep A) (b : Nat) (s : ByteArray) (m1 m2 o n : Nat) (u : Sp.Bs → Sp.R A.S) (hdec : ∀ l x l1, u l = .ok (x, l1) → l1.length ≤ l.length)
  (hu : Reads Rp 247 b s m1 m2 o n u) : Reads Rp 235 b s m1 m2 o n (Sp.pProd A u) := by
 intro l ct w hl h hE
 have hc : Calls Tryz.prog 234 #[.pointer (some ⟨b, 0, none⟩), .int .i64 1, .func (Fn.func 247) #[.pointer (some ⟨b, 0, none⟩)] #[]] w (PostS Rp b s m1 m2 o ct w (Sp.pProd A u l)) := chain_unary Rp b s m1 m2 o n u hdec hu l ct w hl h hE
 clear hdec hu
 generalize Sp.pProd A u l = r at hc ⊢
 cases r with
 | error er =>
  go_enter Tryz.func235, Tryz.ntmps235
  go_wp2_with fail
  refine hc.mono ?_
  rintro e w1 ⟨N, rfl, hf⟩
  exact ⟨rfl, N, rfl, hf⟩
 | ok xl =>
  obtain ⟨x, l1⟩ := xl
  go_enter Tryz.func235, Tryz.ntmps235
  go_wp2_with fail
  refine hc.mono ?_
  rintro e w1 ⟨v, rfl, ct1, hv, h1, x1⟩
  go_wp2_with fail
  go_ret
  exact ⟨v, rfl, ct1, hv, h1, x1⟩
theorem sum_reads {A : Sp.Alg} (Rp : Rep A) (b : Nat) (s : ByteArray) (m1 m2 o n : Nat) (u : Sp.Bs → Sp.R A.S) (hdec : ∀ l x l1, u l = .ok (x, l1) → l1.length ≤ l.length)
  (hu : Reads Rp 247 b s m1 m2 o n u) : Reads Rp 207 b s m1 m2 o n (Sp.pSum A u) := by
 intro l ct w hl h hE
 have hc : Calls Tryz.prog 234 #[.pointer (some ⟨b, 0, none⟩), .int .i64 0, .func (Fn.func 235) #[.pointer (some ⟨b, 0, none⟩)] #[]] w (PostS Rp b s m1 m2 o ct w (Sp.pSum A u l)) := chain_product Rp b s m1 m2 o n (Sp.pProd A u) (Sp.pWith_dec hdec) (product_reads Rp b s m1 m2 o n u hdec hu) l ct w hl h hE
 clear hdec hu
 generalize Sp.pSum A u l = r at hc ⊢
 cases r with
 | error er =>
  go_enter Tryz.func207, Tryz.ntmps207
  go_wp2_with fail
  refine hc.mono ?_
  rintro e w1 ⟨N, rfl, hf⟩
  exact ⟨rfl, N, rfl, hf⟩
 | ok xl =>
  obtain ⟨x, l1⟩ := xl
  go_enter Tryz.func207, Tryz.ntmps207
  go_wp2_with fail
  refine hc.mono ?_
  rintro e w1 ⟨v, rfl, ct1, hv, h1, x1⟩
  go_wp2_with fail
  go_ret
  exact ⟨v, rfl, ct1, hv, h1, x1⟩
theorem bad_post {A : Sp.Alg} (Rp : Rep A) {b : Nat} {s : ByteArray} {m1 m2 o : Nat} {ct : Int × Int} {w : World} {r : Sp.R A.S} {er : Nat × Nat} {e : Ending} {w' : World} (hr : r = .error er) (h : Faulty s b w er e w') : PostS Rp b s m1 m2 o ct w r e w' := by
 rw [hr]; exact h
theorem good_post {A : Sp.Alg} (Rp : Rep A) {b : Nat} {s : ByteArray} {m1 m2 o : Nat} {ct ct' : Int × Int} {w : World} {r : Sp.R A.S} {x : A.S} {l' : Sp.Bs} {v : Value} {w' : World} (hr : r = .ok (x, l')) (hv : Rp.S ct v x ct') (h : Rd b s m1 m2 l' o ct' w') (hx : Ext b w w') : PostS Rp b s m1 m2 o ct w r (.returned v) w' := by
 rw [hr]; exact ⟨v, rfl, ct', hv, h, hx⟩
def negOf (A : Sp.Alg) (u : Sp.Bs → Sp.R A.S) (o : Nat) (l : Sp.Bs) : Sp.R A.S := match Sp.enter [45] o l with
 | .ok l1 => (match u l1 with
  | .ok (x, l2) => .ok (A.neg x, l2)
  | .error e => .error e)
 | .error e => .error e
theorem negation_calls {A : Sp.Alg} (Rp : Rep A) (b : Nat) (s : ByteArray) (m1 m2 o n : Nat) (u : Sp.Bs → Sp.R A.S)
  (hu : o < 12 → Reads Rp 247 b s m1 m2 (o + 1) n u) (l : Sp.Bs) (ct : Int × Int) (w : World) (hl : l.length < n + 1) (h : Rd b s m1 m2 l o ct w) (hE : Env b m1 m2 w) (ho : o ≤ 12) (ht : Sp.tok l = [45]) :
  Calls Tryz.prog 253 #[.pointer (some ⟨b, 0, none⟩)] w (PostS Rp b s m1 m2 o ct w (negOf A u o l)) := by
 by_cases h12 : o = 12
 ·subst h12
  have hr : Hid (negOf A u 12 l = .error (3, l.length)) := by
   unfold Hid negOf Sp.enter; rw [if_pos ht, if_pos rfl]; rfl
  go_enter Tryz.func253, Tryz.ntmps253
  go_wp2_with fail
  refine (enter_deep h [45] ht).mono ?_
  rintro e w1 ⟨N, rfl, hf⟩
  exact ⟨rfl, bad_post Rp hr.out ⟨N, rfl, hf⟩⟩
 ·have hen : Sp.enter [45] o l = .ok (Sp.next l) := by unfold Sp.enter; rw [if_pos ht, if_neg h12]
  have hnl := Sp.next_lt_of_tok ht (by simp)
  cases hr : u (Sp.next l) with
  | error er =>
   have hfin : Hid (negOf A u o l = .error er) := by unfold Hid negOf; rw [hen]; simp only; rw [hr]
   go_enter Tryz.func253, Tryz.ntmps253
   go_wp2_with fail
   refine (enter_ok h (by omega) [45] ht).mono ?_
   rintro e w1 ⟨rfl, h1, x1⟩
   go_wp2_with fail
   refine (hu (by omega) (Sp.next l) ct w1 (by omega) h1 (hE.ext x1)).mono ?_
   intro e w2 hp
   rw [hr] at hp
   obtain ⟨N, rfl, hf⟩ := hp
   exact ⟨rfl, bad_post Rp hfin.out (Faulty.ahead x1 ⟨N, rfl, hf⟩)⟩
  | ok xl =>
   obtain ⟨x, l2⟩ := xl
   have hfin : Hid (negOf A u o l = .ok (A.neg x, l2)) := by unfold Hid negOf; rw [hen]; simp only; rw [hr]
   go_enter Tryz.func253, Tryz.ntmps253
   go_wp2_with fail
   refine (enter_ok h (by omega) [45] ht).mono ?_
   rintro e w1 ⟨rfl, h1, x1⟩
   go_wp2_with fail
   refine (hu (by omega) (Sp.next l) ct w1 (by omega) h1 (hE.ext x1)).mono ?_
   intro e w2 hp
   rw [hr] at hp
   obtain ⟨v, rfl, ct1, hv, h2, x2⟩ := hp
   obtain ⟨tv, uv, rfl⟩ := Rp.iface _ _ _ _ hv
   have c4 : w2.cell? ⟨b, 4, none⟩ = some (.int .i64 ((o : Int) + 1)) := h2.c4
   have f4 := h2.fz 4
   have hsh := rd_open h2 o (o : Int) rfl
   have HS : Hid (Rd b s m1 m2 l2 o ct1 (w2.setCell ⟨b, 4, none⟩ (.int .i64 (o : Int))) ∧ Ext b w2 (w2.setCell ⟨b, 4, none⟩ (.int .i64 (o : Int)))) := hsh
   have hn := Rp.neg _ _ _ _ hv
   have HN : Hid (Rp.S ct (.iface 330 (.agg #[.iface tv uv])) (A.neg x) ct1) := hn
   clear hsh hn hr
   go_wp2_with fail
   go_ret
   exact good_post Rp hfin.out HN HS.out.1 ((x1.trans x2).trans HS.out.2)
def bracketOf (A : Sp.Alg) (q : Sp.Bs → Sp.R A.S) (o : Nat) (l : Sp.Bs) : Sp.R A.S := match Sp.enter [40] o l with
 | .ok l1 => (match q l1 with
  | .ok (x, l2) => (match Sp.take [41] l2 with
   | .ok l3 => .ok (x, l3)
   | .error e => .error e)
  | .error e => .error e)
 | .error e => .error e
theorem bracketed_calls {A : Sp.Alg} (Rp : Rep A) (b : Nat) (s : ByteArray) (m1 m2 o n : Nat) (q : Sp.Bs → Sp.R A.S)
  (hu : o < 12 → Reads Rp 207 b s m1 m2 (o + 1) n q) (l : Sp.Bs) (ct : Int × Int) (w : World) (hl : l.length < n + 1) (h : Rd b s m1 m2 l o ct w) (hE : Env b m1 m2 w) (ho : o ≤ 12) :
  Calls Tryz.prog 254 #[.pointer (some ⟨b, 0, none⟩)] w (PostS Rp b s m1 m2 o ct w (bracketOf A q o l)) := by
 by_cases ht : Sp.tok l = [40]
 ·by_cases h12 : o = 12
  ·subst h12
   have hr : Hid (bracketOf A q 12 l = .error (3, l.length)) := by
    unfold Hid bracketOf Sp.enter; rw [if_pos ht, if_pos rfl]; rfl
   go_enter Tryz.func254, Tryz.ntmps254
   go_wp2_with fail
   refine (enter_deep h [40] ht).mono ?_
   rintro e w1 ⟨N, rfl, hf⟩
   exact ⟨rfl, bad_post Rp hr.out ⟨N, rfl, hf⟩⟩
  ·have hen : Sp.enter [40] o l = .ok (Sp.next l) := by unfold Sp.enter; rw [if_pos ht, if_neg h12]
   have hnl := Sp.next_lt_of_tok ht (by simp)
   cases hr : q (Sp.next l) with
   | error er =>
    have hfin : Hid (bracketOf A q o l = .error er) := by unfold Hid bracketOf; rw [hen]; simp only; rw [hr]
    go_enter Tryz.func254, Tryz.ntmps254
    go_wp2_with fail
    refine (enter_ok h (by omega) [40] ht).mono ?_
    rintro e w1 ⟨rfl, h1, x1⟩
    go_wp2_with fail
    refine (hu (by omega) (Sp.next l) ct w1 (by omega) h1 (hE.ext x1)).mono ?_
    intro e w2 hp
    rw [hr] at hp
    obtain ⟨N, rfl, hf⟩ := hp
    exact ⟨rfl, bad_post Rp hfin.out (Faulty.ahead x1 ⟨N, rfl, hf⟩)⟩
   | ok xl =>
    obtain ⟨x, l2⟩ := xl
    by_cases hsh : Sp.tok l2 = [41]
    ·have hfin : Hid (bracketOf A q o l = .ok (x, Sp.next l2)) := by unfold Hid bracketOf; rw [hen]; simp only; rw [hr]; simp only; unfold Sp.take; rw [if_pos hsh]
     go_enter Tryz.func254, Tryz.ntmps254
     go_wp2_with fail
     refine (enter_ok h (by omega) [40] ht).mono ?_
     rintro e w1 ⟨rfl, h1, x1⟩
     go_wp2_with fail
     refine (hu (by omega) (Sp.next l) ct w1 (by omega) h1 (hE.ext x1)).mono ?_
     intro e w2 hp
     rw [hr] at hp
     obtain ⟨v, rfl, ct1, hv, h2, x2⟩ := hp
     have HV : Hid (Rp.S ct v x ct1) := hv
     clear hv hr
     go_wp2_with fail
     refine (take_ok h2 [41] hsh).mono ?_
     rintro e w3 ⟨rfl, h3, x3⟩
     have c4 : w3.cell? ⟨b, 4, none⟩ = some (.int .i64 ((o : Int) + 1)) := h3.c4
     have f4 := h3.fz 4
     have hsh := rd_open h3 o (o : Int) rfl
     have HS : Hid (Rd b s m1 m2 (Sp.next l2) o ct1 (w3.setCell ⟨b, 4, none⟩ (.int .i64 (o : Int))) ∧ Ext b w3 (w3.setCell ⟨b, 4, none⟩ (.int .i64 (o : Int)))) := hsh
     clear hsh
     go_wp2_with fail
     go_ret
     exact good_post Rp hfin.out HV HS.out.1 (((x1.trans x2).trans x3).trans HS.out.2)
    ·have hfin : Hid (bracketOf A q o l = .error (2, l2.length)) := by unfold Hid bracketOf; rw [hen]; simp only; rw [hr]; simp only; unfold Sp.take; rw [if_neg hsh]; rfl
     go_enter Tryz.func254, Tryz.ntmps254
     go_wp2_with fail
     refine (enter_ok h (by omega) [40] ht).mono ?_
     rintro e w1 ⟨rfl, h1, x1⟩
     go_wp2_with fail
     refine (hu (by omega) (Sp.next l) ct w1 (by omega) h1 (hE.ext x1)).mono ?_
     intro e w2 hp
     rw [hr] at hp
     obtain ⟨v, rfl, ct1, hv, h2, x2⟩ := hp
     clear hv hr
     go_wp2_with fail
     refine (take_bad h2 [41] hsh).mono ?_
     rintro e w3 ⟨N, rfl, hf⟩
     exact ⟨rfl, bad_post Rp hfin.out (Faulty.ahead (x1.trans x2) ⟨N, rfl, hf⟩)⟩
 ·have hr : Hid (bracketOf A q o l = .error (2, l.length)) := by
   unfold Hid bracketOf Sp.enter; rw [if_neg ht]; rfl
  go_enter Tryz.func254, Tryz.ntmps254
  go_wp2_with fail
  refine (enter_bad h [40] ht).mono ?_
  rintro e w1 ⟨N, rfl, hf⟩
  exact ⟨rfl, bad_post Rp hr.out ⟨N, rfl, hf⟩⟩
theorem pUnary_succ (A : Sp.Alg) (n o : Nat) (l : Sp.Bs) : Sp.pUnary A (n + 1) o l =
  if Sp.tokKind l = 3 then (match Sp.numVal (Sp.tok l) with
   | some v => .ok (A.num v, Sp.next l)
   | none => Sp.bad 2 l)
  else if Sp.tokKind l = 2 then (match Sp.pName l with
   | .ok (k, l1) => .ok (A.name k, l1)
   | .error e => .error e)
  else if Sp.tok l = [45] then negOf A (Sp.pUnary A n (o + 1)) o l
  else bracketOf A (Sp.pSum A (Sp.pUnary A n (o + 1))) o l := rfl
end Go.Proofs.YtiopfihjmkfdmaaGreatDoor
namespace Go.Proofs.YtiopfihjmkfdmaaGreatDoor
open Go.RowKit
set_option maxRecDepth 100000
set_option maxHeartbeats 400000
theorem pName_none {l : Sp.Bs} (h : Sp.nameVal l = none) : Sp.pName l = .error (2, l.length) := by unfold Sp.pName; rw [h]; rfl
theorem pName_some {l : Sp.Bs} {k : Nat} (h : Sp.nameVal l = some k) : Sp.pName l = .ok (k, Sp.next l) := by unfold Sp.pName; rw [h]
theorem unary_step {A : Sp.Alg} (Rp : Rep A) (b : Nat) (s : ByteArray) (m1 m2 o n : Nat) (ho : o ≤ 12)
  (ih : o < 12 → Reads Rp 247 b s m1 m2 (o + 1) n (Sp.pUnary A n (o + 1))) : Reads Rp 247 b s m1 m2 o (n + 1) (Sp.pUnary A (n + 1) o) := by
 intro l ct w hl h hE
 rw [pUnary_succ]
 have c2 := h.c2
 by_cases h3 : Sp.tokKind l = 3
 ·rw [if_pos h3]
  have c2' : w.cell? ⟨b, 2, none⟩ = some (.int .i64 3) := by rw [c2, h3]; rfl
  clear c2
  cases hv : Sp.numVal (Sp.tok l) with
  | none =>
   go_enter Tryz.func247, Tryz.ntmps247
   go_wp2_with fail
   refine (number_bad h hE.laid h3 hv).mono ?_
   rintro e w1 ⟨N, rfl, hf⟩
   exact ⟨rfl, N, rfl, hf⟩
  | some v =>
   have hle : v ≤ 32767 := by have := numVal_some hv; omega
   go_enter Tryz.func247, Tryz.ntmps247
   go_wp2_with fail
   refine (number_ok h h3 hv).mono ?_
   rintro e w1 ⟨rfl, h1, x1⟩
   go_wp2_with fail
   go_ret
   exact ⟨_, rfl, ct, Rp.num ct v hle, h1, x1⟩
 ·rw [if_neg h3]
  have n3 : ¬ (((Sp.tokKind l : Nat) : Int) = 3) := by omega
  have b3 : (((Sp.tokKind l : Nat) : Int) == 3) = false := by simpa using n3
  by_cases h2 : Sp.tokKind l = 2
  ·rw [if_pos h2]
   have c2' : w.cell? ⟨b, 2, none⟩ = some (.int .i64 2) := by rw [c2, h2]; rfl
   clear c2 n3 b3 h3
   cases hv : Sp.nameVal l with
   | none =>
    rw [pName_none hv]
    go_enter Tryz.func247, Tryz.ntmps247
    go_wp2_with fail
    refine (name_bad h hv).mono ?_
    rintro e w1 ⟨N, rfl, hf⟩
    exact ⟨rfl, N, rfl, hf⟩
   | some k =>
    rw [pName_some hv]
    have hk : k < 8 := by obtain ⟨c, _, _, h1, h2, rfl⟩ := nameVal_some hv; omega
    go_enter Tryz.func247, Tryz.ntmps247
    go_wp2_with fail
    refine (name_ok h hv).mono ?_
    rintro e w1 ⟨rfl, h1, x1⟩
    go_wp2_with fail
    go_ret
    exact ⟨_, rfl, ct, Rp.name ct k hk, h1, x1⟩
  ·rw [if_neg h2]
   have n2 : ¬ (((Sp.tokKind l : Nat) : Int) = 2) := by omega
   have b2 : (((Sp.tokKind l : Nat) : Int) == 2) = false := by simpa using n2
   have c3 := h.c3
   by_cases ht : Sp.tok l = [45]
   ·rw [if_pos ht]
    have c3' : w.cell? ⟨b, 3, none⟩ = some (.string ⟨#[45]⟩) := by rw [c3, ht]
    have hc := negation_calls Rp b s m1 m2 o n (Sp.pUnary A n (o + 1)) ih l ct w hl h hE ho ht
    clear c3 ht ih h2 h3
    generalize negOf A (Sp.pUnary A n (o + 1)) o l = r at hc ⊢
    generalize Sp.tokKind l = kd at *
    cases r with
    | error er =>
     go_enter Tryz.func247, Tryz.ntmps247
     go_wp2_with fail
     refine hc.mono ?_
     rintro e w1 ⟨N, rfl, hf⟩
     exact ⟨rfl, N, rfl, hf⟩
    | ok xl =>
     obtain ⟨x, l1⟩ := xl
     go_enter Tryz.func247, Tryz.ntmps247
     go_wp2_with fail
     refine hc.mono ?_
     rintro e w1 ⟨v, rfl, ct1, hv, h1, x1⟩
     go_wp2_with fail
     go_ret
     exact ⟨v, rfl, ct1, hv, h1, x1⟩
   ·rw [if_neg ht]
    have hb := tok_ne_beq ht
    have hc := bracketed_calls Rp b s m1 m2 o n (Sp.pSum A (Sp.pUnary A n (o + 1))) (fun h12 => sum_reads Rp b s m1 m2 (o + 1) n _ (fun l x l1 h => Nat.le_of_lt (Sp.pUnary_lt n (o + 1) l x l1 h)) (ih h12)) l ct w hl h hE ho
    clear ih h2 h3 ht
    generalize bracketOf A (Sp.pSum A (Sp.pUnary A n (o + 1))) o l = r at hc ⊢
    generalize Sp.tokKind l = kd at *
    cases r with
    | error er =>
     go_enter Tryz.func247, Tryz.ntmps247
     go_wp2_with fail
     refine hc.mono ?_
     rintro e w1 ⟨N, rfl, hf⟩
     exact ⟨rfl, N, rfl, hf⟩
    | ok xl =>
     obtain ⟨x, l1⟩ := xl
     go_enter Tryz.func247, Tryz.ntmps247
     go_wp2_with fail
     refine hc.mono ?_
     rintro e w1 ⟨v, rfl, ct1, hv, h1, x1⟩
     go_wp2_with fail
     go_ret
     exact ⟨v, rfl, ct1, hv, h1, x1⟩
theorem unary_reads {A : Sp.Alg} (Rp : Rep A) (b : Nat) (s : ByteArray) (m1 m2 : Nat) : ∀ (n o : Nat), o ≤ 12 → Reads Rp 247 b s m1 m2 o n (Sp.pUnary A n o)
 | 0, _, _ => fun l _ _ hl _ _ => absurd hl (Nat.not_lt_zero _)
 | n + 1, o, ho => unary_step Rp b s m1 m2 o n ho (fun h => unary_reads Rp b s m1 m2 n (o + 1) (by omega))
theorem sum_calls {A : Sp.Alg} (Rp : Rep A) (b : Nat) (s : ByteArray) (m1 m2 o : Nat) (ho : o ≤ 12) (l : Sp.Bs) (ct : Int × Int) (w : World) (h : Rd b s m1 m2 l o ct w) (hE : Env b m1 m2 w) :
  Calls Tryz.prog 207 #[.pointer (some ⟨b, 0, none⟩)] w (PostS Rp b s m1 m2 o ct w (Sp.pS A o l)) :=
 sum_reads Rp b s m1 m2 o (l.length + 1) _ (fun l' x l1 h => Nat.le_of_lt (Sp.pUnary_lt (l.length + 1) o l' x l1 h)) (unary_reads Rp b s m1 m2 (l.length + 1) o ho) l ct w (Nat.lt_succ_self _) h hE
end Go.Proofs.YtiopfihjmkfdmaaGreatDoor
namespace Go.Proofs.YtiopfihjmkfdmaaGreatDoor
open Go.RowKit
set_option maxRecDepth 100000
set_option maxHeartbeats 400000
theorem kind_of_rel {l : Sp.Bs} {k : Nat} (h : Sp.relOf (Sp.tok l) = some k) : Sp.tokKind l ≠ 3 := by
 intro h3
 obtain ⟨hne, hd⟩ := digits_of_kind h3
 revert h hne hd
 generalize Sp.tok l = t
 intro h hne hd
 cases t with
 | nil => exact hne rfl
 | cons c r =>
  have hc := hd c (by simp)
  unfold Sp.isDig at hc
  simp at hc
  unfold Sp.relOf at h
  repeat' split at h
  all_goals first
   | (rename_i e; injection e with e1 _; subst e1; revert hc; decide)
   | cases h
def PostG {α : Type} (V : Int × Int → World → Value → α → Int × Int → Prop) (b : Nat) (s : ByteArray) (m1 m2 o : Nat) (ct : Int × Int) (w : World) : Sp.R α → Ending → World → Prop
 | .ok (x, l'), e, w' => ∃ v, e = .returned v ∧ ∃ ct', V ct w' v x ct' ∧ Rd b s m1 m2 l' o ct' w' ∧ Ext b w w'
 | .error er, e, w' => Faulty s b w er e w'
theorem bad_postG {α : Type} {V : Int × Int → World → Value → α → Int × Int → Prop} {b : Nat} {s : ByteArray} {m1 m2 o : Nat} {ct : Int × Int} {w : World} {r : Sp.R α} {er : Nat × Nat} {e : Ending} {w' : World} (hr : r = .error er) (h : Faulty s b w er e w') : PostG V b s m1 m2 o ct w r e w' := by
 rw [hr]; exact h
theorem good_postG {α : Type} {V : Int × Int → World → Value → α → Int × Int → Prop} {b : Nat} {s : ByteArray} {m1 m2 o : Nat} {ct ct' : Int × Int} {w : World} {r : Sp.R α} {x : α} {l' : Sp.Bs} {v : Value} {w' : World} (hr : r = .ok (x, l')) (hv : V ct w' v x ct') (h : Rd b s m1 m2 l' o ct' w') (hx : Ext b w w') : PostG V b s m1 m2 o ct w r (.returned v) w' := by
 rw [hr]; exact ⟨v, rfl, ct', hv, h, hx⟩
def CondV {A : Sp.Alg} (Rp : Rep A) (ct : Int × Int) (_w : World) (v : Value) (c : Nat × A.S × A.S) (ct2 : Int × Int) : Prop :=
 ∃ tl ul tr ur ct1, v = .agg #[.int .i64 (c.1 : Nat), .iface tl ul, .iface tr ur] ∧ c.1 < 6 ∧ Rp.S ct (.iface tl ul) c.2.1 ct1 ∧ Rp.S ct1 (.iface tr ur) c.2.2 ct2
theorem rels_look_none {m : Nat} {w : World} (h : RelsMap m w) (t : Sp.Bs) (ht : t.length ≤ 400) (ho : Sp.relOf t = none) (k : Nat) :
  (Instr.lookup 143 (.map (some m)) (.string ⟨t.toArray⟩) true).run Tryz.prog (w.drewN k) = .ok (.tuple #[.int .i64 0, .bool false]) (w.drewN k) := by
 rw [rels_look (h.drewN k) t ht, ho]; rfl
theorem rels_look_some {m : Nat} {w : World} (h : RelsMap m w) (t : Sp.Bs) (ht : t.length ≤ 400) {j : Nat} (ho : Sp.relOf t = some j) (k : Nat) :
  (Instr.lookup 143 (.map (some m)) (.string ⟨t.toArray⟩) true).run Tryz.prog (w.drewN k) = .ok (.tuple #[.int .i64 (j : Nat), .bool true]) (w.drewN k) := by
 rw [rels_look (h.drewN k) t ht, ho]; rfl
theorem relOf_lt {t : Sp.Bs} {k : Nat} (h : Sp.relOf t = some k) : k < 6 := by
 unfold Sp.relOf at h
 repeat' split at h
 all_goals first | (cases h; decide) | cases h
theorem set3_block {w : World} {N : Nat} {a0 a1 a2 : Value} {t : TypeId} (h : w.heap[N]? = some (.cells #[a0, a1, a2] t)) (v0 v1 v2 : Value) :
  (((w.setCell ⟨N, 0, none⟩ v0).setCell ⟨N, 1, none⟩ v1).setCell ⟨N, 2, none⟩ v2).heap[N]? = some (.cells #[v0, v1, v2] t) := by
 rw [heap_setCell_at (heap_setCell_at (heap_setCell_at h 0 v0) 1 v1) 2 v2]
 rfl
theorem cond_calls {A : Sp.Alg} (Rp : Rep A) (b : Nat) (s : ByteArray) (m1 m2 o : Nat) (ho : o ≤ 12) (l : Sp.Bs) (ct : Int × Int) (w : World) (h : Rd b s m1 m2 l o ct w) (hE : Env b m1 m2 w) :
  Calls Tryz.prog 205 #[.pointer (some ⟨b, 0, none⟩)] w (PostG (CondV Rp) b s m1 m2 o ct w (Sp.pCond A o l)) := by
 have hw0 : Hid (Rd b s m1 m2 l o ct (w.alloc (.cells #[.int .i64 0, .nilIface, .nilIface] 285)) ∧ Env b m1 m2 (w.alloc (.cells #[.int .i64 0, .nilIface, .nilIface] 285)) ∧ Ext b w (w.alloc (.cells #[.int .i64 0, .nilIface, .nilIface] 285))) :=
  ⟨h.ext _, hE.ext ((Ext.refl b w).alloc _), (Ext.refl b w).alloc _⟩
 have hlt := h.lt
 cases hr : Sp.pS A o l with
 | error er =>
  have hfin : Hid (Sp.pCond A o l = .error er) := by unfold Hid Sp.pCond; rw [hr]
  go_enter Tryz.func205, Tryz.ntmps205
  go_wp2_with fail
  refine (sum_calls Rp b s m1 m2 o ho l ct _ hw0.out.1 hw0.out.2.1).mono ?_
  intro e w1 hp
  rw [hr] at hp
  obtain ⟨N, rfl, hf⟩ := hp
  exact ⟨rfl, bad_postG hfin.out (Faulty.ahead hw0.out.2.2 ⟨N, rfl, hf⟩)⟩
 | ok xl =>
  obtain ⟨x, l1⟩ := xl
  cases hq : Sp.relOf (Sp.tok l1) with
  | none =>
   have hfin : Hid (Sp.pCond A o l = .error (2, l1.length)) := by unfold Hid Sp.pCond; rw [hr]; simp only; rw [hq]; rfl
   go_enter Tryz.func205, Tryz.ntmps205
   go_wp2_with fail
   refine (sum_calls Rp b s m1 m2 o ho l ct _ hw0.out.1 hw0.out.2.1).mono ?_
   intro e w1 hp
   rw [hr] at hp
   obtain ⟨v, rfl, ct1, hv, h1, x1⟩ := hp
   have c3 := h1.c3
   have c8 := h1.c8
   have hE1 := hw0.out.2.1.ext x1
   have hlk := rels_look_none hE1.rels (Sp.tok l1) h1.tokLen400 hq
   clear hr hq
   go_wp2_with fail
   go_quiet (fail)
   go_wp2_with fail
   refine (fault_calls (h1.drewN _) 2).mono ?_
   rintro e w2 ⟨rfl, rfl⟩
   go_wp2_with fail
   exact ⟨rfl, bad_postG hfin.out (Faulty.ahead ((hw0.out.2.2.trans x1).drewN _) (faulty_of (h1.drewN _) 2 2 rfl))⟩
  | some k =>
   have hk6 := relOf_lt hq
   cases hr2 : Sp.pS A o (Sp.next l1) with
   | error er =>
    have hfin : Hid (Sp.pCond A o l = .error er) := by unfold Hid Sp.pCond; rw [hr]; simp only; rw [hq]; simp only; rw [hr2]
    go_enter Tryz.func205, Tryz.ntmps205
    go_wp2_with fail
    refine (sum_calls Rp b s m1 m2 o ho l ct _ hw0.out.1 hw0.out.2.1).mono ?_
    intro e w1 hp
    rw [hr] at hp
    obtain ⟨v, rfl, ct1, hv, h1, x1⟩ := hp
    have c3 := h1.c3
    have c8 := h1.c8
    have hE1 := hw0.out.2.1.ext x1
    have hlk := rels_look_some hE1.rels (Sp.tok l1) h1.tokLen400 hq
    have HQ3 : Hid (Sp.tokKind l1 ≠ 3) := kind_of_rel hq
    clear hr hq
    go_wp2_with fail
    go_quiet (fail)
    go_wp2_with fail
    refine (step_calls (h1.drewN _) HQ3.out).mono ?_
    rintro e w2 ⟨rfl, h2, x2⟩
    go_wp2_with fail
    refine (sum_calls Rp b s m1 m2 o ho (Sp.next l1) ct1 _ h2 (hE1.ext x2.undrewN)).mono ?_
    intro e w3 hp3
    rw [hr2] at hp3
    obtain ⟨N, rfl, hf⟩ := hp3
    exact ⟨rfl, bad_postG hfin.out (Faulty.ahead ((hw0.out.2.2.trans x1).trans x2.undrewN) ⟨N, rfl, hf⟩)⟩
   | ok yl =>
    obtain ⟨y, l2⟩ := yl
    have hfin : Hid (Sp.pCond A o l = .ok ((k, x, y), l2)) := by unfold Hid Sp.pCond; rw [hr]; simp only; rw [hq]; simp only; rw [hr2]
    go_enter Tryz.func205, Tryz.ntmps205
    go_wp2_with fail
    refine (sum_calls Rp b s m1 m2 o ho l ct _ hw0.out.1 hw0.out.2.1).mono ?_
    intro e w1 hp
    rw [hr] at hp
    obtain ⟨v, rfl, ct1, hv, h1, x1⟩ := hp
    obtain ⟨tl, ul, rfl⟩ := Rp.iface _ _ _ _ hv
    have HV : Hid (Rp.S ct (.iface tl ul) x ct1) := hv
    have c3 := h1.c3
    have c8 := h1.c8
    have hE1 := hw0.out.2.1.ext x1
    have hlk := rels_look_some hE1.rels (Sp.tok l1) h1.tokLen400 hq
    have HQ3 : Hid (Sp.tokKind l1 ≠ 3) := kind_of_rel hq
    clear hr hq hv
    go_wp2_with fail
    go_quiet (fail)
    go_wp2_with fail
    refine (step_calls (h1.drewN _) HQ3.out).mono ?_
    rintro e w2 ⟨rfl, h2, x2⟩
    go_wp2_with fail
    refine (sum_calls Rp b s m1 m2 o ho (Sp.next l1) ct1 _ h2 (hE1.ext x2.undrewN)).mono ?_
    intro e w3 hp3
    rw [hr2] at hp3
    obtain ⟨v3, rfl, ct2, hv3, h3, x3⟩ := hp3
    obtain ⟨tr, ur, rfl⟩ := Rp.iface _ _ _ _ hv3
    have HV3 : Hid (Rp.S ct1 (.iface tr ur) y ct2) := hv3
    have hnb := new_block ((x1.trans x2.undrewN).trans x3) hlt
    have k0 := cell_of hnb 0 (v := .int .i64 0) rfl
    have k1 := cell_of hnb 1 (v := .nilIface) rfl
    have k2 := cell_of hnb 2 (v := .nilIface) rfl
    have f0 := frozen_of hnb 0
    have f1 := frozen_of hnb 1
    have f2 := frozen_of hnb 2
    clear hr2 hv3
    have hW := set3_block hnb (.int .i64 (k : Nat)) (.iface tl ul) (.iface tr ur)
    have q0 := cell_of hW 0 (v := .int .i64 (k : Nat)) rfl
    have q1 := cell_of hW 1 (v := .iface tl ul) rfl
    have q2 := cell_of hW 2 (v := .iface tr ur) rfl
    have HR : Hid (Rd b s m1 m2 l2 o ct2 (((w3.setCell ⟨w.heap.size, 0, none⟩ (.int .i64 (k : Nat))).setCell ⟨w.heap.size, 1, none⟩ (.iface tl ul)).setCell ⟨w.heap.size, 2, none⟩ (.iface tr ur))) :=
     ((h3.set_other (p := ⟨w.heap.size, 0, none⟩) (by show w.heap.size ≠ b; omega) (nn_of hnb (by decide)) _).set_other (p := ⟨w.heap.size, 1, none⟩) (by show w.heap.size ≠ b; omega) (nn_set (nn_of hnb (by decide))) _).set_other (p := ⟨w.heap.size, 2, none⟩) (by show w.heap.size ≠ b; omega) (nn_set (nn_set (nn_of hnb (by decide)))) _
    have HX : Hid (Ext b w (((w3.setCell ⟨w.heap.size, 0, none⟩ (.int .i64 (k : Nat))).setCell ⟨w.heap.size, 1, none⟩ (.iface tl ul)).setCell ⟨w.heap.size, 2, none⟩ (.iface tr ur))) :=
     (((((hw0.out.2.2.trans x1).trans x2.undrewN).trans x3).setCell (p := ⟨w.heap.size, 0, none⟩) (.inr (Nat.le_refl _)) _).setCell (p := ⟨w.heap.size, 1, none⟩) (.inr (Nat.le_refl _)) _).setCell (p := ⟨w.heap.size, 2, none⟩) (.inr (Nat.le_refl _)) _
    have Q0 : Hid (_ = _) := q0
    have Q1 : Hid (_ = _) := q1
    have Q2 : Hid (_ = _) := q2
    clear q0 q1 q2 hW
    go_wp2_with fail
    exact bodyPost_ret (v := .agg #[.int .i64 (k : Nat), .iface tl ul, .iface tr ur]) (by simp [results, Tryz.results205, go_sem, Q0.out, Q1.out, Q2.out]) rfl (good_postG hfin.out ⟨tl, ul, tr, ur, ct1, rfl, hk6, HV, HV3⟩ HR HX)
end Go.Proofs.YtiopfihjmkfdmaaGreatDoor
