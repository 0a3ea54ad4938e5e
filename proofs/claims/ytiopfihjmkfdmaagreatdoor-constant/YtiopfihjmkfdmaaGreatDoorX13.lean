import Derived.Test.YtiopfihjmkfdmaaGreatDoorX12
namespace Go.Proofs.YtiopfihjmkfdmaaGreatDoor
open Go.RowKit
set_option maxRecDepth 100000
set_option maxHeartbeats 400000
theorem pName_none {l:Sp.Bs} (h:Sp.nameVal l=none):Sp.pName l=.error (2,l.length):=by unfold Sp.pName; rw [h]; rfl
theorem pName_some {l:Sp.Bs} {k:Nat} (h:Sp.nameVal l=some k):Sp.pName l=.ok (k,Sp.next l):=by unfold Sp.pName; rw [h]
theorem unary_step {A:Sp.Alg} (Rp:Rep A) (b:Nat) (s:ByteArray) (m1 m2 o n:Nat) (ho:o≤12)
  (ih:o<12→Reads Rp 247 b s m1 m2 (o + 1) n (Sp.pUnary A n (o + 1))):Reads Rp 247 b s m1 m2 o (n + 1) (Sp.pUnary A (n + 1) o):=by
 intro l ct w hl h hE
 rw [pUnary_succ]
 have c2:=h.c2
 by_cases h3:Sp.tokKind l=3
 ·rw [if_pos h3]
  have c2':w.cell? ⟨b,2,none⟩=some (.int .i64 3):=by rw [c2,h3]; rfl
  clear c2
  cases hv:Sp.numVal (Sp.tok l) with
  | none =>
   go_enter Tryz.func247,Tryz.ntmps247
   go_wp2_with fail
   refine (number_bad h hE.laid h3 hv).mono ?_
   rintro e w1 ⟨N,rfl,hf⟩
   exact ⟨rfl,N,rfl,hf⟩
  | some v =>
   have hle:v≤32767:=by have:=numVal_some hv; omega
   go_enter Tryz.func247,Tryz.ntmps247
   go_wp2_with fail
   refine (number_ok h h3 hv).mono ?_
   rintro e w1 ⟨rfl,h1,x1⟩
   go_wp2_with fail
   go_ret
   exact ⟨_,rfl,ct,Rp.num ct v hle,h1,x1⟩
 ·rw [if_neg h3]
  have n3:¬ (((Sp.tokKind l:Nat):Int)=3):=by omega
  have b3:(((Sp.tokKind l:Nat):Int) == 3)=false:=by simpa using n3
  by_cases h2:Sp.tokKind l=2
  ·rw [if_pos h2]
   have c2':w.cell? ⟨b,2,none⟩=some (.int .i64 2):=by rw [c2,h2]; rfl
   clear c2 n3 b3 h3
   cases hv:Sp.nameVal l with
   | none =>
    rw [pName_none hv]
    go_enter Tryz.func247,Tryz.ntmps247
    go_wp2_with fail
    refine (name_bad h hv).mono ?_
    rintro e w1 ⟨N,rfl,hf⟩
    exact ⟨rfl,N,rfl,hf⟩
   | some k =>
    rw [pName_some hv]
    have hk:k<8:=by obtain ⟨c,_,_,h1,h2,rfl⟩:=nameVal_some hv; omega
    go_enter Tryz.func247,Tryz.ntmps247
    go_wp2_with fail
    refine (name_ok h hv).mono ?_
    rintro e w1 ⟨rfl,h1,x1⟩
    go_wp2_with fail
    go_ret
    exact ⟨_,rfl,ct,Rp.name ct k hk,h1,x1⟩
  ·rw [if_neg h2]
   have n2:¬ (((Sp.tokKind l:Nat):Int)=2):=by omega
   have b2:(((Sp.tokKind l:Nat):Int) == 2)=false:=by simpa using n2
   have c3:=h.c3
   by_cases ht:Sp.tok l=[45]
   ·rw [if_pos ht]
    have c3':w.cell? ⟨b,3,none⟩=some (.string ⟨#[45]⟩):=by rw [c3,ht]
    have hc:=negation_calls Rp b s m1 m2 o n (Sp.pUnary A n (o + 1)) ih l ct w hl h hE ho ht
    clear c3 ht ih h2 h3
    generalize negOf A (Sp.pUnary A n (o + 1)) o l=r at hc ⊢
    generalize Sp.tokKind l=kd at *
    cases r with
    | error er =>
     go_enter Tryz.func247,Tryz.ntmps247
     go_wp2_with fail
     refine hc.mono ?_
     rintro e w1 ⟨N,rfl,hf⟩
     exact ⟨rfl,N,rfl,hf⟩
    | ok xl =>
     obtain ⟨x,l1⟩:=xl
     go_enter Tryz.func247,Tryz.ntmps247
     go_wp2_with fail
     refine hc.mono ?_
     rintro e w1 ⟨v,rfl,ct1,hv,h1,x1⟩
     go_wp2_with fail
     go_ret
     exact ⟨v,rfl,ct1,hv,h1,x1⟩
   ·rw [if_neg ht]
    have hb:=tok_ne_beq ht
    have hc:=bracketed_calls Rp b s m1 m2 o n (Sp.pSum A (Sp.pUnary A n (o + 1))) (fun h12=>sum_reads Rp b s m1 m2 (o + 1) n _ (fun l x l1 h=>Nat.le_of_lt (Sp.pUnary_lt n (o + 1) l x l1 h)) (ih h12)) l ct w hl h hE ho
    clear ih h2 h3 ht
    generalize bracketOf A (Sp.pSum A (Sp.pUnary A n (o + 1))) o l=r at hc ⊢
    generalize Sp.tokKind l=kd at *
    cases r with
    | error er =>
     go_enter Tryz.func247,Tryz.ntmps247
     go_wp2_with fail
     refine hc.mono ?_
     rintro e w1 ⟨N,rfl,hf⟩
     exact ⟨rfl,N,rfl,hf⟩
    | ok xl =>
     obtain ⟨x,l1⟩:=xl
     go_enter Tryz.func247,Tryz.ntmps247
     go_wp2_with fail
     refine hc.mono ?_
     rintro e w1 ⟨v,rfl,ct1,hv,h1,x1⟩
     go_wp2_with fail
     go_ret
     exact ⟨v,rfl,ct1,hv,h1,x1⟩
theorem unary_reads {A:Sp.Alg} (Rp:Rep A) (b:Nat) (s:ByteArray) (m1 m2:Nat):∀ (n o:Nat),o≤12→Reads Rp 247 b s m1 m2 o n (Sp.pUnary A n o)
 | 0,_,_=>fun l _ _ hl _ _=>absurd hl (Nat.not_lt_zero _)
 | n + 1,o,ho=>unary_step Rp b s m1 m2 o n ho (fun h=>unary_reads Rp b s m1 m2 n (o + 1) (by omega))
theorem sum_calls {A:Sp.Alg} (Rp:Rep A) (b:Nat) (s:ByteArray) (m1 m2 o:Nat) (ho:o≤12) (l:Sp.Bs) (ct:Int × Int) (w:World) (h:Rd b s m1 m2 l o ct w) (hE:Env b m1 m2 w) :
  Calls Tryz.prog 207 #[.pointer (some ⟨b,0,none⟩)] w (PostS Rp b s m1 m2 o ct w (Sp.pS A o l)) :=
 sum_reads Rp b s m1 m2 o (l.length + 1) _ (fun l' x l1 h=>Nat.le_of_lt (Sp.pUnary_lt (l.length + 1) o l' x l1 h)) (unary_reads Rp b s m1 m2 (l.length + 1) o ho) l ct w (Nat.lt_succ_self _) h hE
end Go.Proofs.YtiopfihjmkfdmaaGreatDoor
namespace Go.Proofs.YtiopfihjmkfdmaaGreatDoor
open Go.RowKit
set_option maxRecDepth 100000
set_option maxHeartbeats 400000
theorem kind_of_rel {l:Sp.Bs} {k:Nat} (h:Sp.relOf (Sp.tok l)=some k):Sp.tokKind l ≠ 3:=by
 intro h3
 obtain ⟨hne,hd⟩:=digits_of_kind h3
 revert h hne hd
 generalize Sp.tok l=t
 intro h hne hd
 cases t with
 | nil=>exact hne rfl
 | cons c r =>
  have hc:=hd c (by simp)
  unfold Sp.isDig at hc
  simp at hc
  unfold Sp.relOf at h
  repeat' split at h
  all_goals first
   | (rename_i e; injection e with e1 _; subst e1; revert hc; decide)
   | cases h
def PostG {α:Type} (V:Int × Int→World→Value→α→Int × Int→Prop) (b:Nat) (s:ByteArray) (m1 m2 o:Nat) (ct:Int × Int) (w:World):Sp.R α→Ending→World→Prop
 | .ok (x,l'),e,w'=>∃ v,e=.returned v∧∃ ct',V ct w' v x ct'∧Rd b s m1 m2 l' o ct' w'∧Ext b w w'
 | .error er,e,w'=>Faulty s b w er e w'
theorem bad_postG {α:Type} {V:Int × Int→World→Value→α→Int × Int→Prop} {b:Nat} {s:ByteArray} {m1 m2 o:Nat} {ct:Int × Int} {w:World} {r:Sp.R α} {er:Nat × Nat} {e:Ending} {w':World} (hr:r=.error er) (h:Faulty s b w er e w'):PostG V b s m1 m2 o ct w r e w':=by
 rw [hr]; exact h
theorem good_postG {α:Type} {V:Int × Int→World→Value→α→Int × Int→Prop} {b:Nat} {s:ByteArray} {m1 m2 o:Nat} {ct ct':Int × Int} {w:World} {r:Sp.R α} {x:α} {l':Sp.Bs} {v:Value} {w':World} (hr:r=.ok (x,l')) (hv:V ct w' v x ct') (h:Rd b s m1 m2 l' o ct' w') (hx:Ext b w w'):PostG V b s m1 m2 o ct w r (.returned v) w':=by
 rw [hr]; exact ⟨v,rfl,ct',hv,h,hx⟩
def CondV {A:Sp.Alg} (Rp:Rep A) (ct:Int × Int) (_w:World) (v:Value) (c:Nat × A.S × A.S) (ct2:Int × Int):Prop :=
 ∃ tl ul tr ur ct1,v=.agg #[.int .i64 (c.1:Nat),.iface tl ul,.iface tr ur]∧c.1<6∧Rp.S ct (.iface tl ul) c.2.1 ct1∧Rp.S ct1 (.iface tr ur) c.2.2 ct2
theorem rels_look_none {m:Nat} {w:World} (h:RelsMap m w) (t:Sp.Bs) (ht:t.length≤400) (ho:Sp.relOf t=none) (k:Nat) :
  (Instr.lookup 143 (.map (some m)) (.string ⟨t.toArray⟩) true).run Tryz.prog (w.drewN k)=.ok (.tuple #[.int .i64 0,.bool false]) (w.drewN k):=by
 rw [rels_look (h.drewN k) t ht,ho]; rfl
theorem rels_look_some {m:Nat} {w:World} (h:RelsMap m w) (t:Sp.Bs) (ht:t.length≤400) {j:Nat} (ho:Sp.relOf t=some j) (k:Nat) :
  (Instr.lookup 143 (.map (some m)) (.string ⟨t.toArray⟩) true).run Tryz.prog (w.drewN k)=.ok (.tuple #[.int .i64 (j:Nat),.bool true]) (w.drewN k):=by
 rw [rels_look (h.drewN k) t ht,ho]; rfl
theorem relOf_lt {t:Sp.Bs} {k:Nat} (h:Sp.relOf t=some k):k<6:=by
 unfold Sp.relOf at h
 repeat' split at h
 all_goals first | (cases h; decide) | cases h
theorem set3_block {w:World} {N:Nat} {a0 a1 a2:Value} {t:TypeId} (h:w.heap[N]?=some (.cells #[a0,a1,a2] t)) (v0 v1 v2:Value) :
  (((w.setCell ⟨N,0,none⟩ v0).setCell ⟨N,1,none⟩ v1).setCell ⟨N,2,none⟩ v2).heap[N]?=some (.cells #[v0,v1,v2] t):=by
 rw [heap_setCell_at (heap_setCell_at (heap_setCell_at h 0 v0) 1 v1) 2 v2]
 rfl
theorem cond_calls {A:Sp.Alg} (Rp:Rep A) (b:Nat) (s:ByteArray) (m1 m2 o:Nat) (ho:o≤12) (l:Sp.Bs) (ct:Int × Int) (w:World) (h:Rd b s m1 m2 l o ct w) (hE:Env b m1 m2 w) :
  Calls Tryz.prog 205 #[.pointer (some ⟨b,0,none⟩)] w (PostG (CondV Rp) b s m1 m2 o ct w (Sp.pCond A o l)):=by
 have hw0:Hid (Rd b s m1 m2 l o ct (w.alloc (.cells #[.int .i64 0,.nilIface,.nilIface] 285))∧Env b m1 m2 (w.alloc (.cells #[.int .i64 0,.nilIface,.nilIface] 285))∧Ext b w (w.alloc (.cells #[.int .i64 0,.nilIface,.nilIface] 285))) :=
  ⟨h.ext _,hE.ext ((Ext.refl b w).alloc _),(Ext.refl b w).alloc _⟩
 have hlt:=h.lt
 cases hr:Sp.pS A o l with
 | error er =>
  have hfin:Hid (Sp.pCond A o l=.error er):=by unfold Hid Sp.pCond; rw [hr]
  go_enter Tryz.func205,Tryz.ntmps205
  go_wp2_with fail
  refine (sum_calls Rp b s m1 m2 o ho l ct _ hw0.out.1 hw0.out.2.1).mono ?_
  intro e w1 hp
  rw [hr] at hp
  obtain ⟨N,rfl,hf⟩:=hp
  exact ⟨rfl,bad_postG hfin.out (Faulty.ahead hw0.out.2.2 ⟨N,rfl,hf⟩)⟩
 | ok xl =>
  obtain ⟨x,l1⟩:=xl
  cases hq:Sp.relOf (Sp.tok l1) with
  | none =>
   have hfin:Hid (Sp.pCond A o l=.error (2,l1.length)):=by unfold Hid Sp.pCond; rw [hr]; simp only; rw [hq]; rfl
   go_enter Tryz.func205,Tryz.ntmps205
   go_wp2_with fail
   refine (sum_calls Rp b s m1 m2 o ho l ct _ hw0.out.1 hw0.out.2.1).mono ?_
   intro e w1 hp
   rw [hr] at hp
   obtain ⟨v,rfl,ct1,hv,h1,x1⟩:=hp
   have c3:=h1.c3
   have c8:=h1.c8
   have hE1:=hw0.out.2.1.ext x1
   have hlk:=rels_look_none hE1.rels (Sp.tok l1) h1.tokLen400 hq
   clear hr hq
   go_wp2_with fail
   go_quiet (fail)
   go_wp2_with fail
   refine (fault_calls (h1.drewN _) 2).mono ?_
   rintro e w2 ⟨rfl,rfl⟩
   go_wp2_with fail
   exact ⟨rfl,bad_postG hfin.out (Faulty.ahead ((hw0.out.2.2.trans x1).drewN _) (faulty_of (h1.drewN _) 2 2 rfl))⟩
  | some k =>
   have hk6:=relOf_lt hq
   cases hr2:Sp.pS A o (Sp.next l1) with
   | error er =>
    have hfin:Hid (Sp.pCond A o l=.error er):=by unfold Hid Sp.pCond; rw [hr]; simp only; rw [hq]; simp only; rw [hr2]
    go_enter Tryz.func205,Tryz.ntmps205
    go_wp2_with fail
    refine (sum_calls Rp b s m1 m2 o ho l ct _ hw0.out.1 hw0.out.2.1).mono ?_
    intro e w1 hp
    rw [hr] at hp
    obtain ⟨v,rfl,ct1,hv,h1,x1⟩:=hp
    have c3:=h1.c3
    have c8:=h1.c8
    have hE1:=hw0.out.2.1.ext x1
    have hlk:=rels_look_some hE1.rels (Sp.tok l1) h1.tokLen400 hq
    have HQ3:Hid (Sp.tokKind l1 ≠ 3):=kind_of_rel hq
    clear hr hq
    go_wp2_with fail
    go_quiet (fail)
    go_wp2_with fail
    refine (step_calls (h1.drewN _) HQ3.out).mono ?_
    rintro e w2 ⟨rfl,h2,x2⟩
    go_wp2_with fail
    refine (sum_calls Rp b s m1 m2 o ho (Sp.next l1) ct1 _ h2 (hE1.ext x2.undrewN)).mono ?_
    intro e w3 hp3
    rw [hr2] at hp3
    obtain ⟨N,rfl,hf⟩:=hp3
    exact ⟨rfl,bad_postG hfin.out (Faulty.ahead ((hw0.out.2.2.trans x1).trans x2.undrewN) ⟨N,rfl,hf⟩)⟩
   | ok yl =>
    obtain ⟨y,l2⟩:=yl
    have hfin:Hid (Sp.pCond A o l=.ok ((k,x,y),l2)):=by unfold Hid Sp.pCond; rw [hr]; simp only; rw [hq]; simp only; rw [hr2]
    go_enter Tryz.func205,Tryz.ntmps205
    go_wp2_with fail
    refine (sum_calls Rp b s m1 m2 o ho l ct _ hw0.out.1 hw0.out.2.1).mono ?_
    intro e w1 hp
    rw [hr] at hp
    obtain ⟨v,rfl,ct1,hv,h1,x1⟩:=hp
    obtain ⟨tl,ul,rfl⟩:=Rp.iface _ _ _ _ hv
    have HV:Hid (Rp.S ct (.iface tl ul) x ct1):=hv
    have c3:=h1.c3
    have c8:=h1.c8
    have hE1:=hw0.out.2.1.ext x1
    have hlk:=rels_look_some hE1.rels (Sp.tok l1) h1.tokLen400 hq
    have HQ3:Hid (Sp.tokKind l1 ≠ 3):=kind_of_rel hq
    clear hr hq hv
    go_wp2_with fail
    go_quiet (fail)
    go_wp2_with fail
    refine (step_calls (h1.drewN _) HQ3.out).mono ?_
    rintro e w2 ⟨rfl,h2,x2⟩
    go_wp2_with fail
    refine (sum_calls Rp b s m1 m2 o ho (Sp.next l1) ct1 _ h2 (hE1.ext x2.undrewN)).mono ?_
    intro e w3 hp3
    rw [hr2] at hp3
    obtain ⟨v3,rfl,ct2,hv3,h3,x3⟩:=hp3
    obtain ⟨tr,ur,rfl⟩:=Rp.iface _ _ _ _ hv3
    have HV3:Hid (Rp.S ct1 (.iface tr ur) y ct2):=hv3
    have hnb:=new_block ((x1.trans x2.undrewN).trans x3) hlt
    have k0:=cell_of hnb 0 (v:=.int .i64 0) rfl
    have k1:=cell_of hnb 1 (v:=.nilIface) rfl
    have k2:=cell_of hnb 2 (v:=.nilIface) rfl
    have f0:=frozen_of hnb 0
    have f1:=frozen_of hnb 1
    have f2:=frozen_of hnb 2
    clear hr2 hv3
    have hW:=set3_block hnb (.int .i64 (k:Nat)) (.iface tl ul) (.iface tr ur)
    have q0:=cell_of hW 0 (v:=.int .i64 (k:Nat)) rfl
    have q1:=cell_of hW 1 (v:=.iface tl ul) rfl
    have q2:=cell_of hW 2 (v:=.iface tr ur) rfl
    have HR:Hid (Rd b s m1 m2 l2 o ct2 (((w3.setCell ⟨w.heap.size,0,none⟩ (.int .i64 (k:Nat))).setCell ⟨w.heap.size,1,none⟩ (.iface tl ul)).setCell ⟨w.heap.size,2,none⟩ (.iface tr ur))) :=
     ((h3.set_other (p:=⟨w.heap.size,0,none⟩) (by show w.heap.size ≠ b; omega) (nn_of hnb (by decide)) _).set_other (p:=⟨w.heap.size,1,none⟩) (by show w.heap.size ≠ b; omega) (nn_set (nn_of hnb (by decide))) _).set_other (p:=⟨w.heap.size,2,none⟩) (by show w.heap.size ≠ b; omega) (nn_set (nn_set (nn_of hnb (by decide)))) _
    have HX:Hid (Ext b w (((w3.setCell ⟨w.heap.size,0,none⟩ (.int .i64 (k:Nat))).setCell ⟨w.heap.size,1,none⟩ (.iface tl ul)).setCell ⟨w.heap.size,2,none⟩ (.iface tr ur))) :=
     (((((hw0.out.2.2.trans x1).trans x2.undrewN).trans x3).setCell (p:=⟨w.heap.size,0,none⟩) (.inr (Nat.le_refl _)) _).setCell (p:=⟨w.heap.size,1,none⟩) (.inr (Nat.le_refl _)) _).setCell (p:=⟨w.heap.size,2,none⟩) (.inr (Nat.le_refl _)) _
    have Q0:Hid (_=_):=q0
    have Q1:Hid (_=_):=q1
    have Q2:Hid (_=_):=q2
    clear q0 q1 q2 hW
    go_wp2_with fail
    exact bodyPost_ret (v:=.agg #[.int .i64 (k:Nat),.iface tl ul,.iface tr ur]) (by simp [results,Tryz.results205,go_sem,Q0.out,Q1.out,Q2.out]) rfl (good_postG hfin.out ⟨tl,ul,tr,ur,ct1,rfl,hk6,HV,HV3⟩ HR HX)
end Go.Proofs.YtiopfihjmkfdmaaGreatDoor
namespace Go.Proofs.YtiopfihjmkfdmaaGreatDoor
open Go.RowKit
set_option maxRecDepth 100000
set_option maxHeartbeats 400000
def SameOn (lo hi:Nat) (w w':World):Prop:=∀ k,lo≤k→k<hi→¬ NumB w.heap[k]?→w'.heap[k]?=w.heap[k]?
theorem SameOn.refl (lo hi:Nat) (w:World):SameOn lo hi w w:=fun _ _ _ _=>rfl
theorem SameOn.trans {lo hi:Nat} {w1 w2 w3:World} (h:SameOn lo hi w1 w2) (k:SameOn lo hi w2 w3):SameOn lo hi w1 w3:=fun i h1 h2 hn=>(k i h1 h2 (by rw [h i h1 h2 hn]; exact hn)).trans (h i h1 h2 hn)
theorem Ext.sameOn {b lo hi:Nat} {w w':World} (h:Ext b w w') (hh:hi≤w.heap.size) (hb:b<lo∨hi≤b):SameOn lo hi w w' :=
 fun k h1 h2 hn=>h.block k (by omega) (by omega) (fun _=>hn)
abbrev ptUp (ct:Int × Int):Int × Int:=(RowKit.wrap64 (ct.1 + 1),ct.2)
abbrev siteUp (ct:Int × Int):Int × Int:=(ct.1,RowKit.wrap64 (ct.2 + 1))
def Blk {τ:Type} (T:Int × Int→Nat→Nat→World→Value→τ→Int × Int→Prop) (ct:Int × Int) (lo hi:Nat) (w:World) (v:Value) (xs:List τ) (ct':Int × Int):Prop :=
 ∃ (vs:List Value) (f:Nat→Int × Int),w.ownsRow lo 234 1 v xs.length vs∧(∀ g,v.ownBlock=some g→g<hi)∧(∀ (i:Nat) (u:Value) (x:τ),vs[i]?=some u→xs[i]?=some x→T (f i) lo hi w u x (f (i + 1)))∧f 0=ct∧f xs.length=ct'
structure RepT (A:Sp.Alg) (Rp:Rep A) where
 T:Int × Int→Nat→Nat→World→Value→A.T→Int × Int→Prop
 mono:∀ {ct ct':Int × Int} {lo hi lo' hi':Nat} {w w':World} {v:Value} {x:A.T},T ct lo hi w v x ct'→lo'≤lo→hi≤hi'→SameOn lo hi w w'→T ct lo' hi' w' v x ct'
 iface:∀ {ct ct':Int × Int} {lo hi:Nat} {w:World} {v:Value} {x:A.T},T ct lo hi w v x ct'→∃ t u,v=.iface t u
 assign:∀ (ct:Int × Int) (lo hi:Nat) (w:World) (k:Nat) (v:Value) (x:A.S) (ct':Int × Int),k<8→Rp.S (ptUp ct) v x ct'→T ct lo hi w (.iface 279 (.agg #[.int .i64 ct.1,.int .i64 (k:Nat),v])) (A.assign k x) ct'
 read:∀ (ct:Int × Int) (lo hi:Nat) (w:World) (k:Nat),k<8→T ct lo hi w (.iface 283 (.agg #[.int .i64 ct.1,.int .i64 (k:Nat)])) (A.read k) (ptUp ct)
 assert:∀ (ct:Int × Int) (lo hi:Nat) (w:World) (k:Nat) (v:Value) (x:A.S) (ct1:Int × Int) (u:Value) (y:A.S) (ct2:Int × Int),k<6→Rp.S (siteUp (ptUp ct)) v x ct1→Rp.S ct1 u y ct2→T ct lo hi w (.iface 287 (.agg #[.int .i64 ct.1,.int .i64 ct.2,.int .i64 (k:Nat),v,u])) (A.assert k x y) ct2
 ite:∀ (ct:Int × Int) (lo hi:Nat) (w:World) (k:Nat) (v:Value) (x:A.S) (ct1:Int × Int) (u:Value) (y:A.S) (ct2:Int × Int) (bv:Value) (xs:List A.T) (ct3:Int × Int),k<6→Rp.S (ptUp ct) v x ct1→Rp.S ct1 u y ct2→Blk T ct2 lo hi w bv xs ct3 →
  T ct lo hi w (.iface 290 (.agg #[.int .i64 ct.1,.int .i64 (k:Nat),v,u,bv,.slice none 0 0,.bool false])) (A.ite k x y xs none) ct3
 iteElse:∀ (ct:Int × Int) (lo hi:Nat) (w:World) (k:Nat) (v:Value) (x:A.S) (ct1:Int × Int) (u:Value) (y:A.S) (ct2:Int × Int) (bv:Value) (xs:List A.T) (ct3:Int × Int) (cv:Value) (ys:List A.T) (ct4:Int × Int),k<6→Rp.S (ptUp ct) v x ct1→Rp.S ct1 u y ct2→Blk T ct2 lo hi w bv xs ct3→Blk T ct3 lo hi w cv ys ct4 →
  T ct lo hi w (.iface 290 (.agg #[.int .i64 ct.1,.int .i64 (k:Nat),v,u,bv,cv,.bool true])) (A.ite k x y xs (some ys)) ct4
 loop:∀ (ct:Int × Int) (lo hi:Nat) (w:World) (k:Nat) (v:Value) (x:A.S) (ct1:Int × Int) (u:Value) (y:A.S) (ct2:Int × Int) (bv:Value) (xs:List A.T) (ct3:Int × Int),k<6→Rp.S (ptUp ct) v x ct1→Rp.S ct1 u y ct2→Blk T ct2 lo hi w bv xs ct3 →
  T ct lo hi w (.iface 293 (.agg #[.int .i64 ct.1,.int .i64 (k:Nat),v,u,bv])) (A.loop k x y xs) ct3
theorem ownsRow_same {lo lo' hi:Nat} {e:TypeId} {w w':World} {v:Value} {n:Nat} {vs:List Value} (h:w.ownsRow lo e 1 v n vs) (hl:lo'≤lo) (hg:∀ g,v.ownBlock=some g→g<hi) (hs:SameOn lo hi w w') (he:e ≠ 226:=by decide):w'.ownsRow lo' e 1 v n vs:=by
 obtain ⟨h1,h2⟩:=h
 refine ⟨h1,?_⟩
 rcases h2 with h2 | ⟨g,cap,cur,rfl,hb,hh,r⟩
 ·exact .inl h2
 ·exact .inr ⟨g,cap,cur,rfl,Nat.le_trans hl hb,by rw [hs g hb (hg g rfl) (nn_of hh he)]; exact hh,r⟩
theorem Blk.mono {A:Sp.Alg} {Rp:Rep A} (Rt:RepT A Rp) {ct ct':Int × Int} {lo hi lo' hi':Nat} {w w':World} {v:Value} {xs:List A.T} (h:Blk Rt.T ct lo hi w v xs ct') (hl:lo'≤lo) (hh:hi≤hi') (hs:SameOn lo hi w w'):Blk Rt.T ct lo' hi' w' v xs ct':=by
 obtain ⟨vs,f,h1,h2,h3,h4⟩:=h
 exact ⟨vs,f,ownsRow_same h1 hl h2 hs,fun g hg=>Nat.lt_of_lt_of_le (h2 g hg) hh,fun i u x hu hx=>Rt.mono (h3 i u x hu hx) hl hh hs,h4⟩
theorem Ext.grown {b:Nat} {a w w':World} {row:Option Nat} (h:Ext b a w) (hg:w.grownBy w' row) (hr:∀ k,row=some k→a.heap.size≤k):Ext b a w' :=
 ⟨hg.os.trans h.os,hg.tape.trans h.tape,hg.output.trans h.output,Nat.le_trans h.size hg.size,fun k hk hb hn=>(hg.block k (Nat.lt_of_lt_of_le hk h.size) (fun e=>by have:=hr k e.symm; omega)).trans (h.block k hk hb hn)⟩
theorem infoStatement:(Tryz.prog.info? 234).map (fun i=>(i.zero,i.size,i.bytes))=some (some .nilIface,1,16):=by kernel_rfl
def Elems {τ:Type} (T:Int × Int→Nat→Nat→World→Value→τ→Int × Int→Prop) (ct:Int × Int) (base:Nat) (w:World) (t:Value) (vs:List Value) (xs:List τ) (ct':Int × Int):Prop :=
 ∃ f:Nat→Int × Int,(∀ (i:Nat) (u:Value) (x:τ),vs[i]?=some u→xs[i]?=some x→∃ lo hi,base≤lo∧hi≤w.heap.size∧(∀ g,t.ownBlock=some g→g<lo∨hi≤g)∧T (f i) lo hi w u x (f (i + 1)))∧f 0=ct∧f xs.length=ct'
def StReads {A:Sp.Alg} {Rp:Rep A} (Rt:RepT A Rp) (f:Nat) (b:Nat) (s:ByteArray) (m1 m2 o n:Nat) (st:Sp.Bs→Sp.R A.T):Prop :=
 ∀ l ct w,l.length<n→Rd b s m1 m2 l o ct w→Env b m1 m2 w→Calls Tryz.prog f #[.pointer (some ⟨b,0,none⟩)] w (PostG (fun ct w' v x ct'=>Rt.T ct w.heap.size w'.heap.size w' v x ct') b s m1 m2 o ct w (st l))
theorem pMany_stop {A:Sp.Alg} {st:Sp.Bs→Sp.R A.T} {m:Nat} {xs:List A.T} {l:Sp.Bs} (h:¬ Sp.tokKind l=2):Sp.pMany A st m xs l=.ok (xs,l):=by
 cases m with
 | zero=>rfl
 | succ m=>unfold Sp.pMany; rw [if_neg h]
theorem ownsRow_ext {b base:Nat} {e:TypeId} {w w':World} {v:Value} {n:Nat} {vs:List Value} (h:w.ownsRow base e 1 v n vs) (x:Ext b w w') (hb:b<base) (he:e ≠ 226:=by decide):w'.ownsRow base e 1 v n vs:=by
 obtain ⟨h1,h2⟩:=h
 refine ⟨h1,?_⟩
 rcases h2 with h2 | ⟨g,cap,cur,rfl,hg,hh,r⟩
 ·exact .inl h2
 ·exact .inr ⟨g,cap,cur,rfl,hg,x.keep hh (by omega) (not_num he),r⟩
theorem ownsRow_lt {base:Nat} {e:TypeId} {w:World} {v:Value} {n:Nat} {vs:List Value} (h:w.ownsRow base e 1 v n vs):∀ g,v.ownBlock=some g→base≤g∧g<w.heap.size:=by
 intro g hg
 rcases h.2 with ⟨rfl,_⟩ | ⟨g',cap,cur,rfl,hb,hh,_⟩
 ·simp [Value.ownBlock] at hg
 ·simp [Value.ownBlock] at hg
  subst hg
  exact ⟨hb,heap_lt hh⟩
theorem row_nn {base:Nat} {e:TypeId} {w:World} {v:Value} {n:Nat} {vs:List Value} (h:w.ownsRow base e 1 v n vs) (he:e ≠ 226) {k:Nat} (hk:v.ownBlock=some k):¬ NumB w.heap[k]?:=by
 rcases h.2 with ⟨rfl,_⟩ | ⟨g',cap,cur,rfl,hb,hh,_⟩
 ·simp [Value.ownBlock] at hk
 ·simp [Value.ownBlock] at hk
  subst hk
  exact nn_of hh he
theorem elems_blk {A:Sp.Alg} {Rp:Rep A} (Rt:RepT A Rp) {ct ct':Int × Int} {base:Nat} {w:World} {t:Value} {vs:List Value} {xs:List A.T} (h:w.ownsRow base 234 1 t xs.length vs) (he:Elems Rt.T ct base w t vs xs ct'):Blk Rt.T ct base w.heap.size w t xs ct':=by
 obtain ⟨f,he,h0,h1⟩:=he
 refine ⟨vs,f,h,fun g hg=>(ownsRow_lt h g hg).2,fun i u x hu hx=>?_,h0,h1⟩
 obtain ⟨lo,hi,h1,h2,_,h4⟩:=he i u x hu hx
 exact Rt.mono h4 h1 h2 (SameOn.refl _ _ _)
theorem elems_push {A:Sp.Alg} {Rp:Rep A} (Rt:RepT A Rp) {ct ct1 ct2:Int × Int} {b base:Nat} {wr w1 w2:World} {t v' u:Value} {vs:List Value} {xs:List A.T} {x:A.T}
  (ho:wr.ownsRow base 234 1 t xs.length vs) (he:Elems Rt.T ct base wr t vs xs ct1) (hb:b<base) (hbase:base≤wr.heap.size) (x1:Ext b wr w1) (hv:Rt.T ct1 wr.heap.size w1.heap.size w1 u x ct2) (hg:w1.grownBy w2 t.ownBlock)
  (hat:v'.ownBlock=t.ownBlock∨v'.ownBlock=some (w1.heap.size + 1)):Elems Rt.T ct base w2 v' (vs ++ [u]) (xs ++ [x]) ct2:=by
 have hlen:vs.length=xs.length:=by simpa using ho.1
 have hs1:=x1.size
 have hs2:=hg.size
 obtain ⟨f,he,h0,hf⟩:=he
 refine ⟨fun i=>if i≤xs.length then f i else ct2,?_,by simp [h0],by simp; omega⟩
 intro i u' x' hu hx
 show ∃ lo hi,base≤lo∧hi≤w2.heap.size∧(∀ g,v'.ownBlock=some g→g<lo∨hi≤g)∧Rt.T (if i≤xs.length then f i else ct2) lo hi w2 u' x' (if i + 1≤xs.length then f (i + 1) else ct2)
 by_cases hi:i<vs.length
 ·rw [List.getElem?_append_left hi] at hu
  rw [List.getElem?_append_left (by omega)] at hx
  obtain ⟨lo,hi',h1,h2,h3,h4⟩:=he i u' x' hu hx
  rw [if_pos (by omega),if_pos (by omega)]
  refine ⟨lo,hi',h1,by omega,fun g hg'=>?_,Rt.mono h4 (Nat.le_refl _) (Nat.le_refl _) ?_⟩
  ·rcases hat with hat | hat
   ·exact h3 g (by rw [← hat]; exact hg')
   ·rw [hat] at hg'; cases hg'; exact .inr (by omega)
  ·intro k hk1 hk2 hn
   rw [hg.block k (by omega) (fun e=>by rcases h3 k e.symm with h | h <;> omega)]
   exact x1.block k (by omega) (by omega) (fun _=>hn)
 ·have e:i=vs.length:=by
   have:=(List.getElem?_eq_some_iff.1 hu).1
   simp at this
   omega
  subst e
  rw [List.getElem?_append_right (Nat.le_refl _)] at hu
  rw [hlen,List.getElem?_append_right (Nat.le_refl _)] at hx
  simp at hu hx
  subst hu hx
  rw [if_pos (by omega),if_neg (by omega),hlen,hf]
  refine ⟨wr.heap.size,w1.heap.size,hbase,hs2,fun g hg'=>?_,Rt.mono hv (Nat.le_refl _) (Nat.le_refl _) ?_⟩
  ·rcases hat with hat | hat
   ·exact .inl (ownsRow_lt ho g (by rw [← hat]; exact hg')).2
   ·rw [hat] at hg'; cases hg'; exact .inr (by omega)
  ·intro k hk1 hk2 _
   exact hg.block k hk2 (fun e=>by have:=(ownsRow_lt ho k e.symm).2; omega)
theorem statements_calls {A:Sp.Alg} {Rp:Rep A} (Rt:RepT A Rp) (b:Nat) (s:ByteArray) (m1 m2 o n:Nat) (st:Sp.Bs→Sp.R A.T) (hdec:Hid (∀ l x l1,st l=.ok (x,l1)→l1.length<l.length))
  (hst:StReads Rt 122 b s m1 m2 o n st) (l:Sp.Bs) (ct:Int × Int) (w:World) (hl:l.length<n) (h:Rd b s m1 m2 l o ct w) (hE:Env b m1 m2 w) :
  Calls Tryz.prog 89 #[.pointer (some ⟨b,0,none⟩)] w (PostG (fun ct w' v xs ct'=>Blk Rt.T ct w.heap.size w'.heap.size w' v xs ct') b s m1 m2 o ct w (Sp.pMany A st (l.length + 1) [] l)):=by
 obtain ⟨i0,hi,hz0,hz1,hz2⟩:=info_parts infoStatement
 have hlt:=h.lt
 have hl400:l.length≤400:=by have:=h.len; have:=h.sz; omega
 go_enter Tryz.func89,Tryz.ntmps89
 go_wp2_with fail
 go_loopw [3] (fun t wr=>∃ (xs:List A.T) (vs:List Value) (l':Sp.Bs) (m:Nat) (ct':Int × Int),Hid (wr.ownsRow w.heap.size 234 1 t xs.length vs∧Elems Rt.T ct w.heap.size wr t vs xs ct')∧Hid (l'.length<m∧xs.length + l'.length≤l.length∧Sp.pMany A st (l.length + 1) [] l=Sp.pMany A st m xs l')∧Hid (Rd b s m1 m2 l' o ct' wr∧Env b m1 m2 wr∧Ext b w wr)) (fun _ wr=>restOf b s wr)
 case atStart=>exact ⟨[],[],l,l.length + 1,ct,⟨World.ownsRow_nil _ _ _ _,fun _=>ct,fun i u x hu=>by simp at hu,rfl,rfl⟩,⟨Nat.lt_succ_self _,by simp,rfl⟩,h,hE,Ext.refl _ _⟩
 case round =>
  obtain ⟨xs,vs,l',m,ct',ho',hm',hs'⟩:=hrel
  have c2:=hs'.out.1.c2
  by_cases hk:Sp.tokKind l'=2
  ·have c2':wr.cell? ⟨b,2,none⟩=some (.int .i64 2):=by rw [c2,hk]; rfl
   have HK:Hid (Sp.tokKind l'=2):=hk
   clear c2 hk
   go_wp2_with fail
   have hlen':l'.length<n:=by have:=hm'.out.2.1; omega
   refine (hst l' ct' wr hlen' hs'.out.1 hs'.out.2.1).mono ?_
   intro e w1 hp
   cases hr:st l' with
   | error er =>
    rw [hr] at hp
    obtain ⟨N,rfl,hf⟩:=hp
    have hfin:Sp.pMany A st (l.length + 1) [] l=.error er:=by
     rw [hm'.out.2.2]
     cases m with
     | zero=>exact absurd hm'.out.1 (by omega)
     | succ m=>unfold Sp.pMany; rw [if_pos HK.out,hr]
    exact ⟨rfl,bad_postG hfin (Faulty.ahead hs'.out.2.2 ⟨N,rfl,hf⟩)⟩
   | ok xl =>
    obtain ⟨x,l1⟩:=xl
    rw [hr] at hp
    obtain ⟨v,rfl,ct1,hv,h1,x1⟩:=hp
    obtain ⟨tv,uv,rfl⟩:=Rt.iface hv
    have HV:Hid (Rt.T ct' wr.heap.size w1.heap.size w1 (.iface tv uv) x ct1):=hv
    have HR:Hid (st l'=.ok (x,l1)):=hr
    have hown:Hid (w1.ownsRow w.heap.size 234 1 u3 xs.length vs) :=
     ownsRow_ext ho'.out.1 x1 hlt
    clear hv hr
    go_wp2_with (first
     | (at_builtin; refine wpList_append_own_at _ rfl _ _ 82 rfl w.heap.size 234 i0 .nilIface 1 16 Tryz.underlying82 hi hz0 hz1 hz2 rfl (by decide) _ _ _ rfl (hown.out.alloc _) ⟨w1.heap.size,0,none⟩ 1 1 [.iface tv uv] rfl rfl (cell_one_new _ _ _) ?q1 ?q2 ?q3 ?q4 ?_))
    case q1=>intro u hu; simp at hu; subst hu; rfl
    case q2=>have:=hm'.out.2.1; unfold maxLen; omega
    case q3=>have:=hm'.out.2.1; omega
    case q4=>have:=hs'.out.2.2.size; have:=x1.size; simp; omega
    intro v' w2 hown2 hgrow2 hnil2 hat2
    have hg2:=grown_alloc hgrow2
    have hrow:∀ k,Value.ownBlock u3=some k→w.heap.size≤k:=fun k hk=>(ownsRow_lt ho'.out.1 k hk).1
    have hbase:w.heap.size≤wr.heap.size:=hs'.out.2.2.size
    have hel:Elems Rt.T ct w.heap.size w2 v' (vs ++ [.iface tv uv]) (xs ++ [x]) ct1 :=
     elems_push Rt ho'.out.1 ho'.out.2 hlt hbase x1 HV.out hg2 (by simpa using hat2)
    have hx2:Ext b w w2:=(hs'.out.2.2.trans x1).grown hg2 hrow
    have hrd2:Rd b s m1 m2 l1 o ct1 w2:=h1.keep (hg2.block b h1.lt (fun e=>by have:=hrow b e.symm; omega)) (fun k _ hk hnb=>hg2.block k hk (fun e=>row_nn hown.out (by decide) e.symm hnb))
    have hd:=hdec.out _ _ _ HR.out
    have hrest:restOf b s w2<restOf b s wr:=by rw [hrd2.rest,hs'.out.1.rest]; exact hd
    have A1:Hid (w2.ownsRow w.heap.size 234 1 v' (xs ++ [x]).length (vs ++ [.iface tv uv])∧Elems Rt.T ct w.heap.size w2 v' (vs ++ [.iface tv uv]) (xs ++ [x]) ct1):=⟨by simpa using hown2,hel⟩
    have A2:Hid (l1.length<m - 1∧(xs ++ [x]).length + l1.length≤l.length∧Sp.pMany A st (l.length + 1) [] l=Sp.pMany A st (m - 1) (xs ++ [x]) l1):=by
     have h1:=hm'.out.1
     have h2:=hm'.out.2.1
     refine ⟨by omega,by simp; omega,?_⟩
     rw [hm'.out.2.2]
     cases m with
     | zero=>omega
     | succ m =>
      conv=>lhs; unfold Sp.pMany
      rw [if_pos HK.out,HR.out]
      rfl
    have A3:Hid (Rd b s m1 m2 l1 o ct1 w2∧Env b m1 m2 w2∧Ext b w w2):=⟨hrd2,hE.ext hx2,hx2⟩
    clear hown2 hgrow2 hnil2 hat2 hg2 hel
    go_wp2_with fail
    exact ⟨⟨_,_,_,_,_,A1,A2,A3⟩,hrest⟩
  ·have n2:¬ (((Sp.tokKind l':Nat):Int)=2):=by omega
   have b2:(((Sp.tokKind l':Nat):Int) == 2)=false:=by simpa using n2
   have hfin:Hid (Sp.pMany A st (l.length + 1) [] l=.ok (xs,l')):=by
    unfold Hid; rw [hm'.out.2.2,pMany_stop hk]
   have hblk:Hid (Blk Rt.T ct w.heap.size wr.heap.size wr u3 xs ct'):=elems_blk Rt ho'.out.1 ho'.out.2
   clear hk
   generalize Sp.tokKind l'=kd at *
   go_wp2_with fail
   go_ret
   exact good_postG hfin.out hblk hs'.out.1 hs'.out.2.2
end Go.Proofs.YtiopfihjmkfdmaaGreatDoor
namespace Go.Proofs.YtiopfihjmkfdmaaGreatDoor
open Go.RowKit
set_option maxRecDepth 100000
set_option maxHeartbeats 400000
def BlkReads {A:Sp.Alg} {Rp:Rep A} (Rt:RepT A Rp) (b:Nat) (s:ByteArray) (m1 m2 o n:Nat) (blk:Sp.Bs→Sp.R (List A.T)):Prop :=
 ∀ l ct w,l.length<n→Rd b s m1 m2 l o ct w→Env b m1 m2 w→Calls Tryz.prog 206 #[.pointer (some ⟨b,0,none⟩)] w (PostG (fun ct w' v xs ct'=>Blk Rt.T ct w.heap.size w'.heap.size w' v xs ct') b s m1 m2 o ct w (blk l))
theorem block_reads {A:Sp.Alg} {Rp:Rep A} (Rt:RepT A Rp) (b:Nat) (s:ByteArray) (m1 m2 o n:Nat) (ho:o≤12) (st:Sp.Bs→Sp.R A.T) (hdec:∀ l x l1,st l=.ok (x,l1)→l1.length<l.length)
  (hst:o<12→StReads Rt 122 b s m1 m2 (o + 1) n st):BlkReads Rt b s m1 m2 o (n + 1) (Sp.pBlock A st o):=by
 intro l ct w hl h hE
 have hlt:=h.lt
 by_cases ht:Sp.tok l=[123]
 ·by_cases h12:o=12
  ·subst h12
   have hr:Hid (Sp.pBlock A st 12 l=.error (3,l.length)):=by
    unfold Hid Sp.pBlock Sp.enter; rw [if_pos ht,if_pos rfl]; rfl
   go_enter Tryz.func206,Tryz.ntmps206
   go_wp2_with fail
   refine (enter_deep h [123] ht).mono ?_
   rintro e w1 ⟨N,rfl,hf⟩
   exact ⟨rfl,bad_postG hr.out ⟨N,rfl,hf⟩⟩
  ·have hen:Sp.enter [123] o l=.ok (Sp.next l):=by unfold Sp.enter; rw [if_pos ht,if_neg h12]
   have hnl:=Sp.next_lt_of_tok ht (by simp)
   have hs:=hst (by omega)
   cases hr:Sp.pMany A st ((Sp.next l).length + 1) [] (Sp.next l) with
   | error er =>
    have hfin:Hid (Sp.pBlock A st o l=.error er):=by unfold Hid Sp.pBlock; rw [hen]; simp only; rw [hr]
    go_enter Tryz.func206,Tryz.ntmps206
    go_wp2_with fail
    refine (enter_ok h (by omega) [123] ht).mono ?_
    rintro e w1 ⟨rfl,h1,x1⟩
    go_wp2_with fail
    refine (statements_calls Rt b s m1 m2 (o + 1) n st hdec hs (Sp.next l) ct w1 (by omega) h1 (hE.ext x1)).mono ?_
    intro e w2 hp
    rw [hr] at hp
    obtain ⟨N,rfl,hf⟩:=hp
    exact ⟨rfl,bad_postG hfin.out (Faulty.ahead x1 ⟨N,rfl,hf⟩)⟩
   | ok xl =>
    obtain ⟨xs,l2⟩:=xl
    by_cases hsh:Sp.tok l2=[125]
    ·have hfin:Hid (Sp.pBlock A st o l=.ok (xs,Sp.next l2)):=by unfold Hid Sp.pBlock; rw [hen]; simp only; rw [hr]; simp only; unfold Sp.take; rw [if_pos hsh]
     go_enter Tryz.func206,Tryz.ntmps206
     go_wp2_with fail
     refine (enter_ok h (by omega) [123] ht).mono ?_
     rintro e w1 ⟨rfl,h1,x1⟩
     go_wp2_with fail
     refine (statements_calls Rt b s m1 m2 (o + 1) n st hdec hs (Sp.next l) ct w1 (by omega) h1 (hE.ext x1)).mono ?_
     intro e w2 hp
     rw [hr] at hp
     obtain ⟨v,rfl,ct1,hv,h2,x2⟩:=hp
     have HV:Hid (Blk Rt.T ct w1.heap.size w2.heap.size w2 v xs ct1):=hv
     clear hv hr
     go_wp2_with fail
     refine (take_ok h2 [125] hsh).mono ?_
     rintro e w3 ⟨rfl,h3,x3⟩
     have c4:w3.cell? ⟨b,4,none⟩=some (.int .i64 ((o:Int) + 1)):=h3.c4
     have f4:=h3.fz 4
     have hsh:=rd_open h3 o (o:Int) rfl
     have HS:Hid (Rd b s m1 m2 (Sp.next l2) o ct1 (w3.setCell ⟨b,4,none⟩ (.int .i64 (o:Int)))∧Ext b w3 (w3.setCell ⟨b,4,none⟩ (.int .i64 (o:Int)))):=hsh
     clear hsh
     have HB:Hid (Blk Rt.T ct w.heap.size (w3.setCell ⟨b,4,none⟩ (.int .i64 (o:Int))).heap.size (w3.setCell ⟨b,4,none⟩ (.int .i64 (o:Int))) v xs ct1) :=
      Blk.mono Rt HV.out x1.size (by have:=x3.size; simp [World.setCell]; omega) ((x3.trans HS.out.2).sameOn (Nat.le_refl _) (.inl (by have:=x1.size; omega)))
     go_wp2_with fail
     go_ret
     exact good_postG hfin.out HB HS.out.1 (((x1.trans x2).trans x3).trans HS.out.2)
    ·have hfin:Hid (Sp.pBlock A st o l=.error (2,l2.length)):=by unfold Hid Sp.pBlock; rw [hen]; simp only; rw [hr]; simp only; unfold Sp.take; rw [if_neg hsh]; rfl
     go_enter Tryz.func206,Tryz.ntmps206
     go_wp2_with fail
     refine (enter_ok h (by omega) [123] ht).mono ?_
     rintro e w1 ⟨rfl,h1,x1⟩
     go_wp2_with fail
     refine (statements_calls Rt b s m1 m2 (o + 1) n st hdec hs (Sp.next l) ct w1 (by omega) h1 (hE.ext x1)).mono ?_
     intro e w2 hp
     rw [hr] at hp
     obtain ⟨v,rfl,ct1,hv,h2,x2⟩:=hp
     clear hv hr
     go_wp2_with fail
     refine (take_bad h2 [125] hsh).mono ?_
     rintro e w3 ⟨N,rfl,hf⟩
     exact ⟨rfl,bad_postG hfin.out (Faulty.ahead (x1.trans x2) ⟨N,rfl,hf⟩)⟩
 ·have hr:Hid (Sp.pBlock A st o l=.error (2,l.length)):=by
   unfold Hid Sp.pBlock Sp.enter; rw [if_neg ht]; rfl
  go_enter Tryz.func206,Tryz.ntmps206
  go_wp2_with fail
  refine (enter_bad h [123] ht).mono ?_
  rintro e w1 ⟨N,rfl,hf⟩
  exact ⟨rfl,bad_postG hr.out ⟨N,rfl,hf⟩⟩
end Go.Proofs.YtiopfihjmkfdmaaGreatDoor
namespace Go.Proofs.YtiopfihjmkfdmaaGreatDoor
open Go.RowKit
set_option maxRecDepth 100000
set_option maxHeartbeats 400000
def StPost {A:Sp.Alg} {Rp:Rep A} (Rt:RepT A Rp) (b:Nat) (s:ByteArray) (m1 m2 o:Nat) (ct:Int × Int) (w:World) (r:Sp.R A.T):Ending→World→Prop :=
 PostG (fun ct w' v x ct'=>Rt.T ct w.heap.size w'.heap.size w' v x ct') b s m1 m2 o ct w r
theorem nameVal_lt {l:Sp.Bs} {k:Nat} (h:Sp.nameVal l=some k):k<8:=by obtain ⟨c,_,_,h1,h2,rfl⟩:=nameVal_some h; omega
theorem take_yes {t l:Sp.Bs} (h:Sp.tok l=t):Sp.take t l=.ok (Sp.next l):=by unfold Sp.take; rw [if_pos h]
theorem take_no {t l:Sp.Bs} (h:¬ Sp.tok l=t):Sp.take t l=.error (2,l.length):=by unfold Sp.take; rw [if_neg h]; rfl
theorem pName_none' {l:Sp.Bs} (h:Sp.nameVal l=none):Sp.pName l=.error (2,l.length):=by unfold Sp.pName; rw [h]; rfl
theorem pName_some' {l:Sp.Bs} {k:Nat} (h:Sp.nameVal l=some k):Sp.pName l=.ok (k,Sp.next l):=by unfold Sp.pName; rw [h]
theorem assign_calls {A:Sp.Alg} {Rp:Rep A} (Rt:RepT A Rp) (b:Nat) (s:ByteArray) (m1 m2 o:Nat) (ho:o≤12) (l:Sp.Bs) (ct:Int × Int) (w:World) (h:Rd b s m1 m2 l o (ptUp ct) w) (hE:Env b m1 m2 w) :
  Calls Tryz.prog 168 #[.pointer (some ⟨b,0,none⟩),.int .i64 ct.1] w (StPost Rt b s m1 m2 o ct w (Sp.pAssign A o l)):=by
 cases hn:Sp.nameVal l with
 | none =>
  have hfin:Hid (Sp.pAssign A o l=.error (2,l.length)):=by unfold Hid Sp.pAssign; rw [pName_none' hn]
  go_enter Tryz.func168,Tryz.ntmps168
  go_wp2_with fail
  refine (name_bad h hn).mono ?_
  rintro e w1 ⟨N,rfl,hf⟩
  exact ⟨rfl,bad_postG hfin.out ⟨N,rfl,hf⟩⟩
 | some k =>
  have hk:=nameVal_lt hn
  have e1:=pName_some' hn
  by_cases ht:Sp.tok (Sp.next l)=[61]
  ·have e2:=take_yes ht
   cases hr:Sp.pS A o (Sp.next (Sp.next l)) with
   | error er =>
    have hfin:Hid (Sp.pAssign A o l=.error er):=by unfold Hid Sp.pAssign; rw [e1]; simp only; rw [e2]; simp only; rw [hr]
    clear e1 e2
    go_enter Tryz.func168,Tryz.ntmps168
    go_wp2_with fail
    refine (name_ok h hn).mono ?_
    rintro e w1 ⟨rfl,h1,x1⟩
    go_wp2_with fail
    refine (take_ok h1 [61] ht).mono ?_
    rintro e w2 ⟨rfl,h2,x2⟩
    go_wp2_with fail
    refine (sum_calls Rp b s m1 m2 o ho _ (ptUp ct) w2 h2 ((hE.ext x1).ext x2)).mono ?_
    intro e w3 hp
    rw [hr] at hp
    obtain ⟨N,rfl,hf⟩:=hp
    exact ⟨rfl,bad_postG hfin.out (Faulty.ahead (x1.trans x2) ⟨N,rfl,hf⟩)⟩
   | ok xl =>
    obtain ⟨x,l3⟩:=xl
    by_cases hs:Sp.tok l3=[59]
    ·have hfin:Hid (Sp.pAssign A o l=.ok (A.assign k x,Sp.next l3)):=by unfold Hid Sp.pAssign; rw [e1]; simp only; rw [e2]; simp only; rw [hr]; simp only; rw [take_yes hs]
     clear e1 e2
     go_enter Tryz.func168,Tryz.ntmps168
     go_wp2_with fail
     refine (name_ok h hn).mono ?_
     rintro e w1 ⟨rfl,h1,x1⟩
     go_wp2_with fail
     refine (take_ok h1 [61] ht).mono ?_
     rintro e w2 ⟨rfl,h2,x2⟩
     go_wp2_with fail
     refine (sum_calls Rp b s m1 m2 o ho _ (ptUp ct) w2 h2 ((hE.ext x1).ext x2)).mono ?_
     intro e w3 hp
     rw [hr] at hp
     obtain ⟨v,rfl,ct1,hv,h3,x3⟩:=hp
     obtain ⟨tv,uv,rfl⟩:=Rp.iface _ _ _ _ hv
     have HV:Hid (Rp.S (ptUp ct) (.iface tv uv) x ct1):=hv
     clear hv hr
     go_wp2_with fail
     refine (take_ok h3 [59] hs).mono ?_
     rintro e w4 ⟨rfl,h4,x4⟩
     go_wp2_with fail
     go_ret
     exact good_postG hfin.out (Rt.assign ct _ _ _ k _ _ ct1 hk HV.out) h4 (((x1.trans x2).trans x3).trans x4)
    ·have hfin:Hid (Sp.pAssign A o l=.error (2,l3.length)):=by unfold Hid Sp.pAssign; rw [e1]; simp only; rw [e2]; simp only; rw [hr]; simp only; rw [take_no hs]
     clear e1 e2
     go_enter Tryz.func168,Tryz.ntmps168
     go_wp2_with fail
     refine (name_ok h hn).mono ?_
     rintro e w1 ⟨rfl,h1,x1⟩
     go_wp2_with fail
     refine (take_ok h1 [61] ht).mono ?_
     rintro e w2 ⟨rfl,h2,x2⟩
     go_wp2_with fail
     refine (sum_calls Rp b s m1 m2 o ho _ (ptUp ct) w2 h2 ((hE.ext x1).ext x2)).mono ?_
     intro e w3 hp
     rw [hr] at hp
     obtain ⟨v,rfl,ct1,hv,h3,x3⟩:=hp
     clear hv hr
     go_wp2_with fail
     refine (take_bad h3 [59] hs).mono ?_
     rintro e w4 ⟨N,rfl,hf⟩
     exact ⟨rfl,bad_postG hfin.out (Faulty.ahead ((x1.trans x2).trans x3) ⟨N,rfl,hf⟩)⟩
  ·have hfin:Hid (Sp.pAssign A o l=.error (2,(Sp.next l).length)):=by unfold Hid Sp.pAssign; rw [e1]; simp only; rw [take_no ht]
   clear e1
   go_enter Tryz.func168,Tryz.ntmps168
   go_wp2_with fail
   refine (name_ok h hn).mono ?_
   rintro e w1 ⟨rfl,h1,x1⟩
   go_wp2_with fail
   refine (take_bad h1 [61] ht).mono ?_
   rintro e w2 ⟨N,rfl,hf⟩
   exact ⟨rfl,bad_postG hfin.out (Faulty.ahead x1 ⟨N,rfl,hf⟩)⟩
theorem read_calls {A:Sp.Alg} {Rp:Rep A} (Rt:RepT A Rp) (b:Nat) (s:ByteArray) (m1 m2 o:Nat) (l:Sp.Bs) (ct:Int × Int) (w:World) (h:Rd b s m1 m2 l o (ptUp ct) w) (ht:Sp.tok l=Sp.wRead) :
  Calls Tryz.prog 164 #[.pointer (some ⟨b,0,none⟩),.int .i64 ct.1] w (StPost Rt b s m1 m2 o ct w (Sp.pRead A l)):=by
 cases hn:Sp.nameVal (Sp.next l) with
 | none =>
  have hfin:Hid (Sp.pRead A l=.error (2,(Sp.next l).length)):=by unfold Hid Sp.pRead; rw [pName_none' hn]
  go_enter Tryz.func164,Tryz.ntmps164
  go_wp2_with fail
  refine (take_ok h [114,101,97,100] ht).mono ?_
  rintro e w1 ⟨rfl,h1,x1⟩
  go_wp2_with fail
  refine (name_bad h1 hn).mono ?_
  rintro e w2 ⟨N,rfl,hf⟩
  exact ⟨rfl,bad_postG hfin.out (Faulty.ahead x1 ⟨N,rfl,hf⟩)⟩
 | some k =>
  have hk:=nameVal_lt hn
  have e1:=pName_some' hn
  by_cases hs:Sp.tok (Sp.next (Sp.next l))=[59]
  ·have hfin:Hid (Sp.pRead A l=.ok (A.read k,Sp.next (Sp.next (Sp.next l)))):=by unfold Hid Sp.pRead; rw [e1]; simp only; rw [take_yes hs]
   clear e1
   go_enter Tryz.func164,Tryz.ntmps164
   go_wp2_with fail
   refine (take_ok h [114,101,97,100] ht).mono ?_
   rintro e w1 ⟨rfl,h1,x1⟩
   go_wp2_with fail
   refine (name_ok h1 hn).mono ?_
   rintro e w2 ⟨rfl,h2,x2⟩
   go_wp2_with fail
   refine (take_ok h2 [59] hs).mono ?_
   rintro e w3 ⟨rfl,h3,x3⟩
   go_wp2_with fail
   go_ret
   exact good_postG hfin.out (Rt.read ct _ _ _ k hk) h3 ((x1.trans x2).trans x3)
  ·have hfin:Hid (Sp.pRead A l=.error (2,(Sp.next (Sp.next l)).length)):=by unfold Hid Sp.pRead; rw [e1]; simp only; rw [take_no hs]
   clear e1
   go_enter Tryz.func164,Tryz.ntmps164
   go_wp2_with fail
   refine (take_ok h [114,101,97,100] ht).mono ?_
   rintro e w1 ⟨rfl,h1,x1⟩
   go_wp2_with fail
   refine (name_ok h1 hn).mono ?_
   rintro e w2 ⟨rfl,h2,x2⟩
   go_wp2_with fail
   refine (take_bad h2 [59] hs).mono ?_
   rintro e w3 ⟨N,rfl,hf⟩
   exact ⟨rfl,bad_postG hfin.out (Faulty.ahead (x1.trans x2) ⟨N,rfl,hf⟩)⟩
end Go.Proofs.YtiopfihjmkfdmaaGreatDoor
