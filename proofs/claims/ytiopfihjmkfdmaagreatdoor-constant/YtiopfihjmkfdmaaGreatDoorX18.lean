import Derived.Test.YtiopfihjmkfdmaaGreatDoorX14
import Derived.Test.YtiopfihjmkfdmaaGreatDoorX17
namespace Go.Proofs.YtiopfihjmkfdmaaGreatDoor
open Go.RowKit
set_option maxRecDepth 100000
set_option maxHeartbeats 2000000
def StRuns (lo hi:Nat) (w0:World) (v:Value) (F:Sp.Rst→Sp.Out):Prop :=
 ∀ (w:World) (base b:Nat) (r:Sp.Rst),SameOn lo hi w0 w→hi≤base→RunAt base b 0 r w→Calls Tryz.prog 102 #[.pointer (some ⟨b,0,none⟩),v] w (OutPost base b w (F r))
theorem below_drew1 (w:World):Below w.heap.size w w.drew:=(Below.refl _ _).drew
theorem assign_runs (p:Int) (lo hi:Nat) (w0:World) (k:Nat) (hk:k<8) (tv:TypeId) (uv:Value) (f:Sp.Ev) (hf:SumRuns (.iface tv uv) f) :
  StRuns lo hi w0 (.iface 279 (.agg #[.int .i64 p,.int .i64 (k:Nat),.iface tv uv])) (Sp.doAssign k f):=by
 have hcall:∀ (w:World) (base b:Nat) (r:Sp.Rst),RunAt base b 0 r w→Calls Tryz.prog 136 #[.pointer (some ⟨b,0,none⟩),.agg #[.int .i64 p,.int .i64 (k:Nat),.iface tv uv]] w (OutPost base b w (Sp.doAssign k f r)):=by
  intro w base b r h
  have hk':(k:Int)<8:=by omega
  have kw:=RKeep.of_below (b:=b) (below_alloc1 w (.cells #[.int .i64 p,.int .i64 (k:Nat),.iface tv uv] 279)) h.le
  have h1:=hf base b r _ (h.below (below_alloc1 w (.cells #[.int .i64 p,.int .i64 (k:Nat),.iface tv uv] 279)))
  have hn:=heap_alloc_new w (.cells #[.int .i64 p,.int .i64 (k:Nat),.iface tv uv] 279)
  have hnb:w.heap.size ≠ b:=by have:=h.lt; omega
  have HN:Hid (_=_):=hn
  clear hn
  cases ef:f r.st with
  | error s =>
   rw [ef] at h1
   have E:Hid (Sp.doAssign k f r=(r,some s)):=by unfold Hid Sp.doAssign; rw [ef]
   go_enter Tryz.func136,Tryz.ntmps136
   go_wp2_with fail
   refine h1.mono ?_
   rintro e w1 ⟨m,rfl,r1,k1⟩
   go_wp2_with fail
   go_ret
   rw [E.out]
   exact ⟨rfl,r1,kw.trans k1⟩
  | ok n =>
   rw [ef] at h1
   have E:Hid (Sp.doAssign k f r=(Sp.put k n r,none)):=by unfold Hid Sp.doAssign; rw [ef]
   go_enter Tryz.func136,Tryz.ntmps136
   go_wp2_with fail
   refine h1.mono ?_
   rintro e w1 ⟨rfl,r1,k1⟩
   have hn1:=k1.cell HN.out hnb (by decide)
   have c1:=cell_of hn1 1 (v:=.int .i64 (k:Nat)) rfl
   obtain ⟨⟨x,cx⟩,fx⟩:=r1.storeCell k hk
   have r2:=(r1.below (below_drew1 w1)).put k hk n
   have R2:Hid (_∧_):=r2
   have K1:Hid (RKeep base b w w1.drew):=(kw.trans k1).drew
   clear r2 hn1
   go_wp2_with fail
   go_region_with (fail)
   all_goals
    go_wp2_with fail
    go_ret
    rw [E.out]
    exact ⟨rfl,R2.out.1,K1.out.trans R2.out.2⟩
 intro w base b r _ _ h
 have h1:=ts_1_1 (.agg #[.int .i64 p,.int .i64 (k:Nat),.iface tv uv])
 have kw:=RKeep.of_below (b:=b) (below_alloc1 w (.cells #[.int .i64 p,.int .i64 (k:Nat),.iface tv uv] 279)) h.le
 have hc:=hcall _ base b r (h.below (below_alloc1 w (.cells #[.int .i64 p,.int .i64 (k:Nat),.iface tv uv] 279)))
 clear hcall
 generalize Sp.doAssign k f r=out at hc ⊢
 obtain ⟨r',_ | s⟩:=out
 ·go_enter Tryz.func102,Tryz.ntmps102
  go_wp2_with fail
  refine hc.mono ?_
  rintro e w1 ⟨rfl,r1,k1⟩
  go_wp2_with fail
  go_ret
  exact ⟨rfl,r1,kw.trans k1⟩
 ·go_enter Tryz.func102,Tryz.ntmps102
  go_wp2_with fail
  refine hc.mono ?_
  rintro e w1 ⟨rfl,r1,k1⟩
  go_wp2_with fail
  go_ret
  exact ⟨rfl,r1,kw.trans k1⟩
theorem doRead_eq (k:Nat) (r:Sp.Rst):Sp.doRead k r=(Sp.put k (nextOf r).1 (nextOf r).2,none):=by
 unfold Sp.doRead nextOf
 cases r.ins <;> rfl
theorem read_runs (p:Int) (lo hi:Nat) (w0:World) (k:Nat) (hk:k<8) :
  StRuns lo hi w0 (.iface 283 (.agg #[.int .i64 p,.int .i64 (k:Nat)])) (Sp.doRead k):=by
 intro w base b r _ _ h
 rw [doRead_eq]
 have h1:=ts_2_1 (.agg #[.int .i64 p,.int .i64 (k:Nat)])
 have h2:=ts_2_2 (.agg #[.int .i64 p,.int .i64 (k:Nat)])
 have hk':(k:Int)<8:=by omega
 have kw:=RKeep.of_below (b:=b) (below_alloc1 w (.cells #[.int .i64 p,.int .i64 (k:Nat)] 283)) h.le
 have hn:=heap_alloc_new w (.cells #[.int .i64 p,.int .i64 (k:Nat)] 283)
 have hnb:w.heap.size ≠ b:=by have:=h.lt; omega
 have HN:Hid (_=_):=hn
 clear hn
 go_enter Tryz.func102,Tryz.ntmps102
 have hA:=h.below (below_alloc1 w (.cells #[.int .i64 p,.int .i64 (k:Nat)] 283))
 have hc:=next_calls (hA.below (below_drew1 _))
 have KA:Hid (RKeep base b w (w.alloc (.cells #[.int .i64 p,.int .i64 (k:Nat)] 283)).drew):=kw.drew
 clear hA kw
 go_wp2_with fail
 go_region_with (go_at_call 137; go_must (refine hc.mono ?_); rintro e w1 ⟨rfl,r1,k1⟩; have hn1:=k1.cell (w:=(w.alloc (.cells #[.int .i64 p,.int .i64 (k:Nat)] 283)).drew) HN.out hnb (by decide); have c1:=cell_of hn1 1 (v:=.int .i64 (k:Nat)) rfl; obtain ⟨⟨x,cx⟩,fx⟩:=r1.storeCell k hk)
 all_goals
  have R2:Hid (_∧_):=r1.put k hk (nextOf r).1
  have K2:Hid (RKeep base b w w1):=KA.out.trans k1
  clear k1 hn1 c1 cx fx
  go_wp2_with fail
  go_ret
  exact ⟨rfl,R2.out.1,K2.out.trans R2.out.2⟩
theorem assert_runs (p q:Int) (lo hi:Nat) (w0:World) (k:Nat) (hk:k<6) (tl:TypeId) (ul:Value) (tr:TypeId) (ur:Value) (f g:Sp.Ev) (hf:SumRuns (.iface tl ul) f) (hg:SumRuns (.iface tr ur) g) :
  StRuns lo hi w0 (.iface 287 (.agg #[.int .i64 p,.int .i64 q,.int .i64 (k:Nat),.iface tl ul,.iface tr ur])) (Sp.doAssert q (Sp.evCond k f g)):=by
 have hcall:∀ (w:World) (base b:Nat) (r:Sp.Rst),RunAt base b 0 r w→Calls Tryz.prog 138 #[.pointer (some ⟨b,0,none⟩),.agg #[.int .i64 p,.int .i64 q,.int .i64 (k:Nat),.iface tl ul,.iface tr ur]] w (OutPost base b w (Sp.doAssert q (Sp.evCond k f g) r)):=by
  intro w base b r h
  have kw:=RKeep.of_below (b:=b) (below_alloc1 w (.cells #[.int .i64 p,.int .i64 q,.int .i64 (k:Nat),.iface tl ul,.iface tr ur] 287)) h.le
  have h1:=rcond_calls k hk tl ul tr ur f g hf hg base b r _ (h.below (below_alloc1 w (.cells #[.int .i64 p,.int .i64 q,.int .i64 (k:Nat),.iface tl ul,.iface tr ur] 287)))
  have hn:=heap_alloc_new w (.cells #[.int .i64 p,.int .i64 q,.int .i64 (k:Nat),.iface tl ul,.iface tr ur] 287)
  have hnb:w.heap.size ≠ b:=by have:=h.lt; omega
  have HN:Hid (_=_):=hn
  clear hn
  cases ef:Sp.evCond k f g r.st with
  | error s =>
   rw [ef] at h1
   have E:Hid (Sp.doAssert q (Sp.evCond k f g) r=(r,some s)):=by unfold Hid Sp.doAssert; rw [ef]
   go_enter Tryz.func138,Tryz.ntmps138
   go_wp2_with fail
   refine h1.mono ?_
   rintro e w1 ⟨m,rfl,r1,k1⟩
   go_wp2_with fail
   go_ret
   rw [E.out]
   exact ⟨rfl,r1,kw.trans k1⟩
  | ok n =>
   rw [ef] at h1
   cases n with
   | true =>
    have E:Hid (Sp.doAssert q (Sp.evCond k f g) r=(r,none)):=by unfold Hid Sp.doAssert; rw [ef]
    go_enter Tryz.func138,Tryz.ntmps138
    go_wp2_with fail
    refine h1.mono ?_
    rintro e w1 ⟨rfl,r1,k1⟩
    go_wp2_with fail
    go_ret
    rw [E.out]
    exact ⟨rfl,r1,kw.trans k1⟩
   | false =>
    have E:Hid (Sp.doAssert q (Sp.evCond k f g) r=(r,some q)):=by unfold Hid Sp.doAssert; rw [ef]
    go_enter Tryz.func138,Tryz.ntmps138
    go_wp2_with fail
    refine h1.mono ?_
    rintro e w1 ⟨rfl,r1,k1⟩
    have hn1:=k1.cell HN.out hnb (by decide)
    have c1:=cell_of hn1 1 (v:=.int .i64 q) rfl
    clear hn1
    go_wp2_with fail
    refine (stopAt_calls r1 q).mono ?_
    rintro e w2 ⟨rfl,r2,k2⟩
    go_wp2_with fail
    go_ret
    rw [E.out]
    exact ⟨rfl,r2,(kw.trans k1).trans k2⟩
 intro w base b r _ _ h
 have h1:=ts_3_1 (.agg #[.int .i64 p,.int .i64 q,.int .i64 (k:Nat),.iface tl ul,.iface tr ur])
 have h2:=ts_3_2 (.agg #[.int .i64 p,.int .i64 q,.int .i64 (k:Nat),.iface tl ul,.iface tr ur])
 have h3:=ts_3_3 (.agg #[.int .i64 p,.int .i64 q,.int .i64 (k:Nat),.iface tl ul,.iface tr ur])
 have kw:=RKeep.of_below (b:=b) (below_alloc1 w (.cells #[.int .i64 p,.int .i64 q,.int .i64 (k:Nat),.iface tl ul,.iface tr ur] 287)) h.le
 have hc:=hcall _ base b r (h.below (below_alloc1 w (.cells #[.int .i64 p,.int .i64 q,.int .i64 (k:Nat),.iface tl ul,.iface tr ur] 287)))
 clear hcall
 generalize Sp.doAssert q (Sp.evCond k f g) r=out at hc ⊢
 obtain ⟨r',_ | s⟩:=out
 ·go_enter Tryz.func102,Tryz.ntmps102
  go_wp2_with fail
  refine hc.mono ?_
  rintro e w1 ⟨rfl,r1,k1⟩
  go_wp2_with fail
  go_ret
  exact ⟨rfl,r1,kw.trans k1⟩
 ·go_enter Tryz.func102,Tryz.ntmps102
  go_wp2_with fail
  refine hc.mono ?_
  rintro e w1 ⟨rfl,r1,k1⟩
  go_wp2_with fail
  go_ret
  exact ⟨rfl,r1,kw.trans k1⟩
end Go.Proofs.YtiopfihjmkfdmaaGreatDoor
namespace Go.Proofs.YtiopfihjmkfdmaaGreatDoor
open Go.RowKit
set_option maxRecDepth 100000
set_option maxHeartbeats 2000000
theorem visit_calls {base b:Nat} {r:Sp.Rst} {w:World} (h:RunAt base b 0 r w) (p:Int) :
  Calls Tryz.prog 71 #[.pointer (some ⟨b,0,none⟩),.int .i64 p] w (OutPost base b w (Sp.visit p r)):=by
 by_cases h0:r.fuel=0
 ·exact visit_spent h p h0
 ·exact visit_goes h p h0
def WhereIs (t:TypeId) (u:Value) (p:Int):Prop:=∀ w,(method 587 t u "Where").run Tryz.prog w=.ok (72,.int .i64 p) w
theorem pwhere_calls (p:Int) (w:World):Calls Tryz.prog 72 #[.int .i64 p] w fun e w'=>e=.returned (.int .i64 p)∧w'=w:=by
 go_enter Tryz.func72,Tryz.ntmps72
 go_wp2_with fail
 go_ret
 exact ⟨rfl,rfl⟩
def BlkRuns (lo hi:Nat) (w0:World) (v:Value) (xs:List (Int × (Sp.Rst→Sp.Out))):Prop :=
 ∀ (w:World) (base b:Nat) (r:Sp.Rst),SameOn lo hi w0 w→hi≤base→RunAt base b 0 r w→Calls Tryz.prog 70 #[.pointer (some ⟨b,0,none⟩),v] w (OutPost base b w (Sp.steps xs r))
theorem block_none (lo hi:Nat) (w0:World) (a:Option Addr) (c:Nat):BlkRuns lo hi w0 (.slice a 0 c) []:=by
 intro w base b r _ _ h
 go_enter Tryz.func70,Tryz.ntmps70
 go_wp2_with fail
 refine wp_loop_rounds 1 ?_
 rw [rounds_succ]
 go_wp2_with fail
 go_ret
 exact ⟨rfl,h,RKeep.refl _ _ _⟩
theorem RKeep.same {base b lo hi:Nat} {w w1 w2:World} (h:SameOn lo hi w w1) (k:RKeep base b w1 w2) (hh:hi≤base):SameOn lo hi w w2 :=
 fun i h1 h2 hn=>by rw [k.below.block i (by omega)]; exact h i h1 h2 hn
theorem block_runs (lo hi:Nat) (w0:World) (v:Value) (xs:List (Int × (Sp.Rst→Sp.Out))) (vs:List Value) (ho:w0.ownsRow lo 234 1 v xs.length vs) (hg:∀ g,v.ownBlock=some g→g<hi)
  (he:∀ (i:Nat) (u:Value) (x:Int × (Sp.Rst→Sp.Out)),vs[i]?=some u→xs[i]?=some x→∃ t y,u=.iface t y∧WhereIs t y x.1∧StRuns lo hi w0 u x.2):BlkRuns lo hi w0 v xs:=by
 have hvl:vs.length=xs.length:=by simpa using ho.1
 rcases ho.2 with ⟨rfl,hz⟩ | ⟨g,cap,cur,rfl,hlg,hh,hnc,hcm,hcs,htake⟩
 ·have:xs=[]:=List.eq_nil_of_length_eq_zero hz
  subst this
  exact block_none lo hi w0 none 0
 ·intro w base b r hso hhB h
  have hgl:=hg g rfl
  have hcell:∀ (i:Nat) (u:Value),vs[i]?=some u→w.cell? ⟨g,i,none⟩=some u:=by
   intro i u hu
   have h1:w.heap[g]?=some (.cells cur 234):=by rw [hso g hlg hgl (by rw [hh]; exact not_num (by decide))]; exact hh
   refine cell_of h1 i ?_
   have h2:i<vs.length:=(List.getElem?_eq_some_iff.1 hu).1
   have h3:cur.toList[i]?=vs[i]?:=by
    rw [← htake,List.getElem?_take,if_pos (by omega)]
   rw [← Array.getElem?_toList,h3]; exact hu
  have hn:(xs.length:Int)≤9223372036854775807:=by unfold maxLen at hcm; omega
  clear htake hcs hcm
  go_enter Tryz.func70,Tryz.ntmps70
  go_wp2_with fail
  go_loopw [6,9] (fun _ i wr=>∃ (j:Nat) (rj:Sp.Rst),j≤xs.length∧i=.int .i64 j∧Hid (Sp.steps xs r=Sp.steps (xs.drop j) rj∧RunAt base b 0 rj wr∧RKeep base b w wr)) (fun _ i _=>xs.length - (intOf i).toNat)
  case atStart=>exact ⟨0,r,Nat.zero_le _,rfl,rfl,h,RKeep.refl _ _ _⟩
  case round =>
   obtain ⟨j,rj,hj,rfl,hq⟩:=hrel
   by_cases hjlt:j<xs.length
   ·obtain ⟨u,hu⟩:∃ u,vs[j]?=some u:=⟨_,List.getElem?_eq_getElem (by omega)⟩
    obtain ⟨x,hx⟩:∃ x,xs[j]?=some x:=⟨_,List.getElem?_eq_getElem hjlt⟩
    obtain ⟨p,F⟩:=x
    obtain ⟨t,y,rfl,hwh,hst⟩:=he j u (p,F) hu hx
    have hcu:wr.cell? ⟨g,j,none⟩=some (.iface t y):=by
     rw [hq.out.2.2.below.cell (by show g<base; omega)]; exact hcell j _ hu
    have hdrop:xs.drop j=(p,F) :: xs.drop (j + 1):=by
     rw [List.drop_eq_getElem_cons hjlt]
     have:=(List.getElem?_eq_some_iff.1 hx).2
     rw [this]
    have HS:Hid (Sp.steps xs r=Sp.andThen (Sp.andThen (Sp.visit p rj) F) (Sp.steps (xs.drop (j + 1)))):=by
     unfold Hid; rw [hq.out.1,hdrop]; rfl
    have hv:=visit_calls hq.out.2.1 p
    have hwm:∀ w,(method 587 t y "Where").run Tryz.prog w=.ok (72,.int .i64 p) w:=hwh
    clear hu hx hdrop he hcell
    go_wp2_with fail
    refine (pwhere_calls p _).mono ?_
    rintro e w1 ⟨rfl,rfl⟩
    go_wp2_with fail
    refine hv.mono ?_
    intro e w1 hp
    generalize Sp.visit p rj=o1 at hp HS
    obtain ⟨r1,_ | s⟩:=o1
    ·obtain ⟨rfl,r1a,k1⟩:=hp
     have hs:=hst w1 base b r1 (RKeep.same hso (hq.out.2.2.trans k1) hhB) hhB r1a
     go_wp2_with fail
     refine hs.mono ?_
     intro e w2 hp2
     have HS2:Hid (Sp.steps xs r=Sp.andThen (F r1) (Sp.steps (xs.drop (j + 1)))):=HS
     clear hs HS
     generalize F r1=o2 at hp2 HS2
     obtain ⟨r2,_ | s⟩:=o2
     ·obtain ⟨rfl,r2a,k2⟩:=hp2
      have HQ:Hid (Sp.steps xs r=Sp.steps (xs.drop (j + 1)) r2∧RunAt base b 0 r2 w2∧RKeep base b w w2):=⟨HS2,r2a,(hq.out.2.2.trans k1).trans k2⟩
      clear HS2 r2a k2 k1 r1a
      go_wp2_with fail
      exact ⟨⟨j + 1,r2,by omega,by go_num,HQ⟩,by simp [intOf]; omega⟩
     ·obtain ⟨rfl,r2a,k2⟩:=hp2
      have E:Hid (Sp.steps xs r=(r2,some s)):=HS2
      have K:Hid (RKeep base b w w2):=(hq.out.2.2.trans k1).trans k2
      clear HS2 k2 k1
      go_wp2_with fail
      go_ret
      rw [E.out]
      exact ⟨rfl,r2a,K.out⟩
    ·obtain ⟨rfl,r1a,k1⟩:=hp
     have E:Hid (Sp.steps xs r=(r1,some s)):=HS
     have K:Hid (RKeep base b w w1):=hq.out.2.2.trans k1
     clear HS k1
     go_wp2_with fail
     go_ret
     rw [E.out]
     exact ⟨rfl,r1a,K.out⟩
   ·have E:Hid (Sp.steps xs r=(rj,none)):=by
     unfold Hid
     rw [hq.out.1,List.drop_of_length_le (by omega)]
     rfl
    go_wp2_with fail
    go_ret
    rw [E.out]
    exact ⟨rfl,hq.out.2.1,hq.out.2.2⟩
end Go.Proofs.YtiopfihjmkfdmaaGreatDoor
namespace Go.Proofs.YtiopfihjmkfdmaaGreatDoor
open Go.RowKit
set_option maxRecDepth 100000
set_option maxHeartbeats 2000000
def Wanes (F:Sp.Rst→Sp.Out):Prop:=∀ r,(F r).1.fuel≤r.fuel
theorem visit_wanes (p:Int):Wanes (Sp.visit p):=by
 intro r
 unfold Sp.visit
 split
 ·exact Nat.le_refl _
 ·show r.fuel - 1≤r.fuel; omega
theorem andThen_wanes {a:Sp.Out} {F:Sp.Rst→Sp.Out} {n:Nat} (ha:a.1.fuel≤n) (hF:Wanes F):(Sp.andThen a F).1.fuel≤n:=by
 obtain ⟨r,_ | s⟩:=a
 ·exact Nat.le_trans (hF r) ha
 ·exact ha
theorem steps_wanes:∀ (xs:List (Int × (Sp.Rst→Sp.Out))),(∀ x ∈ xs,Wanes x.2)→Wanes (Sp.steps xs)
 | [],_=>fun r=>Nat.le_refl _
 | (p,F) :: xs,h=>fun r=>by
  have h1:(Sp.andThen (Sp.visit p r) F).1.fuel≤r.fuel:=andThen_wanes (visit_wanes p r) (h (p,F) (by simp))
  exact andThen_wanes h1 (steps_wanes xs (fun x hx=>h x (by simp [hx])))
theorem loopF_wanes (c:List Int→Except Int Bool) (F:Sp.Rst→Sp.Out) (hF:Wanes F) (p:Int):∀ n,Wanes (Sp.loopF c F p n)
 | 0=>fun r=>Nat.le_refl _
 | n + 1=>fun r=>by
  unfold Sp.loopF
  split
  ·exact Nat.le_refl _
  ·exact Nat.le_refl _
  ·exact andThen_wanes (andThen_wanes (hF r) (visit_wanes p)) (loopF_wanes c F hF p n)
def fuelOf (b:Nat) (w:World):Nat:=match w.cell? ⟨b,11,none⟩ with
 | some (.int _ q)=>q.toNat
 | _=>0
theorem RunAt.fuel {base b:Nat} {stop:Int} {r:Sp.Rst} {w:World} (h:RunAt base b stop r w):fuelOf b w=r.fuel:=by
 obtain ⟨vv,iv,h1,_⟩:=h
 unfold fuelOf
 rw [cell_of h1 11 (v:=.int .i64 (r.fuel:Int)) rfl]
 simp
theorem visit_less {p:Int} {r r':Sp.Rst} (h:Sp.visit p r=(r',none)):r'.fuel<r.fuel:=by
 unfold Sp.visit at h
 split at h
 ·cases h
 ·cases h; show r.fuel - 1<r.fuel; omega
theorem loop_calls' (p:Int) (lo hi:Nat) (w0:World) (k:Nat) (hk:k<6) (tl:TypeId) (ul:Value) (tr:TypeId) (ur:Value) (f g:Sp.Ev) (hf:SumRuns (.iface tl ul) f) (hg:SumRuns (.iface tr ur) g) (av:Option Addr) (nv cv:Nat) (xs:List (Int × (Sp.Rst→Sp.Out))) (hb:BlkRuns lo hi w0 (.slice av nv cv) xs) (hw:Wanes (Sp.steps xs))
  (w:World) (base b:Nat) (r:Sp.Rst) (hso:SameOn lo hi w0 w) (hhB:hi≤base) (h:RunAt base b 0 r w) :
  Calls Tryz.prog 140 #[.pointer (some ⟨b,0,none⟩),.agg #[.int .i64 p,.int .i64 (k:Nat),.iface tl ul,.iface tr ur,.slice av nv cv]] w (OutPost base b w (Sp.doWhile (Sp.evCond k f g) (Sp.steps xs) p r)):=by
 have hle:=h.le
 have kw:=RKeep.of_below (b:=b) (below_alloc1 w (.cells #[.int .i64 p,.int .i64 (k:Nat),.iface tl ul,.iface tr ur,.slice av nv cv] 293)) hle
 have h1:=h.below (below_alloc1 w (.cells #[.int .i64 p,.int .i64 (k:Nat),.iface tl ul,.iface tr ur,.slice av nv cv] 293))
 have hn:=heap_alloc_new w (.cells #[.int .i64 p,.int .i64 (k:Nat),.iface tl ul,.iface tr ur,.slice av nv cv] 293)
 have hnb:w.heap.size ≠ b:=by have:=h.lt; omega
 have HN:Hid (_=_):=hn
 clear hn
 go_enter Tryz.func140,Tryz.ntmps140
 go_wp2_with fail
 generalize w.alloc (.cells #[.int .i64 p,.int .i64 (k:Nat),.iface tl ul,.iface tr ur,.slice av nv cv] 293)=wa at *
 go_loopw [] (fun wr=>∃ (rj:Sp.Rst) (m:Nat),Hid (Sp.doWhile (Sp.evCond k f g) (Sp.steps xs) p r=Sp.loopF (Sp.evCond k f g) (Sp.steps xs) p m rj∧rj.fuel<m∧RunAt base b 0 rj wr∧RKeep base b wa wr)) (fun wr=>fuelOf b wr)
 case atStart=>exact ⟨r,r.fuel + 1,rfl,Nat.lt_succ_self _,h1,RKeep.refl _ _ _⟩
 case round =>
  obtain ⟨rj,m,hq⟩:=hrel
  obtain ⟨m,rfl⟩:∃ m',m=m' + 1:=⟨m - 1,by have:=hq.out.2.1; omega⟩
  have hn1:=hq.out.2.2.2.cell HN.out hnb (by decide)
  have c0:=cell_of hn1 0 (v:=.int .i64 p) rfl
  have c1:=cell_of hn1 1 (v:=.int .i64 (k:Nat)) rfl
  have c2:=cell_of hn1 2 (v:=.iface tl ul) rfl
  have c3:=cell_of hn1 3 (v:=.iface tr ur) rfl
  have c4:=cell_of hn1 4 (v:=.slice av nv cv) rfl
  have hc:=rcond_calls k hk tl ul tr ur f g hf hg base b rj wr hq.out.2.2.1
  go_wp2_with fail
  refine hc.mono ?_
  intro e w1 hp
  clear hc
  cases ec:Sp.evCond k f g rj.st with
  | error s =>
   rw [ec] at hp
   obtain ⟨hb',rfl,r1,k1⟩:=hp
   have E:Hid (Sp.doWhile (Sp.evCond k f g) (Sp.steps xs) p r=(rj,some s)):=by
    unfold Hid; rw [hq.out.1]; unfold Sp.loopF; rw [ec]
   have K:Hid (RKeep base b w w1):=(kw.trans hq.out.2.2.2).trans k1
   clear k1 ec
   go_wp2_with fail
   go_ret
   rw [E.out]
   exact ⟨rfl,r1,K.out⟩
  | ok hld =>
   rw [ec] at hp
   obtain ⟨rfl,r1,k1⟩:=hp
   cases hld with
   | false =>
    have E:Hid (Sp.doWhile (Sp.evCond k f g) (Sp.steps xs) p r=(rj,none)):=by
     unfold Hid; rw [hq.out.1]; unfold Sp.loopF; rw [ec]
    have K:Hid (RKeep base b w w1):=(kw.trans hq.out.2.2.2).trans k1
    clear k1 ec
    go_wp2_with fail
    go_ret
    rw [E.out]
    exact ⟨rfl,r1,K.out⟩
   | true =>
    have E:Hid (Sp.doWhile (Sp.evCond k f g) (Sp.steps xs) p r=Sp.andThen (Sp.andThen (Sp.steps xs rj) (Sp.visit p)) (Sp.loopF (Sp.evCond k f g) (Sp.steps xs) p m)):=by
     unfold Hid; rw [hq.out.1]; conv=>lhs; unfold Sp.loopF
     rw [ec]
    have K1:Hid (RKeep base b wa w1):=hq.out.2.2.2.trans k1
    have hn2:=K1.out.cell HN.out hnb (by decide)
    have d0:=cell_of hn2 0 (v:=.int .i64 p) rfl
    have d4:=cell_of hn2 4 (v:=.slice av nv cv) rfl
    have hbk:=hb w1 base b rj (RKeep.same hso (kw.trans K1.out) hhB) hhB r1
    have hwj:=hw rj
    clear k1 ec hn2 hn1 c0 c1 c2 c3 c4
    go_wp2_with fail
    refine hbk.mono ?_
    intro e w2 hp2
    clear hbk
    generalize Sp.steps xs rj=o2 at hp2 E hwj
    obtain ⟨r2,_ | s⟩:=o2
    ·obtain ⟨rfl,r2a,k2⟩:=hp2
     have E2:Hid (Sp.doWhile (Sp.evCond k f g) (Sp.steps xs) p r=Sp.andThen (Sp.visit p r2) (Sp.loopF (Sp.evCond k f g) (Sp.steps xs) p m)):=E
     have K2:Hid (RKeep base b wa w2):=K1.out.trans k2
     have hn3:=K2.out.cell HN.out hnb (by decide)
     have e0:=cell_of hn3 0 (v:=.int .i64 p) rfl
     have hvs:=visit_calls r2a p
     have hvl:∀ r',Sp.visit p r2=(r',none)→r'.fuel<r2.fuel:=fun r' h=>visit_less h
     have hwj':r2.fuel≤rj.fuel:=hwj
     clear E k2 hn3 K1 d0 d4
     go_wp2_with fail
     refine (pwhere_calls p _).mono ?_
     rintro e w3 ⟨rfl,rfl⟩
     go_wp2_with fail
     refine hvs.mono ?_
     intro e w3 hp3
     clear hvs
     generalize Sp.visit p r2=o3 at hp3 E2 hvl
     obtain ⟨r3,_ | s⟩:=o3
     ·obtain ⟨rfl,r3a,k3⟩:=hp3
      have hl3:=hvl r3 rfl
      have HQ:Hid (Sp.doWhile (Sp.evCond k f g) (Sp.steps xs) p r=Sp.loopF (Sp.evCond k f g) (Sp.steps xs) p m r3∧r3.fuel<m∧RunAt base b 0 r3 w3∧RKeep base b wa w3):=⟨E2,by have:=hq.out.2.1; omega,r3a,K2.out.trans k3⟩
      have HF:Hid (fuelOf b w3<fuelOf b wr):=by unfold Hid; rw [r3a.fuel,hq.out.2.2.1.fuel]; omega
      clear E2 hvl k3 K2 r2a
      go_wp2_with fail
      exact ⟨⟨r3,m,HQ⟩,HF.out⟩
     ·obtain ⟨rfl,r3a,k3⟩:=hp3
      have E3:Hid (Sp.doWhile (Sp.evCond k f g) (Sp.steps xs) p r=(r3,some s)):=E2
      have K3:Hid (RKeep base b w w3):=(kw.trans K2.out).trans k3
      clear E2 hvl k3 K2 r2a
      go_wp2_with fail
      go_ret
      rw [E3.out]
      exact ⟨rfl,r3a,K3.out⟩
    ·obtain ⟨rfl,r2a,k2⟩:=hp2
     have E2:Hid (Sp.doWhile (Sp.evCond k f g) (Sp.steps xs) p r=(r2,some s)):=E
     have K2:Hid (RKeep base b w w2):=(kw.trans K1.out).trans k2
     clear E k2 K1 d0 d4
     go_wp2_with fail
     go_ret
     rw [E2.out]
     exact ⟨rfl,r2a,K2.out⟩
theorem while_runs (p:Int) (lo hi:Nat) (w0:World) (k:Nat) (hk:k<6) (tl:TypeId) (ul:Value) (tr:TypeId) (ur:Value) (f g:Sp.Ev) (hf:SumRuns (.iface tl ul) f) (hg:SumRuns (.iface tr ur) g) (av:Option Addr) (nv cv:Nat) (xs:List (Int × (Sp.Rst→Sp.Out))) (hb:BlkRuns lo hi w0 (.slice av nv cv) xs) (hw:Wanes (Sp.steps xs)) :
  StRuns lo hi w0 (.iface 293 (.agg #[.int .i64 p,.int .i64 (k:Nat),.iface tl ul,.iface tr ur,.slice av nv cv])) (Sp.doWhile (Sp.evCond k f g) (Sp.steps xs) p):=by
 intro w base b r hso hhB h
 have h1:=ts_5_1 (.agg #[.int .i64 p,.int .i64 (k:Nat),.iface tl ul,.iface tr ur,.slice av nv cv])
 have h2:=ts_5_2 (.agg #[.int .i64 p,.int .i64 (k:Nat),.iface tl ul,.iface tr ur,.slice av nv cv])
 have h3:=ts_5_3 (.agg #[.int .i64 p,.int .i64 (k:Nat),.iface tl ul,.iface tr ur,.slice av nv cv])
 have h4:=ts_5_4 (.agg #[.int .i64 p,.int .i64 (k:Nat),.iface tl ul,.iface tr ur,.slice av nv cv])
 have h5:=ts_5_5 (.agg #[.int .i64 p,.int .i64 (k:Nat),.iface tl ul,.iface tr ur,.slice av nv cv])
 have kw:=RKeep.of_below (b:=b) (below_alloc1 w (.cells #[.int .i64 p,.int .i64 (k:Nat),.iface tl ul,.iface tr ur,.slice av nv cv] 293)) h.le
 have hc:=loop_calls' p lo hi w0 k hk tl ul tr ur f g hf hg av nv cv xs hb hw _ base b r (RKeep.same hso kw hhB) hhB (h.below (below_alloc1 w (.cells #[.int .i64 p,.int .i64 (k:Nat),.iface tl ul,.iface tr ur,.slice av nv cv] 293)))
 clear hb hw
 generalize Sp.doWhile (Sp.evCond k f g) (Sp.steps xs) p r=out at hc ⊢
 obtain ⟨r',_ | s⟩:=out
 ·go_enter Tryz.func102,Tryz.ntmps102
  go_wp2_with fail
  refine hc.mono ?_
  rintro e w1 ⟨rfl,r1,k1⟩
  go_wp2_with fail
  go_ret
  exact ⟨rfl,r1,kw.trans k1⟩
 ·go_enter Tryz.func102,Tryz.ntmps102
  go_wp2_with fail
  refine hc.mono ?_
  rintro e w1 ⟨rfl,r1,k1⟩
  go_wp2_with fail
  go_ret
  exact ⟨rfl,r1,kw.trans k1⟩
theorem branch_runs (p:Int) (he:Bool) (lo hi:Nat) (w0:World) (k:Nat) (hk:k<6) (tl:TypeId) (ul:Value) (tr:TypeId) (ur:Value) (f g:Sp.Ev) (hf:SumRuns (.iface tl ul) f) (hg:SumRuns (.iface tr ur) g) (av:Option Addr) (nv cv:Nat) (xs:List (Int × (Sp.Rst→Sp.Out))) (hb:BlkRuns lo hi w0 (.slice av nv cv) xs) (ae:Option Addr) (ne ce:Nat) (ys:List (Int × (Sp.Rst→Sp.Out))) (hbe:BlkRuns lo hi w0 (.slice ae ne ce) ys)
  (w:World) (base b:Nat) (r:Sp.Rst) (hso:SameOn lo hi w0 w) (hhB:hi≤base) (h:RunAt base b 0 r w) :
  Calls Tryz.prog 139 #[.pointer (some ⟨b,0,none⟩),.agg #[.int .i64 p,.int .i64 (k:Nat),.iface tl ul,.iface tr ur,.slice av nv cv,.slice ae ne ce,.bool he]] w (OutPost base b w (Sp.doIf (Sp.evCond k f g) (Sp.steps xs) (Sp.steps ys) r)):=by
 have kw:=RKeep.of_below (b:=b) (below_alloc1 w (.cells #[.int .i64 p,.int .i64 (k:Nat),.iface tl ul,.iface tr ur,.slice av nv cv,.slice ae ne ce,.bool he] 290)) h.le
 have hc:=rcond_calls k hk tl ul tr ur f g hf hg base b r _ (h.below (below_alloc1 w (.cells #[.int .i64 p,.int .i64 (k:Nat),.iface tl ul,.iface tr ur,.slice av nv cv,.slice ae ne ce,.bool he] 290)))
 have hn:=heap_alloc_new w (.cells #[.int .i64 p,.int .i64 (k:Nat),.iface tl ul,.iface tr ur,.slice av nv cv,.slice ae ne ce,.bool he] 290)
 have hnb:w.heap.size ≠ b:=by have:=h.lt; omega
 have HN:Hid (_=_):=hn
 clear hn
 cases ec:Sp.evCond k f g r.st with
 | error s =>
  rw [ec] at hc
  have E:Hid (Sp.doIf (Sp.evCond k f g) (Sp.steps xs) (Sp.steps ys) r=(r,some s)):=by unfold Hid Sp.doIf; rw [ec]
  go_enter Tryz.func139,Tryz.ntmps139
  go_wp2_with fail
  refine hc.mono ?_
  rintro e w1 ⟨hb',rfl,r1,k1⟩
  go_wp2_with fail
  go_ret
  rw [E.out]
  exact ⟨rfl,r1,kw.trans k1⟩
 | ok hld =>
  rw [ec] at hc
  cases hld with
  | true =>
   have E:Hid (Sp.doIf (Sp.evCond k f g) (Sp.steps xs) (Sp.steps ys) r=Sp.steps xs r):=by unfold Hid Sp.doIf; rw [ec]
   go_enter Tryz.func139,Tryz.ntmps139
   go_wp2_with fail
   refine hc.mono ?_
   rintro e w1 ⟨rfl,r1,k1⟩
   have K1:=kw.trans k1
   have hn2:=k1.cell HN.out hnb (by decide)
   have d4:=cell_of hn2 4 (v:=.slice av nv cv) rfl
   have hbk:=hb w1 base b r (RKeep.same hso K1 hhB) hhB r1
   clear hn2 k1
   go_wp2_with fail
   refine hbk.mono ?_
   intro e w2 hp2
   clear hbk
   generalize Sp.steps xs r=o2 at hp2 E
   obtain ⟨r2,_ | s⟩:=o2
   ·obtain ⟨rfl,r2a,k2⟩:=hp2
    go_wp2_with fail
    go_ret
    rw [E.out]
    exact ⟨rfl,r2a,K1.trans k2⟩
   ·obtain ⟨rfl,r2a,k2⟩:=hp2
    go_wp2_with fail
    go_ret
    rw [E.out]
    exact ⟨rfl,r2a,K1.trans k2⟩
  | false =>
   have E:Hid (Sp.doIf (Sp.evCond k f g) (Sp.steps xs) (Sp.steps ys) r=Sp.steps ys r):=by unfold Hid Sp.doIf; rw [ec]
   go_enter Tryz.func139,Tryz.ntmps139
   go_wp2_with fail
   refine hc.mono ?_
   rintro e w1 ⟨rfl,r1,k1⟩
   have K1:=kw.trans k1
   have hn2:=k1.cell HN.out hnb (by decide)
   have d5:=cell_of hn2 5 (v:=.slice ae ne ce) rfl
   have hbk:=hbe w1 base b r (RKeep.same hso K1 hhB) hhB r1
   clear hn2 k1
   go_wp2_with fail
   refine hbk.mono ?_
   intro e w2 hp2
   clear hbk
   generalize Sp.steps ys r=o2 at hp2 E
   obtain ⟨r2,_ | s⟩:=o2
   ·obtain ⟨rfl,r2a,k2⟩:=hp2
    go_wp2_with fail
    go_ret
    rw [E.out]
    exact ⟨rfl,r2a,K1.trans k2⟩
   ·obtain ⟨rfl,r2a,k2⟩:=hp2
    go_wp2_with fail
    go_ret
    rw [E.out]
    exact ⟨rfl,r2a,K1.trans k2⟩
theorem if_runs (p:Int) (he:Bool) (lo hi:Nat) (w0:World) (k:Nat) (hk:k<6) (tl:TypeId) (ul:Value) (tr:TypeId) (ur:Value) (f g:Sp.Ev) (hf:SumRuns (.iface tl ul) f) (hg:SumRuns (.iface tr ur) g) (av:Option Addr) (nv cv:Nat) (xs:List (Int × (Sp.Rst→Sp.Out))) (hb:BlkRuns lo hi w0 (.slice av nv cv) xs) (ae:Option Addr) (ne ce:Nat) (ys:List (Int × (Sp.Rst→Sp.Out))) (hbe:BlkRuns lo hi w0 (.slice ae ne ce) ys) :
  StRuns lo hi w0 (.iface 290 (.agg #[.int .i64 p,.int .i64 (k:Nat),.iface tl ul,.iface tr ur,.slice av nv cv,.slice ae ne ce,.bool he])) (Sp.doIf (Sp.evCond k f g) (Sp.steps xs) (Sp.steps ys)):=by
 intro w base b r hso hhB h
 have h1:=ts_4_1 (.agg #[.int .i64 p,.int .i64 (k:Nat),.iface tl ul,.iface tr ur,.slice av nv cv,.slice ae ne ce,.bool he])
 have h2:=ts_4_2 (.agg #[.int .i64 p,.int .i64 (k:Nat),.iface tl ul,.iface tr ur,.slice av nv cv,.slice ae ne ce,.bool he])
 have h3:=ts_4_3 (.agg #[.int .i64 p,.int .i64 (k:Nat),.iface tl ul,.iface tr ur,.slice av nv cv,.slice ae ne ce,.bool he])
 have h4:=ts_4_4 (.agg #[.int .i64 p,.int .i64 (k:Nat),.iface tl ul,.iface tr ur,.slice av nv cv,.slice ae ne ce,.bool he])
 have kw:=RKeep.of_below (b:=b) (below_alloc1 w (.cells #[.int .i64 p,.int .i64 (k:Nat),.iface tl ul,.iface tr ur,.slice av nv cv,.slice ae ne ce,.bool he] 290)) h.le
 have hc:=branch_runs p he lo hi w0 k hk tl ul tr ur f g hf hg av nv cv xs hb ae ne ce ys hbe _ base b r (RKeep.same hso kw hhB) hhB (h.below (below_alloc1 w (.cells #[.int .i64 p,.int .i64 (k:Nat),.iface tl ul,.iface tr ur,.slice av nv cv,.slice ae ne ce,.bool he] 290)))
 clear hb hbe
 generalize Sp.doIf (Sp.evCond k f g) (Sp.steps xs) (Sp.steps ys) r=out at hc ⊢
 obtain ⟨r',_ | s⟩:=out
 ·go_enter Tryz.func102,Tryz.ntmps102
  go_wp2_with fail
  refine hc.mono ?_
  rintro e w1 ⟨rfl,r1,k1⟩
  go_wp2_with fail
  go_ret
  exact ⟨rfl,r1,kw.trans k1⟩
 ·go_enter Tryz.func102,Tryz.ntmps102
  go_wp2_with fail
  refine hc.mono ?_
  rintro e w1 ⟨rfl,r1,k1⟩
  go_wp2_with fail
  go_ret
  exact ⟨rfl,r1,kw.trans k1⟩
end Go.Proofs.YtiopfihjmkfdmaaGreatDoor
namespace Go.Proofs.YtiopfihjmkfdmaaGreatDoor
open Go.RowKit
set_option maxRecDepth 100000
set_option maxHeartbeats 2000000
def RpRn:Rep Sp.Rn where
 S ct v x ct':=(∃ t u,v=.iface t u)∧SumRuns v (x ct).1∧(x ct).2=ct'
 iface _ _ _ _ h:=h.1
 num ct n _:=⟨⟨_,_,rfl⟩,num_runs n,rfl⟩
 name ct k hk:=⟨⟨_,_,rfl⟩,name_runs k hk,rfl⟩
 neg ct v x ct' h:=by
  obtain ⟨⟨t,u,rfl⟩,hs,he⟩:=h
  exact ⟨⟨_,_,rfl⟩,neg_runs t u _ hs,he⟩
 bin ct k v x ct1 u y ct2 hk h h':=by
  obtain ⟨⟨tl,ul,rfl⟩,hs,rfl⟩:=h
  obtain ⟨⟨tr,ur,rfl⟩,hs',rfl⟩:=h'
  have e:Sp.Rn.bin k x y ct=(Sp.evBin k 0 (x ct).1 (y (x ct).2).1,(y (x ct).2).2):=if_neg (by omega)
  refine ⟨⟨_,_,rfl⟩,?_,?_⟩
  ·rw [e]; exact bin_runs k (by omega) 0 tl ul tr ur _ _ hs hs'
  ·rw [e]
 binSite ct k v x ct1 u y ct2 h3 hk h h':=by
  obtain ⟨⟨tl,ul,rfl⟩,hs,rfl⟩:=h
  obtain ⟨⟨tr,ur,rfl⟩,hs',rfl⟩:=h'
  have e:Sp.Rn.bin k x y ct=(Sp.evBin k (x ct).2.2 (x ct).1 (y (Sp.siteUp (x ct).2)).1,(y (Sp.siteUp (x ct).2)).2):=if_pos h3
  refine ⟨⟨_,_,rfl⟩,?_,?_⟩
  ·rw [e]; exact bin_runs k hk _ tl ul tr ur _ _ hs hs'
  ·rw [e]; rfl
def StR (ct:Int × Int) (lo hi:Nat) (w:World) (v:Value) (x:Sp.Ct→(Sp.Rst→Sp.Out) × Sp.Ct) (ct':Int × Int):Prop :=
 (∃ t u,v=.iface t u∧WhereIs t u ct.1)∧StRuns lo hi w v (x ct).1∧Wanes (x ct).1∧(x ct).2=ct'
theorem number_get {α:Type}:∀ (xs:List (Sp.Ct→α × Sp.Ct)) (f:Nat→Sp.Ct),(∀ i x,xs[i]?=some x→(x (f i)).2=f (i + 1)) →
  (Sp.number xs (f 0)).2=f xs.length∧(Sp.number xs (f 0)).1.length=xs.length∧∀ i z,(Sp.number xs (f 0)).1[i]?=some z→∃ x,xs[i]?=some x∧z=((f i).1,(x (f i)).1)
 | [],f,_=>⟨rfl,rfl,fun i z h=>by simp [Sp.number] at h⟩
 | x :: xs,f,h=>by
  have hx:=h 0 x (by simp)
  obtain ⟨h1,h2,h3⟩:=number_get xs (fun i=>f (i + 1)) (fun i y hy=>h (i + 1) y (by simpa using hy))
  have e:Sp.number (x :: xs) (f 0)=(((f 0).1,(x (f 0)).1) :: (Sp.number xs (f 1)).1,(Sp.number xs (f 1)).2):=by
   show ((_:Int × α) :: (Sp.number xs (x (f 0)).2).1,(Sp.number xs (x (f 0)).2).2)=_
   rw [hx]
  rw [e]
  refine ⟨h1,by simp; exact h2,fun i z hz=>?_⟩
  cases i with
  | zero=>exact ⟨x,by simp,by simpa using hz.symm⟩
  | succ i =>
   obtain ⟨y,hy,rfl⟩:=h3 i z (by simpa using hz)
   exact ⟨y,by simpa using hy,rfl⟩
theorem blk_runs {ct ct':Int × Int} {lo hi:Nat} {w:World} {v:Value} {xs:List Sp.Rn.T} (h:Blk StR ct lo hi w v xs ct'):BlkRuns lo hi w v (Sp.number xs ct).1∧Wanes (Sp.steps (Sp.number xs ct).1)∧(Sp.number xs ct).2=ct':=by
 obtain ⟨vs,f,ho,hg,he,rfl,rfl⟩:=h
 have hvl:vs.length=xs.length:=by have:=ho.1; rw [Nat.mul_one] at this; exact this
 have hget:∀ i x,xs[i]?=some x→∃ u,vs[i]?=some u∧StR (f i) lo hi w u x (f (i + 1)):=fun i x hx=>by
  have hi:i<vs.length:=by rw [hvl]; exact (List.getElem?_eq_some_iff.1 hx).1
  exact ⟨_,List.getElem?_eq_getElem hi,he i _ x (List.getElem?_eq_getElem hi) hx⟩
 obtain ⟨h1,h2,h3⟩:=number_get xs f (fun i x hx=>(hget i x hx).choose_spec.2.2.2.2)
 refine ⟨?_,?_,h1⟩
 ·refine block_runs lo hi w v _ vs (by rw [h2]; exact ho) hg (fun i u z hu hz=>?_)
  obtain ⟨x,hx,rfl⟩:=h3 i z hz
  obtain ⟨⟨t,y,rfl,hw⟩,hs,_⟩:=he i u x hu hx
  exact ⟨t,y,rfl,hw,hs⟩
 ·refine steps_wanes _ (fun z hz=>?_)
  obtain ⟨i,hi⟩:=List.getElem?_of_mem hz
  obtain ⟨x,hx,rfl⟩:=h3 i z hi
  exact (hget i x hx).choose_spec.2.2.2.1
theorem mw_assign (p k:Int) (v:Value) (w:World):(method 587 279 (.agg #[.int .i64 p,.int .i64 k,v]) "Where").run Tryz.prog w=.ok (72,.int .i64 p) w:=by kernel_rfl
theorem mw_read (p k:Int) (w:World):(method 587 283 (.agg #[.int .i64 p,.int .i64 k]) "Where").run Tryz.prog w=.ok (72,.int .i64 p) w:=by kernel_rfl
theorem mw_assert (p q k:Int) (v u:Value) (w:World):(method 587 287 (.agg #[.int .i64 p,.int .i64 q,.int .i64 k,v,u]) "Where").run Tryz.prog w=.ok (72,.int .i64 p) w:=by kernel_rfl
theorem mw_if (p k:Int) (v u b c e:Value) (w:World):(method 587 290 (.agg #[.int .i64 p,.int .i64 k,v,u,b,c,e]) "Where").run Tryz.prog w=.ok (72,.int .i64 p) w:=by kernel_rfl
theorem mw_while (p k:Int) (v u b:Value) (w:World):(method 587 293 (.agg #[.int .i64 p,.int .i64 k,v,u,b]) "Where").run Tryz.prog w=.ok (72,.int .i64 p) w:=by kernel_rfl
def RtRn:RepT Sp.Rn RpRn where
 T:=StR
 mono:=by
  intro ct ct' lo hi lo' hi' w w' v x h hl hh hs
  refine ⟨h.1,?_,h.2.2⟩
  intro w2 base b r hso hhB
  exact h.2.1 w2 base b r (fun k h1 h2 hn=>(hso k (by omega) (by omega) (by rw [hs k h1 h2 hn]; exact hn)).trans (hs k h1 h2 hn)) (by omega)
 iface h:=by
  obtain ⟨⟨t,u,e,_⟩,_⟩:=h
  exact ⟨t,u,e⟩
 assign ct lo hi w k v x ct' hk h:=by
  obtain ⟨⟨t,u,rfl⟩,hs,he⟩:=h
  refine ⟨⟨_,_,rfl,mw_assign _ _ _⟩,assign_runs _ lo hi w k hk t u _ hs,fun r=>?_,he⟩
  show (Sp.doAssign k _ r).1.fuel≤r.fuel
  unfold Sp.doAssign
  split <;> exact Nat.le_refl _
 read ct lo hi w k hk:=by
  refine ⟨⟨_,_,rfl,mw_read _ _⟩,read_runs _ lo hi w k hk,fun r=>?_,rfl⟩
  show (Sp.doRead k r).1.fuel≤r.fuel
  unfold Sp.doRead
  split <;> exact Nat.le_refl _
 assert ct lo hi w k v x ct1 u y ct2 hk h h':=by
  obtain ⟨⟨tl,ul,rfl⟩,hs,rfl⟩:=h
  obtain ⟨⟨tr,ur,rfl⟩,hs',rfl⟩:=h'
  refine ⟨⟨_,_,rfl,mw_assert _ _ _ _ _⟩,assert_runs _ _ lo hi w k hk tl ul tr ur _ _ hs hs',fun r=>?_,rfl⟩
  show (Sp.doAssert _ _ r).1.fuel≤r.fuel
  unfold Sp.doAssert
  split <;> exact Nat.le_refl _
 ite ct lo hi w k v x ct1 u y ct2 bv xs ct3 hk h h' hb:=by
  obtain ⟨⟨tl,ul,rfl⟩,hs,rfl⟩:=h
  obtain ⟨⟨tr,ur,rfl⟩,hs',rfl⟩:=h'
  obtain ⟨av,nv,cv,rfl⟩:=blk_slice hb
  obtain ⟨hb1,hb2,rfl⟩:=blk_runs hb
  refine ⟨⟨_,_,rfl,mw_if _ _ _ _ _ _ _⟩,if_runs _ false lo hi w k hk tl ul tr ur _ _ hs hs' av nv cv _ hb1 none 0 0 [] (block_none lo hi w none 0),fun r=>?_,rfl⟩
  show (Sp.doIf _ _ _ r).1.fuel≤r.fuel
  unfold Sp.doIf
  split
  ·exact Nat.le_refl _
  ·exact hb2 r
  ·exact Nat.le_refl _
 iteElse ct lo hi w k v x ct1 u y ct2 bv xs ct3 cv' ys ct4 hk h h' hb hc:=by
  obtain ⟨⟨tl,ul,rfl⟩,hs,rfl⟩:=h
  obtain ⟨⟨tr,ur,rfl⟩,hs',rfl⟩:=h'
  obtain ⟨av,nv,cv,rfl⟩:=blk_slice hb
  obtain ⟨ae,ne,ce,rfl⟩:=blk_slice hc
  obtain ⟨hb1,hb2,rfl⟩:=blk_runs hb
  obtain ⟨hc1,hc2,rfl⟩:=blk_runs hc
  refine ⟨⟨_,_,rfl,mw_if _ _ _ _ _ _ _⟩,if_runs _ true lo hi w k hk tl ul tr ur _ _ hs hs' av nv cv _ hb1 ae ne ce _ hc1,fun r=>?_,rfl⟩
  show (Sp.doIf _ _ _ r).1.fuel≤r.fuel
  unfold Sp.doIf
  split
  ·exact Nat.le_refl _
  ·exact hb2 r
  ·exact hc2 r
 loop ct lo hi w k v x ct1 u y ct2 bv xs ct3 hk h h' hb:=by
  obtain ⟨⟨tl,ul,rfl⟩,hs,rfl⟩:=h
  obtain ⟨⟨tr,ur,rfl⟩,hs',rfl⟩:=h'
  obtain ⟨av,nv,cv,rfl⟩:=blk_slice hb
  obtain ⟨hb1,hb2,rfl⟩:=blk_runs hb
  exact ⟨⟨_,_,rfl,mw_while _ _ _ _ _⟩,while_runs _ lo hi w k hk tl ul tr ur _ _ hs hs' av nv cv _ hb1 hb2,fun r=>loopF_wanes _ _ hb2 _ _ r,rfl⟩
end Go.Proofs.YtiopfihjmkfdmaaGreatDoor
