import Derived.Test.YtiopfihjmkfdmaaGreatDoorX13
import Derived.Defers
import Derived.Recover
import Derived.RegionDies
namespace Go.Proofs.YtiopfihjmkfdmaaGreatDoor
open Go.RowKit
set_option maxRecDepth 100000
set_option maxHeartbeats 400000
theorem Rd.drew {b:Nat} {s:ByteArray} {m1 m2:Nat} {l:Sp.Bs} {o:Nat} {ct:Int × Int} {w:World} (h:Rd b s m1 m2 l o ct w):Rd b s m1 m2 l o ct w.drew:=h.keep rfl (fun _ _ _ _=>rfl)
theorem blk_slice {τ:Type} {T:Int × Int→Nat→Nat→World→Value→τ→Int × Int→Prop} {ct ct':Int × Int} {lo hi:Nat} {w:World} {v:Value} {xs:List τ} (h:Blk T ct lo hi w v xs ct'):∃ a n c,v=.slice a n c:=by
 obtain ⟨vs,f,h1,_⟩:=h
 rcases h1.2 with ⟨rfl,_⟩ | ⟨g,cap,cur,rfl,_⟩
 ·exact ⟨none,0,0,rfl⟩
 ·exact ⟨_,_,_,rfl⟩
set_option maxHeartbeats 2000000 in
theorem loop_calls {A:Sp.Alg} {Rp:Rep A} (Rt:RepT A Rp) (b:Nat) (s:ByteArray) (m1 m2 o n:Nat) (ho:o≤12) (blk:Sp.Bs→Sp.R (List A.T)) (hblk:BlkReads Rt b s m1 m2 o n blk)
  (l:Sp.Bs) (ct:Int × Int) (w:World) (hl:l.length≤n) (h:Rd b s m1 m2 l o (ptUp ct) w) (hE:Env b m1 m2 w) (ht:Sp.tok l=Sp.wWhile) (hcd:∀ c l1,Sp.pCond A o (Sp.next l)=.ok (c,l1)→l1.length<l.length) :
  Calls Tryz.prog 167 #[.pointer (some ⟨b,0,none⟩),.int .i64 ct.1] w (StPost Rt b s m1 m2 o ct w (Sp.pWhile A blk o l)):=by
 have hlt:=h.lt
 cases hr:Sp.pCond A o (Sp.next l) with
 | error er =>
  have hfin:Hid (Sp.pWhile A blk o l=.error er):=by unfold Hid Sp.pWhile; rw [hr]
  go_enter Tryz.func167,Tryz.ntmps167
  go_wp2_with fail
  refine (take_ok h [119,104,105,108,101] ht).mono ?_
  rintro e w1 ⟨rfl,h1,x1⟩
  go_wp2_with fail
  refine (cond_calls Rp b s m1 m2 o ho _ (ptUp ct) w1 h1 (hE.ext x1)).mono ?_
  intro e w2 hp
  rw [hr] at hp
  obtain ⟨N,rfl,hf⟩:=hp
  exact ⟨rfl,bad_postG hfin.out (Faulty.ahead x1 ⟨N,rfl,hf⟩)⟩
 | ok cl =>
  obtain ⟨⟨k,x,y⟩,l1⟩:=cl
  have hl1:=hcd _ _ hr
  cases hb:blk l1 with
  | error er =>
   have hfin:Hid (Sp.pWhile A blk o l=.error er):=by unfold Hid Sp.pWhile; rw [hr]; simp only; rw [hb]
   go_enter Tryz.func167,Tryz.ntmps167
   go_wp2_with fail
   refine (take_ok h [119,104,105,108,101] ht).mono ?_
   rintro e w1 ⟨rfl,h1,x1⟩
   go_wp2_with fail
   refine (cond_calls Rp b s m1 m2 o ho _ (ptUp ct) w1 h1 (hE.ext x1)).mono ?_
   intro e w2 hp
   rw [hr] at hp
   obtain ⟨v,rfl,ct2,⟨tl,ul,tr,ur,ct1,rfl,hk,hl',hrr⟩,h2,x2⟩:=hp
   have H2:Hid (Rd b s m1 m2 l1 o ct2 (w2.alloc (.cells #[.int .i64 (k:Nat),.iface tl ul,.iface tr ur] 285)).drew):=(h2.ext _).drew
   have HE:Hid (Env b m1 m2 (w2.alloc (.cells #[.int .i64 (k:Nat),.iface tl ul,.iface tr ur] 285)).drew):=((hE.ext x1).ext x2).ext ((Ext.refl b w2).alloc _).drew
   have H2lt:=h2.lt
   clear hr hl' hrr hk hcd
   go_wp2_with fail
   have hc:=hblk l1 ct2 _ (by omega) H2.out HE.out
   rw [hb] at hc
   go_region_dies
   all_goals
    refine hc.mono ?_
    rintro e w3 ⟨N,rfl,hf⟩
    exact ⟨rfl,bad_postG hfin.out (Faulty.ahead ((x1.trans x2).alloc _).drew ⟨N,rfl,hf⟩)⟩
  | ok bl =>
   obtain ⟨xs,l2⟩:=bl
   have hfin:Hid (Sp.pWhile A blk o l=.ok (A.loop k x y xs,l2)):=by unfold Hid Sp.pWhile; rw [hr]; simp only; rw [hb]
   go_enter Tryz.func167,Tryz.ntmps167
   go_wp2_with fail
   refine (take_ok h [119,104,105,108,101] ht).mono ?_
   rintro e w1 ⟨rfl,h1,x1⟩
   go_wp2_with fail
   refine (cond_calls Rp b s m1 m2 o ho _ (ptUp ct) w1 h1 (hE.ext x1)).mono ?_
   intro e w2 hp
   rw [hr] at hp
   obtain ⟨v,rfl,ct2,⟨tl,ul,tr,ur,ct1,rfl,hk,hl',hrr⟩,h2,x2⟩:=hp
   have HL:Hid (Rp.S (ptUp ct) (.iface tl ul) x ct1):=hl'
   have HRR:Hid (Rp.S ct1 (.iface tr ur) y ct2):=hrr
   have hk6:k<6:=hk
   have H2:Hid (Rd b s m1 m2 l1 o ct2 (w2.alloc (.cells #[.int .i64 (k:Nat),.iface tl ul,.iface tr ur] 285)).drew):=(h2.ext _).drew
   have HE:Hid (Env b m1 m2 (w2.alloc (.cells #[.int .i64 (k:Nat),.iface tl ul,.iface tr ur] 285)).drew):=((hE.ext x1).ext x2).ext ((Ext.refl b w2).alloc _).drew
   have H2lt:=h2.lt
   clear hr hl' hrr hk hcd
   go_wp2_with fail
   have hc:=hblk l1 ct2 _ (by omega) H2.out HE.out
   rw [hb] at hc
   go_region_with (go_at_call 206; go_must (refine hc.mono ?_); rintro e w3 ⟨vb,rfl,ct3,hvb,h3,x3⟩; obtain ⟨a3,n3,c3,rfl⟩:=blk_slice hvb; have hnb:=new_block (c:=#[.int .i64 (k:Nat),.iface tl ul,.iface tr ur]) (t:=285) (f:=(0,0)) (w:=w2) (w':=w3) ⟨x3.os,x3.tape,x3.output,x3.size,x3.block⟩ H2lt; have k0:=cell_of hnb 0 (v:=.int .i64 (k:Nat)) rfl; have k1:=cell_of hnb 1 (v:=.iface tl ul) rfl; have k2:=cell_of hnb 2 (v:=.iface tr ur) rfl)
   all_goals
    have HB:Hid (Blk Rt.T ct2 w.heap.size w3.heap.size w3 (.slice a3 n3 c3) xs ct3):=Blk.mono Rt hvb (by have:=x1.size; have:=x2.size; show w.heap.size≤(w2.alloc _).heap.size; simp; omega) (Nat.le_refl _) (SameOn.refl _ _ _)
    have X:Hid (Ext b w w3):=(((x1.trans x2).alloc _).drew).trans x3
    clear hvb x3 hc k0 k1 k2 hnb
    go_wp2_with fail
    go_ret
    exact good_postG hfin.out (Rt.loop ct _ _ _ k _ _ ct1 _ _ ct2 _ _ ct3 hk6 HL.out HRR.out HB.out) h3 X.out
end Go.Proofs.YtiopfihjmkfdmaaGreatDoor
namespace Go.Proofs.YtiopfihjmkfdmaaGreatDoor
open Go.RowKit
set_option maxRecDepth 100000
set_option maxHeartbeats 400000
theorem SameOn.setCell {lo hi:Nat} {w w':World} (h:SameOn lo hi w w') {p:Addr} (hp:p.block<lo∨hi≤p.block) (u:Value):SameOn lo hi w (w'.setCell p u) :=
 fun k h1 h2 hn=>by rw [Below.heap_setCell _ _ _ _ (by omega)]; exact h k h1 h2 hn
def ifCells (p:Int) (k:Nat) (x y bv cv:Value) (he:Bool):Array Value:=#[.int .i64 p,.int .i64 (k:Nat),x,y,bv,cv,.bool he]
theorem if_set3 {w:World} {p:Int} {N k:Nat} {x y bv cv:Value} {he:Bool} (h:w.heap[N]?=some (.cells (ifCells p k x y bv cv he) 290)) (v:Value):(w.setCell ⟨N,4,none⟩ v).heap[N]?=some (.cells (ifCells p k x y v cv he) 290):=by
 rw [heap_setCell_at h 4 v]; rfl
theorem if_set4 {w:World} {p:Int} {N k:Nat} {x y bv cv:Value} {he:Bool} (h:w.heap[N]?=some (.cells (ifCells p k x y bv cv he) 290)) (v:Value):(w.setCell ⟨N,5,none⟩ v).heap[N]?=some (.cells (ifCells p k x y bv v he) 290):=by
 rw [heap_setCell_at h 5 v]; rfl
theorem if_set5 {w:World} {p:Int} {N k:Nat} {x y bv cv:Value} {he:Bool} (h:w.heap[N]?=some (.cells (ifCells p k x y bv cv he) 290)) (he':Bool):(w.setCell ⟨N,6,none⟩ (.bool he')).heap[N]?=some (.cells (ifCells p k x y bv cv he') 290):=by
 rw [heap_setCell_at h 6 (.bool he')]; rfl
theorem branch_calls {A:Sp.Alg} {Rp:Rep A} (Rt:RepT A Rp) (b:Nat) (s:ByteArray) (m1 m2 o n:Nat) (ho:o≤12) (blk:Sp.Bs→Sp.R (List A.T)) (hblk:BlkReads Rt b s m1 m2 o n blk) (hbd:∀ l x l1,blk l=.ok (x,l1)→l1.length≤l.length)
  (l:Sp.Bs) (ct:Int × Int) (w:World) (hl:l.length≤n) (h:Rd b s m1 m2 l o (ptUp ct) w) (hE:Env b m1 m2 w) (ht:Sp.tok l=Sp.wIf) (hcd:∀ c l1,Sp.pCond A o (Sp.next l)=.ok (c,l1)→l1.length<l.length) :
  Calls Tryz.prog 166 #[.pointer (some ⟨b,0,none⟩),.int .i64 ct.1] w (StPost Rt b s m1 m2 o ct w (Sp.pIf A blk o l)):=by
 have hlt:=h.lt
 cases hr:Sp.pCond A o (Sp.next l) with
 | error er =>
  have hfin:Hid (Sp.pIf A blk o l=.error er):=by unfold Hid Sp.pIf; rw [hr]
  go_enter Tryz.func166,Tryz.ntmps166
  go_wp2_with fail
  refine (take_ok h [105,102] ht).mono ?_
  rintro e w1 ⟨rfl,h1,x1⟩
  go_wp2_with fail
  refine (cond_calls Rp b s m1 m2 o ho _ (ptUp ct) w1 h1 (hE.ext x1)).mono ?_
  intro e w2 hp
  rw [hr] at hp
  obtain ⟨N,rfl,hf⟩:=hp
  exact ⟨rfl,bad_postG hfin.out (Faulty.ahead x1 ⟨N,rfl,hf⟩)⟩
 | ok cl =>
  obtain ⟨⟨k,x,y⟩,l1⟩:=cl
  have hl1:=hcd _ _ hr
  clear hcd
  go_enter Tryz.func166,Tryz.ntmps166
  go_wp2_with fail
  refine (take_ok h [105,102] ht).mono ?_
  rintro e w1 ⟨rfl,h1,x1⟩
  go_wp2_with fail
  refine (cond_calls Rp b s m1 m2 o ho _ (ptUp ct) w1 h1 (hE.ext x1)).mono ?_
  intro e w2 hp
  rw [hr] at hp
  obtain ⟨v,rfl,ct2,⟨tl,ul,tr,ur,ct1,rfl,hk,hl',hrr⟩,h2,x2⟩:=hp
  have HL:Hid (Rp.S (ptUp ct) (.iface tl ul) x ct1):=hl'
  have HRR:Hid (Rp.S ct1 (.iface tr ur) y ct2):=hrr
  have hk6:k<6:=hk
  have H2:Hid (Rd b s m1 m2 l1 o ct2 (w2.alloc (.cells #[.int .i64 ct.1,.int .i64 (k:Nat),.iface tl ul,.iface tr ur,.slice none 0 0,.slice none 0 0,.bool false] 290))):=h2.ext _
  have HX:Hid (Ext b w (w2.alloc (.cells #[.int .i64 ct.1,.int .i64 (k:Nat),.iface tl ul,.iface tr ur,.slice none 0 0,.slice none 0 0,.bool false] 290))):=(x1.trans x2).alloc _
  have H2lt:=h2.lt
  have hw2:w.heap.size≤w2.heap.size:=by have:=x1.size; have:=x2.size; omega
  have HR:Hid (Sp.pCond A o (Sp.next l)=.ok ((k,x,y),l1)):=hr
  clear hl' hrr hk hr
  go_wp2_with fail
  have hc:=hblk l1 ct2 _ (by omega) H2.out (hE.ext HX.out)
  cases hb:blk l1 with
  | error er =>
   have hfin:Hid (Sp.pIf A blk o l=.error er):=by unfold Hid Sp.pIf; rw [HR.out]; simp only; rw [hb]
   rw [hb] at hc
   refine hc.mono ?_
   rintro e w3 ⟨N,rfl,hf⟩
   exact ⟨rfl,bad_postG hfin.out (Faulty.ahead HX.out ⟨N,rfl,hf⟩)⟩
  | ok bl =>
   obtain ⟨xs,l2⟩:=bl
   rw [hb] at hc
   refine hc.mono ?_
   rintro e w3 ⟨vb,rfl,ct3,hvb,h3,x3⟩
   obtain ⟨a3,n3,c3,rfl⟩:=blk_slice hvb
   have hnb:w3.heap[w2.heap.size]?=some (.cells (ifCells ct.1 k (.iface tl ul) (.iface tr ur) (.slice none 0 0) (.slice none 0 0) false) 290):=new_block x3 H2lt
   have k3:=cell_of hnb 4 (v:=.slice none 0 0) rfl
   have f3:=frozen_of hnb 4
   have hnb4:=if_set3 hnb (.slice a3 n3 c3)
   have H4:Hid (Rd b s m1 m2 l2 o ct3 (w3.setCell ⟨w2.heap.size,4,none⟩ (.slice a3 n3 c3))):=h3.set_other (p:=⟨w2.heap.size,4,none⟩) (by show w2.heap.size ≠ b; omega) (nn_of hnb (by decide)) _
   have X4:Hid (Ext b w (w3.setCell ⟨w2.heap.size,4,none⟩ (.slice a3 n3 c3))):=(HX.out.trans x3).setCell (p:=⟨w2.heap.size,4,none⟩) (.inr hw2) _
   have HB4:Hid (Blk Rt.T ct2 (w2.heap.size + 1) w3.heap.size (w3.setCell ⟨w2.heap.size,4,none⟩ (.slice a3 n3 c3)) (.slice a3 n3 c3) xs ct3):=Blk.mono Rt hvb (by simp) (Nat.le_refl _) ((SameOn.refl _ _ _).setCell (p:=⟨w2.heap.size,4,none⟩) (.inl (by show w2.heap.size<(w2.alloc _).heap.size; simp)) _)
   have hw34:w2.heap.size<w3.heap.size:=heap_lt hnb
   have hdb:=hbd _ _ _ hb
   have HBE:Hid (blk l1=.ok (xs,l2)):=hb
   have cc3:(w3.setCell ⟨w2.heap.size,4,none⟩ (.slice a3 n3 c3)).cell? ⟨b,3,none⟩=some (.string ⟨(Sp.tok l2).toArray⟩):=H4.out.c3
   clear hvb hb hc x3 h3 hnb
   by_cases hel:Sp.tok l2=Sp.wElse
   ·have cc3':(w3.setCell ⟨w2.heap.size,4,none⟩ (.slice a3 n3 c3)).cell? ⟨b,3,none⟩=some (.string ⟨#[101,108,115,101]⟩):=by rw [cc3,hel]; rfl
    clear cc3
    have HEL:Hid (Sp.tok l2=[101,108,115,101]):=hel
    go_wp2_with fail
    clear k3 f3 cc3'
    have hs34:w3.heap.size=(w3.setCell ⟨w2.heap.size,4,none⟩ (.slice a3 n3 c3)).heap.size:=by simp [World.setCell]
    rw [hs34] at HB4 hw34
    clear hs34
    generalize w3.setCell ⟨w2.heap.size,4,none⟩ (.slice a3 n3 c3)=w4 at *
    refine (take_ok H4.out [101,108,115,101] HEL.out).mono ?_
    rintro e w5 ⟨rfl,h5,x5⟩
    have hnb5:w5.heap[w2.heap.size]?=some (.cells (ifCells ct.1 k (.iface tl ul) (.iface tr ur) (.slice a3 n3 c3) (.slice none 0 0) false) 290):=by
     exact x5.keep hnb4 (by omega) (not_num (by decide))
    have k5:=cell_of hnb5 6 (v:=.bool false) rfl
    have f5:=frozen_of hnb5 6
    have hnb6:=if_set5 hnb5 true
    have H6:Hid (Rd b s m1 m2 (Sp.next l2) o ct3 (w5.setCell ⟨w2.heap.size,6,none⟩ (.bool true))):=h5.set_other (p:=⟨w2.heap.size,6,none⟩) (by show w2.heap.size ≠ b; omega) (nn_of hnb5 (by decide)) _
    have X6:Hid (Ext b w (w5.setCell ⟨w2.heap.size,6,none⟩ (.bool true))):=(X4.out.trans x5).setCell (p:=⟨w2.heap.size,6,none⟩) (.inr hw2) _
    have HB6:Hid (Blk Rt.T ct2 (w2.heap.size + 1) w4.heap.size (w5.setCell ⟨w2.heap.size,6,none⟩ (.bool true)) (.slice a3 n3 c3) xs ct3):=Blk.mono Rt HB4.out (Nat.le_refl _) (Nat.le_refl _) ((x5.sameOn (lo:=w2.heap.size + 1) (Nat.le_refl _) (.inl (by omega))).setCell (p:=⟨w2.heap.size,6,none⟩) (.inl (Nat.lt_succ_self _)) _)
    have hs56:w4.heap.size≤(w5.setCell ⟨w2.heap.size,6,none⟩ (.bool true)).heap.size:=by have:=x5.size; simp [World.setCell]; omega
    have hnl:=Sp.next_lt_of_tok HEL.out (by simp)
    clear hnb5 h5 x5 HB4 H4 X4 hnb4
    go_wp2_with fail
    clear k5 f5
    generalize w5.setCell ⟨w2.heap.size,6,none⟩ (.bool true)=w6 at *
    have hc:=hblk (Sp.next l2) ct3 w6 (by omega) H6.out (hE.ext X6.out)
    cases hb:blk (Sp.next l2) with
    | error er =>
     have hfin:Hid (Sp.pIf A blk o l=.error er):=by unfold Hid Sp.pIf; rw [HR.out]; simp only; rw [HBE.out]; simp only; rw [if_pos hel,hb]
     rw [hb] at hc
     refine hc.mono ?_
     rintro e w7 ⟨N,rfl,hf⟩
     exact ⟨rfl,bad_postG hfin.out (Faulty.ahead X6.out ⟨N,rfl,hf⟩)⟩
    | ok cl =>
     obtain ⟨ys,l3⟩:=cl
     have hfin:Hid (Sp.pIf A blk o l=.ok (A.ite k x y xs (some ys),l3)):=by unfold Hid Sp.pIf; rw [HR.out]; simp only; rw [HBE.out]; simp only; rw [if_pos hel,hb]
     rw [hb] at hc
     refine hc.mono ?_
     rintro e w7 ⟨vc,rfl,ct4,hvc,h7,x7⟩
     obtain ⟨a7,n7,c7,rfl⟩:=blk_slice hvc
     have hlt6:=heap_lt hnb6
     have hnb7:w7.heap[w2.heap.size]?=some (.cells (ifCells ct.1 k (.iface tl ul) (.iface tr ur) (.slice a3 n3 c3) (.slice none 0 0) true) 290):=by
      exact x7.keep hnb6 (by omega) (not_num (by decide))
     have k7:=cell_of hnb7 5 (v:=.slice none 0 0) rfl
     have f7:=frozen_of hnb7 5
     have hnb8:=if_set4 hnb7 (.slice a7 n7 c7)
     have q0:=cell_of hnb8 0 (v:=.int .i64 ct.1) rfl
     have q1:=cell_of hnb8 1 (v:=.int .i64 (k:Nat)) rfl
     have q2:=cell_of hnb8 2 (v:=.iface tl ul) rfl
     have q3:=cell_of hnb8 3 (v:=.iface tr ur) rfl
     have q4:=cell_of hnb8 4 (v:=.slice a3 n3 c3) rfl
     have q5:=cell_of hnb8 5 (v:=.slice a7 n7 c7) rfl
     have q6:=cell_of hnb8 6 (v:=.bool true) rfl
     have H8:Hid (Rd b s m1 m2 l3 o ct4 (w7.setCell ⟨w2.heap.size,5,none⟩ (.slice a7 n7 c7))):=h7.set_other (p:=⟨w2.heap.size,5,none⟩) (by show w2.heap.size ≠ b; omega) (nn_of hnb7 (by decide)) _
     have X8:Hid (Ext b w (w7.setCell ⟨w2.heap.size,5,none⟩ (.slice a7 n7 c7))):=(X6.out.trans x7).setCell (p:=⟨w2.heap.size,5,none⟩) (.inr hw2) _
     have hsz8:w7.heap.size≤(w7.setCell ⟨w2.heap.size,5,none⟩ (.slice a7 n7 c7)).heap.size:=by simp [World.setCell]
     have HB8:Hid (Blk Rt.T ct2 w.heap.size (w7.setCell ⟨w2.heap.size,5,none⟩ (.slice a7 n7 c7)).heap.size (w7.setCell ⟨w2.heap.size,5,none⟩ (.slice a7 n7 c7)) (.slice a3 n3 c3) xs ct3) :=
      Blk.mono Rt HB6.out (by omega) (by have:=x7.size; omega) ((x7.sameOn (lo:=w2.heap.size + 1) hs56 (.inl (by omega))).setCell (p:=⟨w2.heap.size,5,none⟩) (.inl (Nat.lt_succ_self _)) _)
     have HC8:Hid (Blk Rt.T ct3 w.heap.size (w7.setCell ⟨w2.heap.size,5,none⟩ (.slice a7 n7 c7)).heap.size (w7.setCell ⟨w2.heap.size,5,none⟩ (.slice a7 n7 c7)) (.slice a7 n7 c7) ys ct4) :=
      Blk.mono Rt hvc (by omega) hsz8 ((SameOn.refl _ _ _).setCell (p:=⟨w2.heap.size,5,none⟩) (.inl (by show w2.heap.size<w6.heap.size; omega)) _)
     clear hvc hb hc hnb8 hnb7 h7 x7 HB6
     go_wp2_with fail
     go_ret
     exact good_postG hfin.out (Rt.iteElse ct _ _ _ k _ _ ct1 _ _ ct2 _ _ ct3 _ _ ct4 hk6 HL.out HRR.out HB8.out HC8.out) H8.out X8.out
   ·have hfin:Hid (Sp.pIf A blk o l=.ok (A.ite k x y xs none,l2)):=by unfold Hid Sp.pIf; rw [HR.out]; simp only; rw [HBE.out]; simp only; rw [if_neg hel]
    have hne:(Sp.tok l2 == [101,108,115,101])=false:=tok_ne_beq hel
    have q0:=cell_of hnb4 0 (v:=.int .i64 ct.1) rfl
    have q1:=cell_of hnb4 1 (v:=.int .i64 (k:Nat)) rfl
    have q2:=cell_of hnb4 2 (v:=.iface tl ul) rfl
    have q3:=cell_of hnb4 3 (v:=.iface tr ur) rfl
    have q4:=cell_of hnb4 4 (v:=.slice a3 n3 c3) rfl
    have q5:=cell_of hnb4 5 (v:=.slice none 0 0) rfl
    have q6:=cell_of hnb4 6 (v:=.bool false) rfl
    have HB8:Hid (Blk Rt.T ct2 w.heap.size (w3.setCell ⟨w2.heap.size,4,none⟩ (.slice a3 n3 c3)).heap.size (w3.setCell ⟨w2.heap.size,4,none⟩ (.slice a3 n3 c3)) (.slice a3 n3 c3) xs ct3) :=
     Blk.mono Rt HB4.out (by omega) (by simp [World.setCell]) (SameOn.refl _ _ _)
    clear hnb4 HB4 hel
    go_wp2_with fail
    go_ret
    exact good_postG hfin.out (Rt.ite ct _ _ _ k _ _ ct1 _ _ ct2 _ _ ct3 hk6 HL.out HRR.out HB8.out) H4.out X4.out
end Go.Proofs.YtiopfihjmkfdmaaGreatDoor
namespace Go.Proofs.YtiopfihjmkfdmaaGreatDoor
open Go.RowKit
set_option maxRecDepth 100000
set_option maxHeartbeats 400000
theorem catch_idle (p q:Addr) (w:World) :
  CallsD Tryz.prog 54 #[.pointer (some p),.pointer (some q)] .returning w fun e u' w'=>e=.returned (.tuple #[])∧u'=.returning∧w'=w:=by
 refine callsD_of_wpS Tryz.func54 rfl fun c₀ cs hu=>?_
 apply wpS_seq
 apply wpS_region
 simp [wpOpsS,go_sem,recoverD,hu,Tryz.ntmps54,Exit.thenS]
 refine wpS_of_wp ?_
 go_wp2_with fail
 cases c₀
 simp_all [bodyPostS,results,Tryz.results54]
theorem assert_fault (a:Addr) (w:World):(Instr.typeAssert (.iface 90 (.pointer (some a))) 20 90 true).run Tryz.prog w=.ok (.tuple #[.pointer (some a),.bool true]) w:=by kernel_rfl
theorem catch_panicking (P Q:Nat) (a:Addr) (w:World) (v0 v1 v3 v4 v2:Value) (hp:w.cell? ⟨P,0,none⟩=some v0) (hp1:w.cell? ⟨P,1,none⟩=some v1) (hp2:w.cell? ⟨P,2,none⟩=some v3) (hp3:w.cell? ⟨P,3,none⟩=some v4) (fp:w.frozen? ⟨P,0,none⟩=false) (fp1:w.frozen? ⟨P,1,none⟩=false) (fp2:w.frozen? ⟨P,2,none⟩=false) (fp3:w.frozen? ⟨P,3,none⟩=false) (hq:w.cell? ⟨Q,0,none⟩=some v2) (fq:w.frozen? ⟨Q,0,none⟩=false) (hpq:P ≠ Q) :
  CallsD Tryz.prog 54 #[.pointer (some ⟨P,0,none⟩),.pointer (some ⟨Q,0,none⟩)] (.panicking [{ v:=.iface 90 (.pointer (some a)),recovered:=false }]) w fun e u' w' =>
   e=.returned (.tuple #[])∧u'=.panicking [{ v:=.iface 90 (.pointer (some a)),recovered:=true }]∧w'=((((w.setCell ⟨P,0,none⟩ (.slice none 0 0)).setCell ⟨P,1,none⟩ (.int .i64 0)).setCell ⟨P,2,none⟩ (.int .i64 0)).setCell ⟨P,3,none⟩ (.slice none 0 0)).setCell ⟨Q,0,none⟩ (.iface 90 (.pointer (some a))):=by
 have hta:=assert_fault a
 have hq2:((((w.setCell ⟨P,0,none⟩ (.slice none 0 0)).setCell ⟨P,1,none⟩ (.int .i64 0)).setCell ⟨P,2,none⟩ (.int .i64 0)).setCell ⟨P,3,none⟩ (.slice none 0 0)).cell? ⟨Q,0,none⟩=some v2:=by
  rw [World.cell?_of_block (w:=w) (by rw [Below.heap_setCell _ _ _ _ (fun e=>hpq e.symm),Below.heap_setCell _ _ _ _ (fun e=>hpq e.symm),Below.heap_setCell _ _ _ _ (fun e=>hpq e.symm),Below.heap_setCell _ _ _ _ (fun e=>hpq e.symm)])]; exact hq
 have fq2:((((w.setCell ⟨P,0,none⟩ (.slice none 0 0)).setCell ⟨P,1,none⟩ (.int .i64 0)).setCell ⟨P,2,none⟩ (.int .i64 0)).setCell ⟨P,3,none⟩ (.slice none 0 0)).frozen? ⟨Q,0,none⟩=false:=by
  rw [World.frozen?_of_block (w:=w) (by rw [Below.heap_setCell _ _ _ _ (fun e=>hpq e.symm),Below.heap_setCell _ _ _ _ (fun e=>hpq e.symm),Below.heap_setCell _ _ _ _ (fun e=>hpq e.symm),Below.heap_setCell _ _ _ _ (fun e=>hpq e.symm)])]; exact fq
 refine callsD_of_wpS Tryz.func54 rfl fun c₀ cs hu=>?_
 apply wpS_seq
 apply wpS_region
 simp [wpOpsS,go_sem,recoverD,hu,Tryz.ntmps54,Exit.thenS]
 refine wpS_of_wp ?_
 change Code.wp _ _ _ { tmps:=#[.pointer (some ⟨P,0,none⟩),.pointer (some ⟨Q,0,none⟩),undef,undef,undef,.iface 90 (.pointer (some a)),undef,undef,undef,undef,undef,undef,undef,undef],defers:=[] } _
 go_wp2_with fail
 simp [bodyPostS,results,Tryz.results54]
end Go.Proofs.YtiopfihjmkfdmaaGreatDoor
namespace Go.Proofs.YtiopfihjmkfdmaaGreatDoor
open Go.RowKit
set_option maxRecDepth 100000
set_option maxHeartbeats 400000
theorem assert_calls {A:Sp.Alg} {Rp:Rep A} (Rt:RepT A Rp) (b:Nat) (s:ByteArray) (m1 m2 o:Nat) (ho:o≤12) (l:Sp.Bs) (ct:Int × Int) (w:World) (h:Rd b s m1 m2 l o (ptUp ct) w) (hE:Env b m1 m2 w) (ht:Sp.tok l=Sp.wAssert) :
  Calls Tryz.prog 165 #[.pointer (some ⟨b,0,none⟩),.int .i64 ct.1] w (StPost Rt b s m1 m2 o ct w (Sp.pAssert A o l)):=by
 have hlt:=h.lt
 cases hr:Sp.pCond A o (Sp.next l) with
 | error er =>
  have hfin:Hid (Sp.pAssert A o l=.error er):=by unfold Hid Sp.pAssert; rw [hr]
  go_enter Tryz.func165,Tryz.ntmps165
  go_wp2_with fail
  refine (take_ok h [97,115,115,101,114,116] ht).mono ?_
  rintro e w1 ⟨rfl,h1,x1⟩
  go_wp2_with fail
  refine (site_calls h1).mono ?_
  rintro e w1b ⟨rfl,h1b,x1b⟩
  go_wp2_with fail
  refine (cond_calls Rp b s m1 m2 o ho _ (siteUp (ptUp ct)) w1b h1b ((hE.ext x1).ext x1b)).mono ?_
  intro e w2 hp
  rw [hr] at hp
  obtain ⟨N,rfl,hf⟩:=hp
  exact ⟨rfl,bad_postG hfin.out (Faulty.ahead (x1.trans x1b) ⟨N,rfl,hf⟩)⟩
 | ok cl =>
  obtain ⟨⟨k,x,y⟩,l1⟩:=cl
  by_cases hs:Sp.tok l1=[59]
  ·have hfin:Hid (Sp.pAssert A o l=.ok (A.assert k x y,Sp.next l1)):=by unfold Hid Sp.pAssert; rw [hr]; simp only; rw [take_yes hs]
   go_enter Tryz.func165,Tryz.ntmps165
   go_wp2_with fail
   refine (take_ok h [97,115,115,101,114,116] ht).mono ?_
   rintro e w1 ⟨rfl,h1,x1⟩
   go_wp2_with fail
   refine (site_calls h1).mono ?_
   rintro e w1b ⟨rfl,h1b,x1b⟩
   go_wp2_with fail
   refine (cond_calls Rp b s m1 m2 o ho _ (siteUp (ptUp ct)) w1b h1b ((hE.ext x1).ext x1b)).mono ?_
   intro e w2 hp
   rw [hr] at hp
   obtain ⟨v,rfl,ct2,⟨tl,ul,tr,ur,ct1,rfl,hk,hl,hrr⟩,h2,x2⟩:=hp
   have HL:Hid (Rp.S (siteUp (ptUp ct)) (.iface tl ul) x ct1):=hl
   have HRR:Hid (Rp.S ct1 (.iface tr ur) y ct2):=hrr
   have hk6:k<6:=hk
   clear hr hl hrr hk
   have H2:Hid (Rd b s m1 m2 l1 o ct2 (w2.alloc (.cells #[.int .i64 (k:Nat),.iface tl ul,.iface tr ur] 285))):=h2.ext _
   go_wp2_with fail
   refine (take_ok H2.out [59] hs).mono ?_
   rintro e w3 ⟨rfl,h3,x3⟩
   have hnb:=new_block x3 h2.lt
   have k0:=cell_of hnb 0 (v:=.int .i64 (k:Nat)) rfl
   have k1:=cell_of hnb 1 (v:=.iface tl ul) rfl
   have k2:=cell_of hnb 2 (v:=.iface tr ur) rfl
   have X:Hid (Ext b w w3):=(((x1.trans x1b).trans x2).alloc _).trans x3
   clear hnb x3
   go_wp2_with fail
   go_ret
   exact good_postG hfin.out (Rt.assert ct _ _ _ k _ _ ct1 _ _ ct2 hk6 HL.out HRR.out) h3 X.out
  ·have hfin:Hid (Sp.pAssert A o l=.error (2,l1.length)):=by unfold Hid Sp.pAssert; rw [hr]; simp only; rw [take_no hs]
   go_enter Tryz.func165,Tryz.ntmps165
   go_wp2_with fail
   refine (take_ok h [97,115,115,101,114,116] ht).mono ?_
   rintro e w1 ⟨rfl,h1,x1⟩
   go_wp2_with fail
   refine (site_calls h1).mono ?_
   rintro e w1b ⟨rfl,h1b,x1b⟩
   go_wp2_with fail
   refine (cond_calls Rp b s m1 m2 o ho _ (siteUp (ptUp ct)) w1b h1b ((hE.ext x1).ext x1b)).mono ?_
   intro e w2 hp
   rw [hr] at hp
   obtain ⟨v,rfl,ct2,⟨tl,ul,tr,ur,ct1,rfl,hk,hl,hrr⟩,h2,x2⟩:=hp
   clear hr hl hrr hk
   have H2:Hid (Rd b s m1 m2 l1 o ct2 (w2.alloc (.cells #[.int .i64 (k:Nat),.iface tl ul,.iface tr ur] 285))):=h2.ext _
   go_wp2_with fail
   refine (take_bad H2.out [59] hs).mono ?_
   rintro e w3 ⟨N,rfl,hf⟩
   exact ⟨rfl,bad_postG hfin.out (Faulty.ahead (((x1.trans x1b).trans x2).alloc _) ⟨N,rfl,hf⟩)⟩
end Go.Proofs.YtiopfihjmkfdmaaGreatDoor
namespace Go.Proofs.YtiopfihjmkfdmaaGreatDoor
namespace Sp
theorem pS_lt {A:Alg} {o:Nat} {l:Bs} {x:A.S} {l1:Bs} (h:pS A o l=.ok (x,l1)):l1.length<l.length :=
 pSum_lt (pUnary_lt _ _) l x l1 h
theorem pCond_lt {A:Alg} {o:Nat} {l:Bs} {c:Nat × A.S × A.S} {l1:Bs} (h:pCond A o l=.ok (c,l1)):l1.length<l.length:=by
 unfold pCond at h
 split at h
 ·rename_i x l2 hr
  have h1:=pS_lt hr
  split at h
  ·split at h
   ·rename_i y l3 hr2
    have h2:=pS_lt hr2
    have h3:=next_le l2
    cases h; omega
   ·cases h
  ·cases h
 ·cases h
theorem pName_lt {l l1:Bs} {k:Nat} (h:pName l=.ok (k,l1)):l1.length<l.length:=by
 obtain ⟨hk,rfl⟩:=pName_ok_iff h
 exact next_lt (tokLen_pos (.inl (nameVal_kind hk)))
theorem take_le {t l l1:Bs} (h:take t l=.ok l1):l1.length≤l.length:=by
 obtain ⟨_,rfl⟩:=take_ok_iff h; exact next_le l
theorem pMany_le {A:Alg} {st:Bs→R A.T} (hs:∀ l x l1,st l=.ok (x,l1)→l1.length<l.length):∀ (m:Nat) (xs:List A.T) (l:Bs) (ys:List A.T) (l1:Bs),pMany A st m xs l=.ok (ys,l1)→l1.length≤l.length
 | 0,xs,l,ys,l1,h=>by unfold pMany at h; cases h; exact Nat.le_refl _
 | m + 1,xs,l,ys,l1,h=>by
  unfold pMany at h
  split at h
  ·split at h
   ·rename_i x l2 hr
    have:=hs _ _ _ hr
    have:=pMany_le hs m _ _ _ _ h
    omega
   ·cases h
  ·cases h; exact Nat.le_refl _
theorem pBlock_lt {A:Alg} {st:Bs→R A.T} (hs:∀ l x l1,st l=.ok (x,l1)→l1.length<l.length) {o:Nat} {l:Bs} {xs:List A.T} {l1:Bs} (h:pBlock A st o l=.ok (xs,l1)):l1.length<l.length:=by
 unfold pBlock at h
 split at h
 ·rename_i l2 hr
  obtain ⟨ht,_,rfl⟩:=enter_ok_iff hr
  have:=next_lt_of_tok ht (by simp)
  split at h
  ·rename_i ys l3 hr2
   have:=pMany_le hs _ _ _ _ _ hr2
   split at h
   ·rename_i l4 hr3
    have:=take_le hr3
    cases h; omega
   ·cases h
  ·cases h
 ·cases h
theorem pStmt_lt {A:Alg}:∀ (n o:Nat) (l:Bs) (x:A.T) (l1:Bs),pStmt A n o l=.ok (x,l1)→l1.length<l.length
 | 0,o,l,x,l1,h=>by unfold pStmt bad at h; cases h
 | n + 1,o,l,x,l1,h=>by
  have hb:∀ l xs l1,pBlock A (pStmt A n (o + 1)) o l=.ok (xs,l1)→l1.length<l.length:=fun l xs l1 h=>pBlock_lt (pStmt_lt n (o + 1)) h
  have hn:=next_le l
  unfold pStmt at h
  split at h
  ·unfold pRead at h
   split at h
   ·rename_i k l2 hr
    have:=pName_lt hr
    split at h
    ·rename_i l3 hr2
     have:=take_le hr2
     cases h; omega
    ·cases h
   ·cases h
  ·split at h
   ·unfold pAssert at h
    split at h
    ·rename_i k x y l2 hr
     have:=pCond_lt hr
     split at h
     ·rename_i l3 hr2
      have:=take_le hr2
      cases h; omega
     ·cases h
    ·cases h
   ·split at h
    ·unfold pIf at h
     split at h
     ·rename_i k x y l2 hr
      have:=pCond_lt hr
      split at h
      ·rename_i xs l3 hr2
       have:=hb _ _ _ hr2
       split at h
       ·split at h
        ·rename_i ys l4 hr3
         have:=hb _ _ _ hr3
         have:=next_le l3
         cases h; omega
        ·cases h
       ·cases h; omega
      ·cases h
     ·cases h
    ·split at h
     ·unfold pWhile at h
      split at h
      ·rename_i k x y l2 hr
       have:=pCond_lt hr
       split at h
       ·rename_i xs l3 hr2
        have:=hb _ _ _ hr2
        cases h; omega
       ·cases h
      ·cases h
     ·unfold pAssign at h
      split at h
      ·rename_i k l2 hr
       have:=pName_lt hr
       split at h
       ·rename_i l3 hr2
        have:=take_le hr2
        split at h
        ·rename_i x l4 hr3
         have:=pS_lt hr3
         split at h
         ·rename_i l5 hr4
          have:=take_le hr4
          cases h; omega
         ·cases h
        ·cases h
       ·cases h
      ·cases h
end Sp
end Go.Proofs.YtiopfihjmkfdmaaGreatDoor
namespace Go.Proofs.YtiopfihjmkfdmaaGreatDoor
open Go.RowKit
set_option maxRecDepth 100000
set_option maxHeartbeats 400000
theorem post_ahead {A:Sp.Alg} {Rp:Rep A} (Rt:RepT A Rp) {b:Nat} {s:ByteArray} {m1 m2 o:Nat} {ct:Int × Int} {w:World} {v0:Value} {r:Sp.R A.T} (e:Ending) (w':World)
  (h:StPost Rt b s m1 m2 o ct (w.setCell ⟨b,5,none⟩ v0) r e w'):PostG (fun ct w' v x ct'=>Rt.T ct w.heap.size w'.heap.size w' v x ct') b s m1 m2 o ct w r e w':=by
 have x:Ext b w (w.setCell ⟨b,5,none⟩ v0):=(Ext.refl b w).setCell (p:=⟨b,5,none⟩) (.inl rfl) _
 have hs:(w.setCell ⟨b,5,none⟩ v0).heap.size=w.heap.size:=by simp [World.setCell]
 unfold StPost at h
 cases r with
 | error er=>exact Faulty.ahead x h
 | ok xl =>
  obtain ⟨v,rfl,ct',hv,h1,x1⟩:=h
  exact ⟨v,rfl,ct',by rw [hs] at hv; exact hv,h1,x.trans x1⟩
theorem statement_step {A:Sp.Alg} {Rp:Rep A} (Rt:RepT A Rp) (b:Nat) (s:ByteArray) (m1 m2 o n:Nat) (ho:o≤12)
  (ih:o<12→StReads Rt 122 b s m1 m2 (o + 1) n (Sp.pStmt A n (o + 1))):StReads Rt 122 b s m1 m2 o (n + 1) (Sp.pStmt A (n + 1) o):=by
 intro l ct w hl h hE
 have hblk:BlkReads Rt b s m1 m2 o (n + 1) (Sp.pBlock A (Sp.pStmt A n (o + 1)) o):=block_reads Rt b s m1 m2 o n ho _ (Sp.pStmt_lt n (o + 1)) ih
 have hbd:∀ l x l1,Sp.pBlock A (Sp.pStmt A n (o + 1)) o l=.ok (x,l1)→l1.length≤l.length:=fun l x l1 h=>Nat.le_of_lt (Sp.pBlock_lt (Sp.pStmt_lt n (o + 1)) h)
 have hcd:∀ c l1,Sp.pCond A o (Sp.next l)=.ok (c,l1)→l1.length<l.length:=fun c l1 h=>by have:=Sp.pCond_lt h; have:=Sp.next_le l; omega
 have h5:=h.c5
 have f5:=h.fz 5
 obtain ⟨hp,xp⟩:=rd_point h (RowKit.wrap64 (ct.1 + 1))
 have HP:Hid (Rd b s m1 m2 l o (ptUp ct) (w.setCell ⟨b,5,none⟩ (.int .i64 (RowKit.wrap64 (ct.1 + 1))))):=hp
 have c3:=hp.c3
 have hE0:=hE.ext xp
 clear hp
 unfold Sp.pStmt
 by_cases t1:Sp.tok l=Sp.wRead
 ·rw [if_pos t1]
  have c3':(w.setCell ⟨b,5,none⟩ (.int .i64 (RowKit.wrap64 (ct.1 + 1)))).cell? ⟨b,3,none⟩=some (.string ⟨#[114,101,97,100]⟩):=by rw [c3,t1]; rfl
  have hc:Calls Tryz.prog 164 #[.pointer (some ⟨b,0,none⟩),.int .i64 ct.1] (w.setCell ⟨b,5,none⟩ (.int .i64 (RowKit.wrap64 (ct.1 + 1)))) (PostG (fun ct w' v x ct'=>Rt.T ct w.heap.size w'.heap.size w' v x ct') b s m1 m2 o ct w (Sp.pRead A l)):=(read_calls Rt b s m1 m2 o l ct _ HP.out t1).mono (post_ahead Rt)
  clear c3 ih hblk hbd hcd
  generalize Sp.pRead A l=r at hc ⊢
  cases r with
  | error er =>
   go_enter Tryz.func122,Tryz.ntmps122
   go_wp2_with fail
   refine hc.mono ?_
   rintro e w1 ⟨N,rfl,hf⟩
   exact ⟨rfl,N,rfl,hf⟩
  | ok xl =>
   obtain ⟨x,l1⟩:=xl
   go_enter Tryz.func122,Tryz.ntmps122
   go_wp2_with fail
   refine hc.mono ?_
   rintro e w1 ⟨v,rfl,ct1,hv,h1,x1⟩
   go_wp2_with fail
   go_ret
   exact ⟨v,rfl,ct1,hv,h1,x1⟩
 ·rw [if_neg t1]
  have b1:(Sp.tok l == [114,101,97,100])=false:=tok_ne_beq t1
  by_cases t2:Sp.tok l=Sp.wAssert
  ·rw [if_pos t2]
   have c3':(w.setCell ⟨b,5,none⟩ (.int .i64 (RowKit.wrap64 (ct.1 + 1)))).cell? ⟨b,3,none⟩=some (.string ⟨#[97,115,115,101,114,116]⟩):=by rw [c3,t2]; rfl
   have hc:Calls Tryz.prog 165 #[.pointer (some ⟨b,0,none⟩),.int .i64 ct.1] (w.setCell ⟨b,5,none⟩ (.int .i64 (RowKit.wrap64 (ct.1 + 1)))) (PostG (fun ct w' v x ct'=>Rt.T ct w.heap.size w'.heap.size w' v x ct') b s m1 m2 o ct w (Sp.pAssert A o l)):=(assert_calls Rt b s m1 m2 o ho l ct _ HP.out hE0 t2).mono (post_ahead Rt)
   clear c3 ih hblk hbd hcd b1
   generalize Sp.pAssert A o l=r at hc ⊢
   cases r with
   | error er =>
    go_enter Tryz.func122,Tryz.ntmps122
    go_wp2_with fail
    refine hc.mono ?_
    rintro e w1 ⟨N,rfl,hf⟩
    exact ⟨rfl,N,rfl,hf⟩
   | ok xl =>
    obtain ⟨x,l1⟩:=xl
    go_enter Tryz.func122,Tryz.ntmps122
    go_wp2_with fail
    refine hc.mono ?_
    rintro e w1 ⟨v,rfl,ct1,hv,h1,x1⟩
    go_wp2_with fail
    go_ret
    exact ⟨v,rfl,ct1,hv,h1,x1⟩
  ·rw [if_neg t2]
   have b2:(Sp.tok l == [97,115,115,101,114,116])=false:=tok_ne_beq t2
   by_cases t3:Sp.tok l=Sp.wIf
   ·rw [if_pos t3]
    have c3':(w.setCell ⟨b,5,none⟩ (.int .i64 (RowKit.wrap64 (ct.1 + 1)))).cell? ⟨b,3,none⟩=some (.string ⟨#[105,102]⟩):=by rw [c3,t3]; rfl
    have hc:Calls Tryz.prog 166 #[.pointer (some ⟨b,0,none⟩),.int .i64 ct.1] (w.setCell ⟨b,5,none⟩ (.int .i64 (RowKit.wrap64 (ct.1 + 1)))) (PostG (fun ct w' v x ct'=>Rt.T ct w.heap.size w'.heap.size w' v x ct') b s m1 m2 o ct w (Sp.pIf A (fun l=>Sp.pBlock A (Sp.pStmt A n (o + 1)) o l) o l)):=(branch_calls Rt b s m1 m2 o (n + 1) ho _ hblk hbd l ct _ (by omega) HP.out hE0 t3 hcd).mono (post_ahead Rt)
    clear c3 ih hblk hbd hcd b1 b2
    generalize Sp.pIf A (fun l=>Sp.pBlock A (Sp.pStmt A n (o + 1)) o l) o l=r at hc ⊢
    cases r with
    | error er =>
     go_enter Tryz.func122,Tryz.ntmps122
     go_wp2_with fail
     refine hc.mono ?_
     rintro e w1 ⟨N,rfl,hf⟩
     exact ⟨rfl,N,rfl,hf⟩
    | ok xl =>
     obtain ⟨x,l1⟩:=xl
     go_enter Tryz.func122,Tryz.ntmps122
     go_wp2_with fail
     refine hc.mono ?_
     rintro e w1 ⟨v,rfl,ct1,hv,h1,x1⟩
     go_wp2_with fail
     go_ret
     exact ⟨v,rfl,ct1,hv,h1,x1⟩
   ·rw [if_neg t3]
    have b3:(Sp.tok l == [105,102])=false:=tok_ne_beq t3
    by_cases t4:Sp.tok l=Sp.wWhile
    ·rw [if_pos t4]
     have c3':(w.setCell ⟨b,5,none⟩ (.int .i64 (RowKit.wrap64 (ct.1 + 1)))).cell? ⟨b,3,none⟩=some (.string ⟨#[119,104,105,108,101]⟩):=by rw [c3,t4]; rfl
     have hc:Calls Tryz.prog 167 #[.pointer (some ⟨b,0,none⟩),.int .i64 ct.1] (w.setCell ⟨b,5,none⟩ (.int .i64 (RowKit.wrap64 (ct.1 + 1)))) (PostG (fun ct w' v x ct'=>Rt.T ct w.heap.size w'.heap.size w' v x ct') b s m1 m2 o ct w (Sp.pWhile A (fun l=>Sp.pBlock A (Sp.pStmt A n (o + 1)) o l) o l)):=(loop_calls Rt b s m1 m2 o (n + 1) ho _ hblk l ct _ (by omega) HP.out hE0 t4 hcd).mono (post_ahead Rt)
     clear c3 ih hblk hbd hcd b1 b2 b3
     generalize Sp.pWhile A (fun l=>Sp.pBlock A (Sp.pStmt A n (o + 1)) o l) o l=r at hc ⊢
     cases r with
     | error er =>
      go_enter Tryz.func122,Tryz.ntmps122
      go_wp2_with fail
      refine hc.mono ?_
      rintro e w1 ⟨N,rfl,hf⟩
      exact ⟨rfl,N,rfl,hf⟩
     | ok xl =>
      obtain ⟨x,l1⟩:=xl
      go_enter Tryz.func122,Tryz.ntmps122
      go_wp2_with fail
      refine hc.mono ?_
      rintro e w1 ⟨v,rfl,ct1,hv,h1,x1⟩
      go_wp2_with fail
      go_ret
      exact ⟨v,rfl,ct1,hv,h1,x1⟩
    ·rw [if_neg t4]
     have b4:(Sp.tok l == [119,104,105,108,101])=false:=tok_ne_beq t4
     have hc:Calls Tryz.prog 168 #[.pointer (some ⟨b,0,none⟩),.int .i64 ct.1] (w.setCell ⟨b,5,none⟩ (.int .i64 (RowKit.wrap64 (ct.1 + 1)))) (PostG (fun ct w' v x ct'=>Rt.T ct w.heap.size w'.heap.size w' v x ct') b s m1 m2 o ct w (Sp.pAssign A o l)):=(assign_calls Rt b s m1 m2 o ho l ct _ HP.out hE0).mono (post_ahead Rt)
     clear ih hblk hbd hcd t1 t2 t3 t4
     generalize Sp.pAssign A o l=r at hc ⊢
     cases r with
     | error er =>
      go_enter Tryz.func122,Tryz.ntmps122
      go_wp2_with fail
      refine hc.mono ?_
      rintro e w1 ⟨N,rfl,hf⟩
      exact ⟨rfl,N,rfl,hf⟩
     | ok xl =>
      obtain ⟨x,l1⟩:=xl
      go_enter Tryz.func122,Tryz.ntmps122
      go_wp2_with fail
      refine hc.mono ?_
      rintro e w1 ⟨v,rfl,ct1,hv,h1,x1⟩
      go_wp2_with fail
      go_ret
      exact ⟨v,rfl,ct1,hv,h1,x1⟩
theorem statement_reads {A:Sp.Alg} {Rp:Rep A} (Rt:RepT A Rp) (b:Nat) (s:ByteArray) (m1 m2:Nat):∀ (n o:Nat),o≤12→StReads Rt 122 b s m1 m2 o n (Sp.pStmt A n o)
 | 0,_,_=>fun l _ _ hl _ _=>absurd hl (Nat.not_lt_zero _)
 | n + 1,o,ho=>statement_step Rt b s m1 m2 o n ho (fun h=>statement_reads Rt b s m1 m2 n (o + 1) (by omega))
end Go.Proofs.YtiopfihjmkfdmaaGreatDoor
