import Derived.Test.YtiopfihjmkfdmaaGreatDoorX11
import Derived.BigQuiet
import Derived.Deep.QuietTactic
namespace Go.Proofs.YtiopfihjmkfdmaaGreatDoor
open Go.RowKit
set_option maxRecDepth 100000
set_option maxHeartbeats 400000
structure Rep (A:Sp.Alg) where
 S:Int × Int→Value→A.S→Int × Int→Prop
 iface:∀ ct v x ct',S ct v x ct'→∃ t u,v=.iface t u
 num:∀ ct n,n≤32767→S ct (.iface 226 (.int .i16 (n:Nat))) (A.num n) ct
 name:∀ ct k,k<8→S ct (.iface 275 (.int .i64 (k:Nat))) (A.name k) ct
 neg:∀ ct v x ct',S ct v x ct'→S ct (.iface 330 (.agg #[v])) (A.neg x) ct'
 bin:∀ ct k v x ct1 u y ct2,k<3→S ct v x ct1→S ct1 u y ct2→S ct (.iface 334 (.agg #[.int .i64 (k:Nat),.int .i64 0,v,u])) (A.bin k x y) ct2
 binSite:∀ ct k v x ct1 u y ct2,3≤k→k<5→S ct v x ct1→S (ct1.1,RowKit.wrap64 (ct1.2 + 1)) u y ct2→S ct (.iface 334 (.agg #[.int .i64 (k:Nat),.int .i64 ct1.2,v,u])) (A.bin k x y) ct2
structure Env (b m1 m2:Nat) (w:World):Prop where
 laid:Laid w
 ops:OpsMap m1 w
 rels:RelsMap m2 w
 ne1:m1 ≠ b
 ne2:m2 ≠ b
 nb:11≤b
theorem Laid.ext {b:Nat} {w w':World} (h:Laid w) (x:Ext b w w') (hb:11≤b):Laid w':=h.below (x.below hb h.size) (Nat.le_refl _)
theorem Env.ext {b m1 m2:Nat} {w w':World} (h:Env b m1 m2 w) (x:Ext b w w'):Env b m1 m2 w' :=
 ⟨h.laid.ext x h.nb,h.ops.ext x h.ne1,h.rels.ext x h.ne2,h.ne1,h.ne2,h.nb⟩
def PostS {A:Sp.Alg} (Rp:Rep A) (b:Nat) (s:ByteArray) (m1 m2 o:Nat) (ct:Int × Int) (w:World):Sp.R A.S→Ending→World→Prop
 | .ok (x,l'),e,w'=>∃ v,e=.returned v∧∃ ct',Rp.S ct v x ct'∧Rd b s m1 m2 l' o ct' w'∧Ext b w w'
 | .error er,e,w'=>Faulty s b w er e w'
def restOf (b:Nat) (s:ByteArray) (w:World):Nat:=match w.cell? ⟨b,1,none⟩ with
 | some (.int _ q)=>s.size - q.toNat
 | _=>0
theorem Rd.rest {b:Nat} {s:ByteArray} {m1 m2:Nat} {l:Sp.Bs} {o:Nat} {ct:Int × Int} {w:World} (h:Rd b s m1 m2 l o ct w):restOf b s w=l.length:=by
 unfold restOf
 rw [h.c1]
 have:=h.len
 simp
 omega
theorem Rd.tokLen400 {b:Nat} {s:ByteArray} {m1 m2:Nat} {l:Sp.Bs} {o:Nat} {ct:Int × Int} {w:World} (h:Rd b s m1 m2 l o ct w):(Sp.tok l).length≤400:=by
 have:=Sp.tok_length l; have:=Sp.tokLen_le l; have:=h.len; have:=h.sz; omega
theorem heap_drewN (w:World) (k:Nat):(w.drewN k).heap=w.heap:=by
 simp [World.drewN]
theorem OpsMap.drewN {m:Nat} {w:World} (h:OpsMap m w) (k:Nat):OpsMap m (w.drewN k):=by
 obtain ⟨es,clock,hh,r⟩:=h
 exact ⟨es,clock,by rw [heap_drewN]; exact hh,r⟩
theorem RelsMap.drewN {m:Nat} {w:World} (h:RelsMap m w) (k:Nat):RelsMap m (w.drewN k):=by
 obtain ⟨es,clock,hh,r⟩:=h
 exact ⟨es,clock,by rw [heap_drewN]; exact hh,r⟩
theorem Rd.drewN {b:Nat} {s:ByteArray} {m1 m2:Nat} {l:Sp.Bs} {o:Nat} {ct:Int × Int} {w:World} (h:Rd b s m1 m2 l o ct w) (k:Nat):Rd b s m1 m2 l o ct (w.drewN k):=h.keep rfl (fun _ _ _ _=>rfl)
theorem Ext.drewN {b:Nat} {w w':World} (h:Ext b w w') (k:Nat):Ext b w (w'.drewN k):=⟨h.os,h.tape,h.output,h.size,h.block⟩
theorem Env.drewN {b m1 m2:Nat} {w:World} (h:Env b m1 m2 w) (k:Nat):Env b m1 m2 (w.drewN k):=h.ext ((Ext.refl b w).drewN k)
theorem ops_look_none {m:Nat} {w:World} (h:OpsMap m w) (t:Sp.Bs) (ht:t.length≤400) (ho:Sp.opOf t=none) (k:Nat) :
  (Instr.lookup 141 (.map (some m)) (.string ⟨t.toArray⟩) true).run Tryz.prog (w.drewN k)=.ok (.tuple #[.int .i64 0,.bool false]) (w.drewN k):=by
 rw [ops_look (h.drewN k) t ht,ho]; rfl
theorem ops_look_some {m:Nat} {w:World} (h:OpsMap m w) (t:Sp.Bs) (ht:t.length≤400) {j:Nat} (ho:Sp.opOf t=some j) (k:Nat) :
  (Instr.lookup 141 (.map (some m)) (.string ⟨t.toArray⟩) true).run Tryz.prog (w.drewN k)=.ok (.tuple #[.int .i64 (j:Nat),.bool true]) (w.drewN k):=by
 rw [ops_look (h.drewN k) t ht,ho]; rfl
theorem opOf_lt {t:Sp.Bs} {k:Nat} (h:Sp.opOf t=some k):k<5:=by
 unfold Sp.opOf at h
 repeat' split at h
 all_goals first | (cases h; decide) | cases h
theorem opOf_next {l:Sp.Bs} {k:Nat} (h:Sp.opOf (Sp.tok l)=some k):(Sp.next l).length<l.length:=by
 apply Sp.next_lt
 rw [← Sp.tok_length]
 apply List.length_pos_iff.2
 intro e
 rw [e] at h
 simp [Sp.opOf] at h
theorem kind_of_op {l:Sp.Bs} {k:Nat} (h:Sp.opOf (Sp.tok l)=some k):Sp.tokKind l ≠ 3:=by
 intro h3
 obtain ⟨hne,hd⟩:=digits_of_kind h3
 revert h hne hd
 generalize Sp.tok l=t
 intro h hne hd
 cases t with
 | nil=>exact hne rfl
 | cons c r =>
  have hc:=hd c (by simp)
  unfold Sp.isDig at hc
  simp at hc
  unfold Sp.opOf at h
  repeat' split at h
  all_goals first
   | (rename_i e; injection e with e1 _; subst e1; revert hc; decide)
   | cases h
theorem Ext.undrewN {b:Nat} {w w':World} {k:Nat} (h:Ext b (w.drewN k) w'):Ext b w w':=⟨h.os,h.tape,h.output,h.size,h.block⟩
theorem Rd.ext {b:Nat} {s:ByteArray} {m1 m2:Nat} {l:Sp.Bs} {o:Nat} {ct:Int × Int} {w:World} (h:Rd b s m1 m2 l o ct w) (ob:Obj):Rd b s m1 m2 l o ct (w.alloc ob):=h.keep (Below.heap_alloc _ _ _ h.lt) (fun _ _ hk _=>Below.heap_alloc _ _ _ hk)
theorem new_block {b:Nat} {w w':World} {c:Array Value} {t:TypeId} {f:Nat × Nat} (x:Ext b (w.alloc (.cells c t f)) w') (hb:b<w.heap.size) (ht:t ≠ 226:=by decide):w'.heap[w.heap.size]?=some (.cells c t f) :=
 x.keep (heap_alloc_new _ _) (by omega) (not_num ht)
theorem Rd.set_other {b:Nat} {s:ByteArray} {m1 m2:Nat} {l:Sp.Bs} {o:Nat} {ct:Int × Int} {w:World} (h:Rd b s m1 m2 l o ct w) {p:Addr} (hp:p.block ≠ b) (hn:¬ NumB w.heap[p.block]?) (u:Value):Rd b s m1 m2 l o ct (w.setCell p u) :=
 h.keep (Below.heap_setCell _ _ _ _ (fun e=>hp e.symm)) (fun k _ _ hk=>Below.heap_setCell _ _ _ _ (fun e=>hn (by rw [← e]; exact hk)))
def binCells (k:Nat) (q:Int) (x y:Value):Array Value:=#[.int .i64 (k:Nat),.int .i64 q,x,y]
theorem bin_set1 {w:World} {N k:Nat} {q:Int} {x y:Value} (h:w.heap[N]?=some (.cells (binCells k q x y) 334)) (q':Int):(w.setCell ⟨N,1,none⟩ (.int .i64 q')).heap[N]?=some (.cells (binCells k q' x y) 334):=by
 rw [heap_setCell_at h 1 (.int .i64 q')]; rfl
theorem bin_set3 {w:World} {N k:Nat} {q:Int} {x y:Value} (h:w.heap[N]?=some (.cells (binCells k q x y) 334)) (v:Value):(w.setCell ⟨N,3,none⟩ v).heap[N]?=some (.cells (binCells k q x v) 334):=by
 rw [heap_setCell_at h 3 v]; rfl
set_option maxHeartbeats 2000000 in
theorem chain_unary {A:Sp.Alg} (Rp:Rep A) (b:Nat) (s:ByteArray) (m1 m2 o n:Nat) (u:Sp.Bs→Sp.R A.S)
  (hdec:Hid (∀ l x l1,u l=.ok (x,l1)→l1.length≤l.length))
  (hu:Hid (∀ l ct w,l.length<n→Rd b s m1 m2 l o ct w→Env b m1 m2 w→Calls Tryz.prog 247 #[.pointer (some ⟨b,0,none⟩)] w (PostS Rp b s m1 m2 o ct w (u l))))
  (l:Sp.Bs) (ct:Int × Int) (w:World) (hl:l.length<n) (h:Rd b s m1 m2 l o ct w) (hE:Env b m1 m2 w) :
  Calls Tryz.prog 234 #[.pointer (some ⟨b,0,none⟩),.int .i64 1,.func (Fn.func 247) #[.pointer (some ⟨b,0,none⟩)] #[]] w (PostS Rp b s m1 m2 o ct w (Sp.pWith A 1 u l)):=by
 go_enter Tryz.func234,Tryz.ntmps234
 go_wp2_with fail
 refine (hu.out l ct _ hl h hE).mono ?_
 intro e w1 hp
 cases hr:u l with
 | error er =>
  rw [hr] at hp
  obtain ⟨N,rfl,hf⟩:=hp
  refine ⟨rfl,?_⟩
  unfold Sp.pWith
  rw [hr]
  exact ⟨N,rfl,hf⟩
 | ok xl =>
  obtain ⟨x,l1⟩:=xl
  rw [hr] at hp
  obtain ⟨v,rfl,ct1,hv,h1,x1⟩:=hp
  obtain ⟨tv,uv,rfl⟩:=Rp.iface _ _ _ _ hv
  go_wp2_with fail
  go_loopw [7] (fun t wr=>∃ (tt:TypeId) (uu:Value) (x':A.S) (l':Sp.Bs) (m:Nat) (ct':Int × Int),t=.iface tt uu∧Hid (Rp.S ct (.iface tt uu) x' ct')∧Hid (l'.length<m∧l'.length<n∧Sp.pWith A 1 u l=Sp.pChain A 1 u m x' l')∧Hid (Rd b s m1 m2 l' o ct' wr∧Env b m1 m2 wr∧Ext b w wr)) (fun _ wr=>restOf b s wr)
  case atStart => 
   refine ⟨tv,uv,x,l1,l1.length + 1,ct1,rfl,hv,⟨Nat.lt_succ_self _,?_,?_⟩,h1,hE.ext x1,x1⟩
   ·have:=hdec.out l x l1 hr
    omega
   ·unfold Sp.pWith
    rw [hr]
  case round =>
   obtain ⟨tt,uu,x',l',m,ct',rfl,hv',hm',hs'⟩:=hrel
   have c3:=hs'.out.1.c3
   have c7:=hs'.out.1.c7
   cases ho:Sp.opOf (Sp.tok l') with
   | none =>
    have hlk:=ops_look_none hs'.out.2.1.ops (Sp.tok l') hs'.out.1.tokLen400 ho
    have HO:Hid (Sp.opOf (Sp.tok l')=none):=ho
    clear ho
    have hfin:Hid (Sp.pWith A 1 u l=.ok (x',l')):=by
     unfold Hid
     rw [hm'.out.2.2]
     cases m with
     | zero=>rfl
     | succ m=>unfold Sp.pChain; rw [HO.out]
    clear HO
    go_wp2_with fail
    go_quiet (fail)
    go_wp2_with fail
    go_ret
    rw [hfin.out]
    exact ⟨_,rfl,ct',hv',hs'.out.1.drewN _,hs'.out.2.2.drewN _⟩
   | some k =>
    have hlk:=ops_look_some hs'.out.2.1.ops (Sp.tok l') hs'.out.1.tokLen400 ho
    have hk5:k<5:=opOf_lt ho
    have HO:Hid (Sp.opOf (Sp.tok l')=some k):=ho
    clear ho
    by_cases hlv:Sp.opLevel k=1
    ·have HLV:Hid (Sp.opLevel k=1):=hlv
     clear hlv
     go_wp2_with fail
     go_quiet (fail)
     go_wp2_with fail
     refine (opLevel_calls k hk5 _).mono ?_
     rintro e w2 ⟨rfl,rfl⟩
     rw [HLV.out]
     go_wp2_with fail
     refine (step_calls (hs'.out.1.drewN _) (kind_of_op HO.out)).mono ?_
     rintro e w2 ⟨rfl,h2,x2⟩
     have H2:Hid (Rd b s m1 m2 (Sp.next l') o ct' (w2.alloc (.cells #[.int .i64 (k:Nat),.int .i64 0,.iface tt uu,.nilIface] 334))):=h2.ext _
     have h2lt:=h2.lt
     have hlt:=opOf_next HO.out
     have X3:Hid (Ext b w (w2.alloc (.cells #[.int .i64 (k:Nat),.int .i64 0,.iface tt uu,.nilIface] 334))∧Ext b wr (w2.alloc (.cells #[.int .i64 (k:Nat),.int .i64 0,.iface tt uu,.nilIface] 334))):=⟨(hs'.out.2.2.trans x2.undrewN).alloc _,x2.undrewN.alloc _⟩
     have hNb:Hid ((w2.alloc (.cells #[.int .i64 (k:Nat),.int .i64 0,.iface tt uu,.nilIface] 334)).heap[w2.heap.size]?=some (.cells (binCells k 0 (.iface tt uu) .nilIface) 334)):=heap_alloc_new _ _
     have hws:w.heap.size≤w2.heap.size:=(hs'.out.2.2.trans x2.undrewN).size
     go_wp2_with fail
     refine (hasSite_calls k hk5 _).mono ?_
     rintro e w2' ⟨rfl,rfl⟩
     by_cases hst:3≤k
     ·rw [show decide (3≤k)=true from decide_eq_true hst]
      go_wp2_with fail
      generalize w2.alloc (.cells #[.int .i64 (k:Nat),.int .i64 0,.iface tt uu,.nilIface] 334)=wn at *
      refine (site_calls H2.out).mono ?_
      rintro e w3 ⟨rfl,h3,x3⟩
      have hnb:w3.heap[w2.heap.size]?=some (.cells (binCells k 0 (.iface tt uu) .nilIface) 334):=by
       exact x3.keep hNb.out (by omega) (not_num (by decide))
      have k1:=cell_of hnb 1 (v:=.int .i64 0) rfl
      have f1:=frozen_of hnb 1
      have hnb1:=bin_set1 hnb ct'.2
      have H3:Hid (Rd b s m1 m2 (Sp.next l') o (ct'.1,RowKit.wrap64 (ct'.2 + 1)) (w3.setCell ⟨w2.heap.size,1,none⟩ (.int .i64 ct'.2))):=h3.set_other (p:=⟨w2.heap.size,1,none⟩) (by show w2.heap.size ≠ b; omega) (nn_of hnb (by decide)) _
      have X4:Hid (Ext b w (w3.setCell ⟨w2.heap.size,1,none⟩ (.int .i64 ct'.2))∧Env b m1 m2 (w3.setCell ⟨w2.heap.size,1,none⟩ (.int .i64 ct'.2))):=by
       have e:=(X3.out.1.trans x3).setCell (p:=⟨w2.heap.size,1,none⟩) (.inr hws) (.int .i64 ct'.2)
       exact ⟨e,hE.ext e⟩
      have HNB:Hid (_=_):=hnb1
      clear hnb1 hnb
      go_wp2_with fail
      clear k1 f1
      generalize w3.setCell ⟨w2.heap.size,1,none⟩ (.int .i64 ct'.2)=w5 at *
      have hp3:=hu.out (Sp.next l') _ w5 (by have:=hm'.out.2.1; omega) H3.out X4.out.2
      refine hp3.mono ?_
      intro e w4 hp4
      cases hr4:u (Sp.next l') with
      | error er =>
       rw [hr4] at hp4
       have hfin:Sp.pWith A 1 u l=.error er:=by
        rw [hm'.out.2.2]
        cases m with
        | zero=>exact absurd hm'.out.1 (by omega)
        | succ m=>unfold Sp.pChain; rw [HO.out]; simp only; rw [if_pos HLV.out,hr4]
       obtain ⟨N,rfl,hf⟩:=hp4
       refine ⟨rfl,?_⟩
       rw [hfin]
       exact Faulty.ahead X4.out.1 ⟨N,rfl,hf⟩
      | ok yl =>
       obtain ⟨y,l2⟩:=yl
       rw [hr4] at hp4
       obtain ⟨vy,rfl,ct4,hvy,h4,x4⟩:=hp4
       obtain ⟨ty,uy,rfl⟩:=Rp.iface _ _ _ _ hvy
       have hd4:=hdec.out _ _ _ hr4
       have HB:Hid (Rp.S ct (.iface 334 (.agg #[.int .i64 (k:Nat),.int .i64 ct'.2,.iface tt uu,.iface ty uy])) (A.bin k x' y) ct4):=Rp.binSite ct k _ _ _ _ _ _ hst hk5 hv'.out hvy
       have hnew:Hid (l2.length<m - 1∧l2.length<n∧Sp.pWith A 1 u l=Sp.pChain A 1 u (m - 1) (A.bin k x' y) l2):=by
        have:=hm'.out.1
        have:=hm'.out.2.1
        refine ⟨by omega,by omega,?_⟩
        rw [hm'.out.2.2]
        cases m with
        | zero=>exact absurd hm'.out.1 (by omega)
        | succ m =>
         have e:Sp.pChain A 1 u (m + 1) x' l'=Sp.pChain A 1 u m (A.bin k x' y) l2:=by
          conv=>lhs; unfold Sp.pChain
          rw [HO.out]; simp only; rw [if_pos HLV.out,hr4]
         exact e
       have hnb:w4.heap[w2.heap.size]?=some (.cells (binCells k ct'.2 (.iface tt uu) .nilIface) 334):=by
        exact x4.keep HNB.out (by omega) (not_num (by decide))
       have k3:=cell_of hnb 3 (v:=.nilIface) rfl
       have f3:=frozen_of hnb 3
       have hnb3:=bin_set3 hnb (.iface ty uy)
       have q0:=cell_of hnb3 0 (v:=.int .i64 (k:Nat)) rfl
       have q1:=cell_of hnb3 1 (v:=.int .i64 ct'.2) rfl
       have q2:=cell_of hnb3 2 (v:=.iface tt uu) rfl
       have q3:=cell_of hnb3 3 (v:=.iface ty uy) rfl
       have h6:Rd b s m1 m2 l2 o ct4 (w4.setCell ⟨w2.heap.size,3,none⟩ (.iface ty uy)):=h4.set_other (p:=⟨w2.heap.size,3,none⟩) (by show w2.heap.size ≠ b; omega) (nn_of hnb (by decide)) _
       have x6:Ext b w (w4.setCell ⟨w2.heap.size,3,none⟩ (.iface ty uy)):=(X4.out.1.trans x4).setCell (p:=⟨w2.heap.size,3,none⟩) (.inr hws) _
       have hrest:restOf b s (w4.setCell ⟨w2.heap.size,3,none⟩ (.iface ty uy))<restOf b s wr:=by
        rw [h6.rest,hs'.out.1.rest]; omega
       have HREST:Hid (_<_):=hrest
       have HS:Hid (Rd b s m1 m2 l2 o ct4 (w4.setCell ⟨w2.heap.size,3,none⟩ (.iface ty uy))∧Env b m1 m2 (w4.setCell ⟨w2.heap.size,3,none⟩ (.iface ty uy))∧Ext b w (w4.setCell ⟨w2.heap.size,3,none⟩ (.iface ty uy))):=⟨h6,hE.ext x6,x6⟩
       clear hr4 hvy hp3 hnb hnb3 h6 x6 hrest x4 h4
       go_wp2_with fail
       exact ⟨⟨_,_,_,_,_,_,rfl,HB,hnew,HS⟩,HREST.out⟩
     ·rw [show decide (3≤k)=false from decide_eq_false hst]
      go_wp2_with fail
      generalize w2.alloc (.cells #[.int .i64 (k:Nat),.int .i64 0,.iface tt uu,.nilIface] 334)=w5 at *
      have HNB:Hid (w5.heap[w2.heap.size]?=some (.cells (binCells k 0 (.iface tt uu) .nilIface) 334)):=hNb.out
      have X4:Hid (Ext b w w5∧Env b m1 m2 w5):=⟨X3.out.1,hE.ext X3.out.1⟩
      have hp3:=hu.out (Sp.next l') _ w5 (by have:=hm'.out.2.1; omega) H2.out X4.out.2
      refine hp3.mono ?_
      intro e w4 hp4
      cases hr4:u (Sp.next l') with
      | error er =>
       rw [hr4] at hp4
       have hfin:Sp.pWith A 1 u l=.error er:=by
        rw [hm'.out.2.2]
        cases m with
        | zero=>exact absurd hm'.out.1 (by omega)
        | succ m=>unfold Sp.pChain; rw [HO.out]; simp only; rw [if_pos HLV.out,hr4]
       obtain ⟨N,rfl,hf⟩:=hp4
       refine ⟨rfl,?_⟩
       rw [hfin]
       exact Faulty.ahead X4.out.1 ⟨N,rfl,hf⟩
      | ok yl =>
       obtain ⟨y,l2⟩:=yl
       rw [hr4] at hp4
       obtain ⟨vy,rfl,ct4,hvy,h4,x4⟩:=hp4
       obtain ⟨ty,uy,rfl⟩:=Rp.iface _ _ _ _ hvy
       have hd4:=hdec.out _ _ _ hr4
       have HB:Hid (Rp.S ct (.iface 334 (.agg #[.int .i64 (k:Nat),.int .i64 0,.iface tt uu,.iface ty uy])) (A.bin k x' y) ct4):=Rp.bin ct k _ _ _ _ _ _ (by omega) hv'.out hvy
       have hnew:Hid (l2.length<m - 1∧l2.length<n∧Sp.pWith A 1 u l=Sp.pChain A 1 u (m - 1) (A.bin k x' y) l2):=by
        have:=hm'.out.1
        have:=hm'.out.2.1
        refine ⟨by omega,by omega,?_⟩
        rw [hm'.out.2.2]
        cases m with
        | zero=>exact absurd hm'.out.1 (by omega)
        | succ m =>
         have e:Sp.pChain A 1 u (m + 1) x' l'=Sp.pChain A 1 u m (A.bin k x' y) l2:=by
          conv=>lhs; unfold Sp.pChain
          rw [HO.out]; simp only; rw [if_pos HLV.out,hr4]
         exact e
       have hnb:w4.heap[w2.heap.size]?=some (.cells (binCells k 0 (.iface tt uu) .nilIface) 334):=by
        exact x4.keep HNB.out (by omega) (not_num (by decide))
       have k3:=cell_of hnb 3 (v:=.nilIface) rfl
       have f3:=frozen_of hnb 3
       have hnb3:=bin_set3 hnb (.iface ty uy)
       have q0:=cell_of hnb3 0 (v:=.int .i64 (k:Nat)) rfl
       have q1:=cell_of hnb3 1 (v:=.int .i64 0) rfl
       have q2:=cell_of hnb3 2 (v:=.iface tt uu) rfl
       have q3:=cell_of hnb3 3 (v:=.iface ty uy) rfl
       have h6:Rd b s m1 m2 l2 o ct4 (w4.setCell ⟨w2.heap.size,3,none⟩ (.iface ty uy)):=h4.set_other (p:=⟨w2.heap.size,3,none⟩) (by show w2.heap.size ≠ b; omega) (nn_of hnb (by decide)) _
       have x6:Ext b w (w4.setCell ⟨w2.heap.size,3,none⟩ (.iface ty uy)):=(X4.out.1.trans x4).setCell (p:=⟨w2.heap.size,3,none⟩) (.inr hws) _
       have hrest:restOf b s (w4.setCell ⟨w2.heap.size,3,none⟩ (.iface ty uy))<restOf b s wr:=by
        rw [h6.rest,hs'.out.1.rest]; omega
       have HREST:Hid (_<_):=hrest
       have HS:Hid (Rd b s m1 m2 l2 o ct4 (w4.setCell ⟨w2.heap.size,3,none⟩ (.iface ty uy))∧Env b m1 m2 (w4.setCell ⟨w2.heap.size,3,none⟩ (.iface ty uy))∧Ext b w (w4.setCell ⟨w2.heap.size,3,none⟩ (.iface ty uy))):=⟨h6,hE.ext x6,x6⟩
       clear hr4 hvy hp3 hnb hnb3 h6 x6 hrest x4 h4
       go_wp2_with fail
       exact ⟨⟨_,_,_,_,_,_,rfl,HB,hnew,HS⟩,HREST.out⟩
    ·have HLV:Hid (Sp.opLevel k=0):=by
      unfold Hid Sp.opLevel at *
      split <;> simp_all
     have hfin:Hid (Sp.pWith A 1 u l=.ok (x',l')):=by
      unfold Hid
      rw [hm'.out.2.2]
      cases m with
      | zero=>rfl
      | succ m=>unfold Sp.pChain; rw [HO.out]; simp only; rw [if_neg hlv]
     clear hlv
     go_wp2_with fail
     go_quiet (fail)
     go_wp2_with fail
     refine (opLevel_calls k hk5 _).mono ?_
     rintro e w2 ⟨rfl,rfl⟩
     rw [HLV.out]
     go_wp2_with fail
     go_ret
     rw [hfin.out]
     exact ⟨_,rfl,ct',hv',hs'.out.1.drewN _,hs'.out.2.2.drewN _⟩
end Go.Proofs.YtiopfihjmkfdmaaGreatDoor
namespace Go.Proofs.YtiopfihjmkfdmaaGreatDoor
open Go.RowKit
set_option maxRecDepth 100000
set_option maxHeartbeats 400000
set_option maxHeartbeats 2000000 in
theorem chain_product {A:Sp.Alg} (Rp:Rep A) (b:Nat) (s:ByteArray) (m1 m2 o n:Nat) (u:Sp.Bs→Sp.R A.S)
  (hdec:Hid (∀ l x l1,u l=.ok (x,l1)→l1.length≤l.length))
  (hu:Hid (∀ l ct w,l.length<n→Rd b s m1 m2 l o ct w→Env b m1 m2 w→Calls Tryz.prog 235 #[.pointer (some ⟨b,0,none⟩)] w (PostS Rp b s m1 m2 o ct w (u l))))
  (l:Sp.Bs) (ct:Int × Int) (w:World) (hl:l.length<n) (h:Rd b s m1 m2 l o ct w) (hE:Env b m1 m2 w) :
  Calls Tryz.prog 234 #[.pointer (some ⟨b,0,none⟩),.int .i64 0,.func (Fn.func 235) #[.pointer (some ⟨b,0,none⟩)] #[]] w (PostS Rp b s m1 m2 o ct w (Sp.pWith A 0 u l)):=by
 go_enter Tryz.func234,Tryz.ntmps234
 go_wp2_with fail
 refine (hu.out l ct _ hl h hE).mono ?_
 intro e w1 hp
 cases hr:u l with
 | error er =>
  rw [hr] at hp
  obtain ⟨N,rfl,hf⟩:=hp
  refine ⟨rfl,?_⟩
  unfold Sp.pWith
  rw [hr]
  exact ⟨N,rfl,hf⟩
 | ok xl =>
  obtain ⟨x,l1⟩:=xl
  rw [hr] at hp
  obtain ⟨v,rfl,ct1,hv,h1,x1⟩:=hp
  obtain ⟨tv,uv,rfl⟩:=Rp.iface _ _ _ _ hv
  go_wp2_with fail
  go_loopw [7] (fun t wr=>∃ (tt:TypeId) (uu:Value) (x':A.S) (l':Sp.Bs) (m:Nat) (ct':Int × Int),t=.iface tt uu∧Hid (Rp.S ct (.iface tt uu) x' ct')∧Hid (l'.length<m∧l'.length<n∧Sp.pWith A 0 u l=Sp.pChain A 0 u m x' l')∧Hid (Rd b s m1 m2 l' o ct' wr∧Env b m1 m2 wr∧Ext b w wr)) (fun _ wr=>restOf b s wr)
  case atStart => 
   refine ⟨tv,uv,x,l1,l1.length + 1,ct1,rfl,hv,⟨Nat.lt_succ_self _,?_,?_⟩,h1,hE.ext x1,x1⟩
   ·have:=hdec.out l x l1 hr
    omega
   ·unfold Sp.pWith
    rw [hr]
  case round =>
   obtain ⟨tt,uu,x',l',m,ct',rfl,hv',hm',hs'⟩:=hrel
   have c3:=hs'.out.1.c3
   have c7:=hs'.out.1.c7
   cases ho:Sp.opOf (Sp.tok l') with
   | none =>
    have hlk:=ops_look_none hs'.out.2.1.ops (Sp.tok l') hs'.out.1.tokLen400 ho
    have HO:Hid (Sp.opOf (Sp.tok l')=none):=ho
    clear ho
    have hfin:Hid (Sp.pWith A 0 u l=.ok (x',l')):=by
     unfold Hid
     rw [hm'.out.2.2]
     cases m with
     | zero=>rfl
     | succ m=>unfold Sp.pChain; rw [HO.out]
    clear HO
    go_wp2_with fail
    go_quiet (fail)
    go_wp2_with fail
    go_ret
    rw [hfin.out]
    exact ⟨_,rfl,ct',hv',hs'.out.1.drewN _,hs'.out.2.2.drewN _⟩
   | some k =>
    have hlk:=ops_look_some hs'.out.2.1.ops (Sp.tok l') hs'.out.1.tokLen400 ho
    have hk5:k<5:=opOf_lt ho
    have HO:Hid (Sp.opOf (Sp.tok l')=some k):=ho
    clear ho
    by_cases hlv:Sp.opLevel k=0
    ·have HLV:Hid (Sp.opLevel k=0):=hlv
     clear hlv
     go_wp2_with fail
     go_quiet (fail)
     go_wp2_with fail
     refine (opLevel_calls k hk5 _).mono ?_
     rintro e w2 ⟨rfl,rfl⟩
     rw [HLV.out]
     go_wp2_with fail
     refine (step_calls (hs'.out.1.drewN _) (kind_of_op HO.out)).mono ?_
     rintro e w2 ⟨rfl,h2,x2⟩
     have H2:Hid (Rd b s m1 m2 (Sp.next l') o ct' (w2.alloc (.cells #[.int .i64 (k:Nat),.int .i64 0,.iface tt uu,.nilIface] 334))):=h2.ext _
     have h2lt:=h2.lt
     have hlt:=opOf_next HO.out
     have X3:Hid (Ext b w (w2.alloc (.cells #[.int .i64 (k:Nat),.int .i64 0,.iface tt uu,.nilIface] 334))∧Ext b wr (w2.alloc (.cells #[.int .i64 (k:Nat),.int .i64 0,.iface tt uu,.nilIface] 334))):=⟨(hs'.out.2.2.trans x2.undrewN).alloc _,x2.undrewN.alloc _⟩
     have hNb:Hid ((w2.alloc (.cells #[.int .i64 (k:Nat),.int .i64 0,.iface tt uu,.nilIface] 334)).heap[w2.heap.size]?=some (.cells (binCells k 0 (.iface tt uu) .nilIface) 334)):=heap_alloc_new _ _
     have hws:w.heap.size≤w2.heap.size:=(hs'.out.2.2.trans x2.undrewN).size
     go_wp2_with fail
     refine (hasSite_calls k hk5 _).mono ?_
     rintro e w2' ⟨rfl,rfl⟩
     by_cases hst:3≤k
     ·rw [show decide (3≤k)=true from decide_eq_true hst]
      go_wp2_with fail
      generalize w2.alloc (.cells #[.int .i64 (k:Nat),.int .i64 0,.iface tt uu,.nilIface] 334)=wn at *
      refine (site_calls H2.out).mono ?_
      rintro e w3 ⟨rfl,h3,x3⟩
      have hnb:w3.heap[w2.heap.size]?=some (.cells (binCells k 0 (.iface tt uu) .nilIface) 334):=by
       exact x3.keep hNb.out (by omega) (not_num (by decide))
      have k1:=cell_of hnb 1 (v:=.int .i64 0) rfl
      have f1:=frozen_of hnb 1
      have hnb1:=bin_set1 hnb ct'.2
      have H3:Hid (Rd b s m1 m2 (Sp.next l') o (ct'.1,RowKit.wrap64 (ct'.2 + 1)) (w3.setCell ⟨w2.heap.size,1,none⟩ (.int .i64 ct'.2))):=h3.set_other (p:=⟨w2.heap.size,1,none⟩) (by show w2.heap.size ≠ b; omega) (nn_of hnb (by decide)) _
      have X4:Hid (Ext b w (w3.setCell ⟨w2.heap.size,1,none⟩ (.int .i64 ct'.2))∧Env b m1 m2 (w3.setCell ⟨w2.heap.size,1,none⟩ (.int .i64 ct'.2))):=by
       have e:=(X3.out.1.trans x3).setCell (p:=⟨w2.heap.size,1,none⟩) (.inr hws) (.int .i64 ct'.2)
       exact ⟨e,hE.ext e⟩
      have HNB:Hid (_=_):=hnb1
      clear hnb1 hnb
      go_wp2_with fail
      clear k1 f1
      generalize w3.setCell ⟨w2.heap.size,1,none⟩ (.int .i64 ct'.2)=w5 at *
      have hp3:=hu.out (Sp.next l') _ w5 (by have:=hm'.out.2.1; omega) H3.out X4.out.2
      refine hp3.mono ?_
      intro e w4 hp4
      cases hr4:u (Sp.next l') with
      | error er =>
       rw [hr4] at hp4
       have hfin:Sp.pWith A 0 u l=.error er:=by
        rw [hm'.out.2.2]
        cases m with
        | zero=>exact absurd hm'.out.1 (by omega)
        | succ m=>unfold Sp.pChain; rw [HO.out]; simp only; rw [if_pos HLV.out,hr4]
       obtain ⟨N,rfl,hf⟩:=hp4
       refine ⟨rfl,?_⟩
       rw [hfin]
       exact Faulty.ahead X4.out.1 ⟨N,rfl,hf⟩
      | ok yl =>
       obtain ⟨y,l2⟩:=yl
       rw [hr4] at hp4
       obtain ⟨vy,rfl,ct4,hvy,h4,x4⟩:=hp4
       obtain ⟨ty,uy,rfl⟩:=Rp.iface _ _ _ _ hvy
       have hd4:=hdec.out _ _ _ hr4
       have HB:Hid (Rp.S ct (.iface 334 (.agg #[.int .i64 (k:Nat),.int .i64 ct'.2,.iface tt uu,.iface ty uy])) (A.bin k x' y) ct4):=Rp.binSite ct k _ _ _ _ _ _ hst hk5 hv'.out hvy
       have hnew:Hid (l2.length<m - 1∧l2.length<n∧Sp.pWith A 0 u l=Sp.pChain A 0 u (m - 1) (A.bin k x' y) l2):=by
        have:=hm'.out.1
        have:=hm'.out.2.1
        refine ⟨by omega,by omega,?_⟩
        rw [hm'.out.2.2]
        cases m with
        | zero=>exact absurd hm'.out.1 (by omega)
        | succ m =>
         have e:Sp.pChain A 0 u (m + 1) x' l'=Sp.pChain A 0 u m (A.bin k x' y) l2:=by
          conv=>lhs; unfold Sp.pChain
          rw [HO.out]; simp only; rw [if_pos HLV.out,hr4]
         exact e
       have hnb:w4.heap[w2.heap.size]?=some (.cells (binCells k ct'.2 (.iface tt uu) .nilIface) 334):=by
        exact x4.keep HNB.out (by omega) (not_num (by decide))
       have k3:=cell_of hnb 3 (v:=.nilIface) rfl
       have f3:=frozen_of hnb 3
       have hnb3:=bin_set3 hnb (.iface ty uy)
       have q0:=cell_of hnb3 0 (v:=.int .i64 (k:Nat)) rfl
       have q1:=cell_of hnb3 1 (v:=.int .i64 ct'.2) rfl
       have q2:=cell_of hnb3 2 (v:=.iface tt uu) rfl
       have q3:=cell_of hnb3 3 (v:=.iface ty uy) rfl
       have h6:Rd b s m1 m2 l2 o ct4 (w4.setCell ⟨w2.heap.size,3,none⟩ (.iface ty uy)):=h4.set_other (p:=⟨w2.heap.size,3,none⟩) (by show w2.heap.size ≠ b; omega) (nn_of hnb (by decide)) _
       have x6:Ext b w (w4.setCell ⟨w2.heap.size,3,none⟩ (.iface ty uy)):=(X4.out.1.trans x4).setCell (p:=⟨w2.heap.size,3,none⟩) (.inr hws) _
       have hrest:restOf b s (w4.setCell ⟨w2.heap.size,3,none⟩ (.iface ty uy))<restOf b s wr:=by
        rw [h6.rest,hs'.out.1.rest]; omega
       have HREST:Hid (_<_):=hrest
       have HS:Hid (Rd b s m1 m2 l2 o ct4 (w4.setCell ⟨w2.heap.size,3,none⟩ (.iface ty uy))∧Env b m1 m2 (w4.setCell ⟨w2.heap.size,3,none⟩ (.iface ty uy))∧Ext b w (w4.setCell ⟨w2.heap.size,3,none⟩ (.iface ty uy))):=⟨h6,hE.ext x6,x6⟩
       clear hr4 hvy hp3 hnb hnb3 h6 x6 hrest x4 h4
       go_wp2_with fail
       exact ⟨⟨_,_,_,_,_,_,rfl,HB,hnew,HS⟩,HREST.out⟩
     ·rw [show decide (3≤k)=false from decide_eq_false hst]
      go_wp2_with fail
      generalize w2.alloc (.cells #[.int .i64 (k:Nat),.int .i64 0,.iface tt uu,.nilIface] 334)=w5 at *
      have HNB:Hid (w5.heap[w2.heap.size]?=some (.cells (binCells k 0 (.iface tt uu) .nilIface) 334)):=hNb.out
      have X4:Hid (Ext b w w5∧Env b m1 m2 w5):=⟨X3.out.1,hE.ext X3.out.1⟩
      have hp3:=hu.out (Sp.next l') _ w5 (by have:=hm'.out.2.1; omega) H2.out X4.out.2
      refine hp3.mono ?_
      intro e w4 hp4
      cases hr4:u (Sp.next l') with
      | error er =>
       rw [hr4] at hp4
       have hfin:Sp.pWith A 0 u l=.error er:=by
        rw [hm'.out.2.2]
        cases m with
        | zero=>exact absurd hm'.out.1 (by omega)
        | succ m=>unfold Sp.pChain; rw [HO.out]; simp only; rw [if_pos HLV.out,hr4]
       obtain ⟨N,rfl,hf⟩:=hp4
       refine ⟨rfl,?_⟩
       rw [hfin]
       exact Faulty.ahead X4.out.1 ⟨N,rfl,hf⟩
      | ok yl =>
       obtain ⟨y,l2⟩:=yl
       rw [hr4] at hp4
       obtain ⟨vy,rfl,ct4,hvy,h4,x4⟩:=hp4
       obtain ⟨ty,uy,rfl⟩:=Rp.iface _ _ _ _ hvy
       have hd4:=hdec.out _ _ _ hr4
       have HB:Hid (Rp.S ct (.iface 334 (.agg #[.int .i64 (k:Nat),.int .i64 0,.iface tt uu,.iface ty uy])) (A.bin k x' y) ct4):=Rp.bin ct k _ _ _ _ _ _ (by omega) hv'.out hvy
       have hnew:Hid (l2.length<m - 1∧l2.length<n∧Sp.pWith A 0 u l=Sp.pChain A 0 u (m - 1) (A.bin k x' y) l2):=by
        have:=hm'.out.1
        have:=hm'.out.2.1
        refine ⟨by omega,by omega,?_⟩
        rw [hm'.out.2.2]
        cases m with
        | zero=>exact absurd hm'.out.1 (by omega)
        | succ m =>
         have e:Sp.pChain A 0 u (m + 1) x' l'=Sp.pChain A 0 u m (A.bin k x' y) l2:=by
          conv=>lhs; unfold Sp.pChain
          rw [HO.out]; simp only; rw [if_pos HLV.out,hr4]
         exact e
       have hnb:w4.heap[w2.heap.size]?=some (.cells (binCells k 0 (.iface tt uu) .nilIface) 334):=by
        exact x4.keep HNB.out (by omega) (not_num (by decide))
       have k3:=cell_of hnb 3 (v:=.nilIface) rfl
       have f3:=frozen_of hnb 3
       have hnb3:=bin_set3 hnb (.iface ty uy)
       have q0:=cell_of hnb3 0 (v:=.int .i64 (k:Nat)) rfl
       have q1:=cell_of hnb3 1 (v:=.int .i64 0) rfl
       have q2:=cell_of hnb3 2 (v:=.iface tt uu) rfl
       have q3:=cell_of hnb3 3 (v:=.iface ty uy) rfl
       have h6:Rd b s m1 m2 l2 o ct4 (w4.setCell ⟨w2.heap.size,3,none⟩ (.iface ty uy)):=h4.set_other (p:=⟨w2.heap.size,3,none⟩) (by show w2.heap.size ≠ b; omega) (nn_of hnb (by decide)) _
       have x6:Ext b w (w4.setCell ⟨w2.heap.size,3,none⟩ (.iface ty uy)):=(X4.out.1.trans x4).setCell (p:=⟨w2.heap.size,3,none⟩) (.inr hws) _
       have hrest:restOf b s (w4.setCell ⟨w2.heap.size,3,none⟩ (.iface ty uy))<restOf b s wr:=by
        rw [h6.rest,hs'.out.1.rest]; omega
       have HREST:Hid (_<_):=hrest
       have HS:Hid (Rd b s m1 m2 l2 o ct4 (w4.setCell ⟨w2.heap.size,3,none⟩ (.iface ty uy))∧Env b m1 m2 (w4.setCell ⟨w2.heap.size,3,none⟩ (.iface ty uy))∧Ext b w (w4.setCell ⟨w2.heap.size,3,none⟩ (.iface ty uy))):=⟨h6,hE.ext x6,x6⟩
       clear hr4 hvy hp3 hnb hnb3 h6 x6 hrest x4 h4
       go_wp2_with fail
       exact ⟨⟨_,_,_,_,_,_,rfl,HB,hnew,HS⟩,HREST.out⟩
    ·have HLV:Hid (Sp.opLevel k=1):=by
      unfold Hid Sp.opLevel at *
      split <;> simp_all
     have hfin:Hid (Sp.pWith A 0 u l=.ok (x',l')):=by
      unfold Hid
      rw [hm'.out.2.2]
      cases m with
      | zero=>rfl
      | succ m=>unfold Sp.pChain; rw [HO.out]; simp only; rw [if_neg hlv]
     clear hlv
     go_wp2_with fail
     go_quiet (fail)
     go_wp2_with fail
     refine (opLevel_calls k hk5 _).mono ?_
     rintro e w2 ⟨rfl,rfl⟩
     rw [HLV.out]
     go_wp2_with fail
     go_ret
     rw [hfin.out]
     exact ⟨_,rfl,ct',hv',hs'.out.1.drewN _,hs'.out.2.2.drewN _⟩
end Go.Proofs.YtiopfihjmkfdmaaGreatDoor
namespace Go.Proofs.YtiopfihjmkfdmaaGreatDoor
open Go.RowKit
set_option maxRecDepth 100000
set_option maxHeartbeats 400000
def Reads {A:Sp.Alg} (Rp:Rep A) (f:Nat) (b:Nat) (s:ByteArray) (m1 m2 o n:Nat) (u:Sp.Bs→Sp.R A.S):Prop :=
 ∀ l ct w,l.length<n→Rd b s m1 m2 l o ct w→Env b m1 m2 w→Calls Tryz.prog f #[.pointer (some ⟨b,0,none⟩)] w (PostS Rp b s m1 m2 o ct w (u l))
theorem product_reads {A:Sp.Alg} (Rp:Rep A) (b:Nat) (s:ByteArray) (m1 m2 o n:Nat) (u:Sp.Bs→Sp.R A.S) (hdec:∀ l x l1,u l=.ok (x,l1)→l1.length≤l.length)
  (hu:Reads Rp 247 b s m1 m2 o n u):Reads Rp 235 b s m1 m2 o n (Sp.pProd A u):=by
 intro l ct w hl h hE
 have hc:Calls Tryz.prog 234 #[.pointer (some ⟨b,0,none⟩),.int .i64 1,.func (Fn.func 247) #[.pointer (some ⟨b,0,none⟩)] #[]] w (PostS Rp b s m1 m2 o ct w (Sp.pProd A u l)):=chain_unary Rp b s m1 m2 o n u hdec hu l ct w hl h hE
 clear hdec hu
 generalize Sp.pProd A u l=r at hc ⊢
 cases r with
 | error er =>
  go_enter Tryz.func235,Tryz.ntmps235
  go_wp2_with fail
  refine hc.mono ?_
  rintro e w1 ⟨N,rfl,hf⟩
  exact ⟨rfl,N,rfl,hf⟩
 | ok xl =>
  obtain ⟨x,l1⟩:=xl
  go_enter Tryz.func235,Tryz.ntmps235
  go_wp2_with fail
  refine hc.mono ?_
  rintro e w1 ⟨v,rfl,ct1,hv,h1,x1⟩
  go_wp2_with fail
  go_ret
  exact ⟨v,rfl,ct1,hv,h1,x1⟩
theorem sum_reads {A:Sp.Alg} (Rp:Rep A) (b:Nat) (s:ByteArray) (m1 m2 o n:Nat) (u:Sp.Bs→Sp.R A.S) (hdec:∀ l x l1,u l=.ok (x,l1)→l1.length≤l.length)
  (hu:Reads Rp 247 b s m1 m2 o n u):Reads Rp 207 b s m1 m2 o n (Sp.pSum A u):=by
 intro l ct w hl h hE
 have hc:Calls Tryz.prog 234 #[.pointer (some ⟨b,0,none⟩),.int .i64 0,.func (Fn.func 235) #[.pointer (some ⟨b,0,none⟩)] #[]] w (PostS Rp b s m1 m2 o ct w (Sp.pSum A u l)):=chain_product Rp b s m1 m2 o n (Sp.pProd A u) (Sp.pWith_dec hdec) (product_reads Rp b s m1 m2 o n u hdec hu) l ct w hl h hE
 clear hdec hu
 generalize Sp.pSum A u l=r at hc ⊢
 cases r with
 | error er =>
  go_enter Tryz.func207,Tryz.ntmps207
  go_wp2_with fail
  refine hc.mono ?_
  rintro e w1 ⟨N,rfl,hf⟩
  exact ⟨rfl,N,rfl,hf⟩
 | ok xl =>
  obtain ⟨x,l1⟩:=xl
  go_enter Tryz.func207,Tryz.ntmps207
  go_wp2_with fail
  refine hc.mono ?_
  rintro e w1 ⟨v,rfl,ct1,hv,h1,x1⟩
  go_wp2_with fail
  go_ret
  exact ⟨v,rfl,ct1,hv,h1,x1⟩
theorem bad_post {A:Sp.Alg} (Rp:Rep A) {b:Nat} {s:ByteArray} {m1 m2 o:Nat} {ct:Int × Int} {w:World} {r:Sp.R A.S} {er:Nat × Nat} {e:Ending} {w':World} (hr:r=.error er) (h:Faulty s b w er e w'):PostS Rp b s m1 m2 o ct w r e w':=by
 rw [hr]; exact h
theorem good_post {A:Sp.Alg} (Rp:Rep A) {b:Nat} {s:ByteArray} {m1 m2 o:Nat} {ct ct':Int × Int} {w:World} {r:Sp.R A.S} {x:A.S} {l':Sp.Bs} {v:Value} {w':World} (hr:r=.ok (x,l')) (hv:Rp.S ct v x ct') (h:Rd b s m1 m2 l' o ct' w') (hx:Ext b w w'):PostS Rp b s m1 m2 o ct w r (.returned v) w':=by
 rw [hr]; exact ⟨v,rfl,ct',hv,h,hx⟩
def negOf (A:Sp.Alg) (u:Sp.Bs→Sp.R A.S) (o:Nat) (l:Sp.Bs):Sp.R A.S:=match Sp.enter [45] o l with
 | .ok l1=>(match u l1 with
  | .ok (x,l2)=>.ok (A.neg x,l2)
  | .error e=>.error e)
 | .error e=>.error e
theorem negation_calls {A:Sp.Alg} (Rp:Rep A) (b:Nat) (s:ByteArray) (m1 m2 o n:Nat) (u:Sp.Bs→Sp.R A.S)
  (hu:o<12→Reads Rp 247 b s m1 m2 (o + 1) n u) (l:Sp.Bs) (ct:Int × Int) (w:World) (hl:l.length<n + 1) (h:Rd b s m1 m2 l o ct w) (hE:Env b m1 m2 w) (ho:o≤12) (ht:Sp.tok l=[45]) :
  Calls Tryz.prog 253 #[.pointer (some ⟨b,0,none⟩)] w (PostS Rp b s m1 m2 o ct w (negOf A u o l)):=by
 by_cases h12:o=12
 ·subst h12
  have hr:Hid (negOf A u 12 l=.error (3,l.length)):=by
   unfold Hid negOf Sp.enter; rw [if_pos ht,if_pos rfl]; rfl
  go_enter Tryz.func253,Tryz.ntmps253
  go_wp2_with fail
  refine (enter_deep h [45] ht).mono ?_
  rintro e w1 ⟨N,rfl,hf⟩
  exact ⟨rfl,bad_post Rp hr.out ⟨N,rfl,hf⟩⟩
 ·have hen:Sp.enter [45] o l=.ok (Sp.next l):=by unfold Sp.enter; rw [if_pos ht,if_neg h12]
  have hnl:=Sp.next_lt_of_tok ht (by simp)
  cases hr:u (Sp.next l) with
  | error er =>
   have hfin:Hid (negOf A u o l=.error er):=by unfold Hid negOf; rw [hen]; simp only; rw [hr]
   go_enter Tryz.func253,Tryz.ntmps253
   go_wp2_with fail
   refine (enter_ok h (by omega) [45] ht).mono ?_
   rintro e w1 ⟨rfl,h1,x1⟩
   go_wp2_with fail
   refine (hu (by omega) (Sp.next l) ct w1 (by omega) h1 (hE.ext x1)).mono ?_
   intro e w2 hp
   rw [hr] at hp
   obtain ⟨N,rfl,hf⟩:=hp
   exact ⟨rfl,bad_post Rp hfin.out (Faulty.ahead x1 ⟨N,rfl,hf⟩)⟩
  | ok xl =>
   obtain ⟨x,l2⟩:=xl
   have hfin:Hid (negOf A u o l=.ok (A.neg x,l2)):=by unfold Hid negOf; rw [hen]; simp only; rw [hr]
   go_enter Tryz.func253,Tryz.ntmps253
   go_wp2_with fail
   refine (enter_ok h (by omega) [45] ht).mono ?_
   rintro e w1 ⟨rfl,h1,x1⟩
   go_wp2_with fail
   refine (hu (by omega) (Sp.next l) ct w1 (by omega) h1 (hE.ext x1)).mono ?_
   intro e w2 hp
   rw [hr] at hp
   obtain ⟨v,rfl,ct1,hv,h2,x2⟩:=hp
   obtain ⟨tv,uv,rfl⟩:=Rp.iface _ _ _ _ hv
   have c4:w2.cell? ⟨b,4,none⟩=some (.int .i64 ((o:Int) + 1)):=h2.c4
   have f4:=h2.fz 4
   have hsh:=rd_open h2 o (o:Int) rfl
   have HS:Hid (Rd b s m1 m2 l2 o ct1 (w2.setCell ⟨b,4,none⟩ (.int .i64 (o:Int)))∧Ext b w2 (w2.setCell ⟨b,4,none⟩ (.int .i64 (o:Int)))):=hsh
   have hn:=Rp.neg _ _ _ _ hv
   have HN:Hid (Rp.S ct (.iface 330 (.agg #[.iface tv uv])) (A.neg x) ct1):=hn
   clear hsh hn hr
   go_wp2_with fail
   go_ret
   exact good_post Rp hfin.out HN HS.out.1 ((x1.trans x2).trans HS.out.2)
def bracketOf (A:Sp.Alg) (q:Sp.Bs→Sp.R A.S) (o:Nat) (l:Sp.Bs):Sp.R A.S:=match Sp.enter [40] o l with
 | .ok l1=>(match q l1 with
  | .ok (x,l2)=>(match Sp.take [41] l2 with
   | .ok l3=>.ok (x,l3)
   | .error e=>.error e)
  | .error e=>.error e)
 | .error e=>.error e
theorem bracketed_calls {A:Sp.Alg} (Rp:Rep A) (b:Nat) (s:ByteArray) (m1 m2 o n:Nat) (q:Sp.Bs→Sp.R A.S)
  (hu:o<12→Reads Rp 207 b s m1 m2 (o + 1) n q) (l:Sp.Bs) (ct:Int × Int) (w:World) (hl:l.length<n + 1) (h:Rd b s m1 m2 l o ct w) (hE:Env b m1 m2 w) (ho:o≤12) :
  Calls Tryz.prog 254 #[.pointer (some ⟨b,0,none⟩)] w (PostS Rp b s m1 m2 o ct w (bracketOf A q o l)):=by
 by_cases ht:Sp.tok l=[40]
 ·by_cases h12:o=12
  ·subst h12
   have hr:Hid (bracketOf A q 12 l=.error (3,l.length)):=by
    unfold Hid bracketOf Sp.enter; rw [if_pos ht,if_pos rfl]; rfl
   go_enter Tryz.func254,Tryz.ntmps254
   go_wp2_with fail
   refine (enter_deep h [40] ht).mono ?_
   rintro e w1 ⟨N,rfl,hf⟩
   exact ⟨rfl,bad_post Rp hr.out ⟨N,rfl,hf⟩⟩
  ·have hen:Sp.enter [40] o l=.ok (Sp.next l):=by unfold Sp.enter; rw [if_pos ht,if_neg h12]
   have hnl:=Sp.next_lt_of_tok ht (by simp)
   cases hr:q (Sp.next l) with
   | error er =>
    have hfin:Hid (bracketOf A q o l=.error er):=by unfold Hid bracketOf; rw [hen]; simp only; rw [hr]
    go_enter Tryz.func254,Tryz.ntmps254
    go_wp2_with fail
    refine (enter_ok h (by omega) [40] ht).mono ?_
    rintro e w1 ⟨rfl,h1,x1⟩
    go_wp2_with fail
    refine (hu (by omega) (Sp.next l) ct w1 (by omega) h1 (hE.ext x1)).mono ?_
    intro e w2 hp
    rw [hr] at hp
    obtain ⟨N,rfl,hf⟩:=hp
    exact ⟨rfl,bad_post Rp hfin.out (Faulty.ahead x1 ⟨N,rfl,hf⟩)⟩
   | ok xl =>
    obtain ⟨x,l2⟩:=xl
    by_cases hsh:Sp.tok l2=[41]
    ·have hfin:Hid (bracketOf A q o l=.ok (x,Sp.next l2)):=by unfold Hid bracketOf; rw [hen]; simp only; rw [hr]; simp only; unfold Sp.take; rw [if_pos hsh]
     go_enter Tryz.func254,Tryz.ntmps254
     go_wp2_with fail
     refine (enter_ok h (by omega) [40] ht).mono ?_
     rintro e w1 ⟨rfl,h1,x1⟩
     go_wp2_with fail
     refine (hu (by omega) (Sp.next l) ct w1 (by omega) h1 (hE.ext x1)).mono ?_
     intro e w2 hp
     rw [hr] at hp
     obtain ⟨v,rfl,ct1,hv,h2,x2⟩:=hp
     have HV:Hid (Rp.S ct v x ct1):=hv
     clear hv hr
     go_wp2_with fail
     refine (take_ok h2 [41] hsh).mono ?_
     rintro e w3 ⟨rfl,h3,x3⟩
     have c4:w3.cell? ⟨b,4,none⟩=some (.int .i64 ((o:Int) + 1)):=h3.c4
     have f4:=h3.fz 4
     have hsh:=rd_open h3 o (o:Int) rfl
     have HS:Hid (Rd b s m1 m2 (Sp.next l2) o ct1 (w3.setCell ⟨b,4,none⟩ (.int .i64 (o:Int)))∧Ext b w3 (w3.setCell ⟨b,4,none⟩ (.int .i64 (o:Int)))):=hsh
     clear hsh
     go_wp2_with fail
     go_ret
     exact good_post Rp hfin.out HV HS.out.1 (((x1.trans x2).trans x3).trans HS.out.2)
    ·have hfin:Hid (bracketOf A q o l=.error (2,l2.length)):=by unfold Hid bracketOf; rw [hen]; simp only; rw [hr]; simp only; unfold Sp.take; rw [if_neg hsh]; rfl
     go_enter Tryz.func254,Tryz.ntmps254
     go_wp2_with fail
     refine (enter_ok h (by omega) [40] ht).mono ?_
     rintro e w1 ⟨rfl,h1,x1⟩
     go_wp2_with fail
     refine (hu (by omega) (Sp.next l) ct w1 (by omega) h1 (hE.ext x1)).mono ?_
     intro e w2 hp
     rw [hr] at hp
     obtain ⟨v,rfl,ct1,hv,h2,x2⟩:=hp
     clear hv hr
     go_wp2_with fail
     refine (take_bad h2 [41] hsh).mono ?_
     rintro e w3 ⟨N,rfl,hf⟩
     exact ⟨rfl,bad_post Rp hfin.out (Faulty.ahead (x1.trans x2) ⟨N,rfl,hf⟩)⟩
 ·have hr:Hid (bracketOf A q o l=.error (2,l.length)):=by
   unfold Hid bracketOf Sp.enter; rw [if_neg ht]; rfl
  go_enter Tryz.func254,Tryz.ntmps254
  go_wp2_with fail
  refine (enter_bad h [40] ht).mono ?_
  rintro e w1 ⟨N,rfl,hf⟩
  exact ⟨rfl,bad_post Rp hr.out ⟨N,rfl,hf⟩⟩
theorem pUnary_succ (A:Sp.Alg) (n o:Nat) (l:Sp.Bs):Sp.pUnary A (n + 1) o l =
  if Sp.tokKind l=3 then (match Sp.numVal (Sp.tok l) with
   | some v=>.ok (A.num v,Sp.next l)
   | none=>Sp.bad 2 l)
  else if Sp.tokKind l=2 then (match Sp.pName l with
   | .ok (k,l1)=>.ok (A.name k,l1)
   | .error e=>.error e)
  else if Sp.tok l=[45] then negOf A (Sp.pUnary A n (o + 1)) o l
  else bracketOf A (Sp.pSum A (Sp.pUnary A n (o + 1))) o l:=rfl
end Go.Proofs.YtiopfihjmkfdmaaGreatDoor
