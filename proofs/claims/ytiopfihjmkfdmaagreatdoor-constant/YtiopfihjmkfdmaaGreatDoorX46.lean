import Derived.Test.YtiopfihjmkfdmaaGreatDoorX22
import Derived.Test.YtiopfihjmkfdmaaGreatDoorX45
namespace Go.Proofs.YtiopfihjmkfdmaaGreatDoor
namespace WC
open Go.RowKit
set_option maxRecDepth 100000
set_option maxHeartbeats 4000000
theorem isConfig_yes (delay narrow unroll:Nat) (th:Bool) (h1:delay≤4) (h2:narrow≤3) (h3:unroll≤3) (w:World) :
  Calls Tryz.prog 49 #[.agg #[.int .i64 1,.int .i64 (delay:Nat),.int .i64 (narrow:Nat),.int .i64 (unroll:Nat),.bool th]] w fun e w'=>e=.returned (.bool true)∧Below w.heap.size w w':=by
 have H1:Hid (∀ W,Calls _ _ _ W _):=fun W=>within_yes (delay:Nat) 4 W (by omega) (by omega)
 have H2:Hid (∀ W,Calls _ _ _ W _):=fun W=>within_yes (narrow:Nat) 3 W (by omega) (by omega)
 have H3:Hid (∀ W,Calls _ _ _ W _):=fun W=>within_yes (unroll:Nat) 3 W (by omega) (by omega)
 clear h1 h2 h3
 go_enter Tryz.func49,Tryz.ntmps49
 go_wp2_with fail
 refine (H1.out _).mono ?_
 rintro r w1 ⟨rfl,rfl⟩
 go_wp2_with fail
 refine (H2.out _).mono ?_
 rintro r w1 ⟨rfl,rfl⟩
 go_wp2_with fail
 refine (H3.out _).mono ?_
 rintro r w1 ⟨rfl,rfl⟩
 go_wp2_with fail
 go_ret
 exact ⟨rfl,by go_grown⟩
def RepAt (B:Nat) (w:World) (v:Value) (F:List (Option (Fin 8→Sp.Cg)) × List Nat):Prop :=
 ∃ g h,v=.agg #[.slice (some ⟨g,0,none⟩) F.1.length F.1.length,.slice (some ⟨h,0,none⟩) F.2.length F.2.length]∧B≤g∧B≤h∧w.heap[g]?=some (.cells (fcCells F.1).toArray 76)∧w.heap[h]?=some (.cells (siteCells F.2).toArray 3)
def AnPost (w:World) (P:Sp.Pol):Except (Nat × Nat) Sp.Bl→Ending→World→Prop
 | .ok t,e,w'=>∃ v,e=.returned (.tuple #[v,.nilIface])∧RepAt w.heap.size w' v (Sp.reportOf Sp.cgDom P t)∧Below w.heap.size w w'
 | .error er,e,w'=>∃ v,e=.returned (.tuple #[.agg #[.slice none 0 0,.slice none 0 0],v])∧ErrAt w' w.heap.size v er∧Below w.heap.size w w'
theorem repAt_mk {B:Nat} {w:World} {g h:Nat} (F:List (Option (Fin 8→Sp.Cg)) × List Nat) (p q:Nat) (l1:F.1.length=p + 1) (l2:F.2.length=q) (e1:w.heap[g]?=some (.cells (fcCells F.1).toArray 76)) (e2:w.heap[h]?=some (.cells (siteCells F.2).toArray 3)) (e3:B≤g) (e4:B≤h) :
  RepAt B w (.agg #[.slice (some ⟨g,0,none⟩) (p + 1) (p + 1),.slice (some ⟨h,0,none⟩) q q]) F:=⟨g,h,by rw [l1,l2],e3,e4,e1,e2⟩
theorem Analyze_calls (s:ByteArray) (delay narrow unroll:Nat) (th:Bool) (w:World) (hs:s.size≤1048576) (hL:Laid w) (hT:Turns w) (h1:delay≤4) (h2:narrow≤3) (h3:unroll≤3) :
  Calls Tryz.prog 32 #[.string s,.agg #[.int .i64 1,.int .i64 (delay:Nat),.int .i64 (narrow:Nat),.int .i64 (unroll:Nat),.bool th]] w (AnPost w ⟨delay,narrow,unroll⟩ (Sp.tree s.data.toList)):=by
 obtain ⟨k0,k1,kb⟩:=laid2b (w:=w) (o1:=.cells #[.int .i64 1,.int .i64 (delay:Nat),.int .i64 (narrow:Nat),.int .i64 (unroll:Nat),.bool th] 58) (o2:=.cells #[.slice none 0 0,.slice none 0 0] 64) (Below.refl _ _)
 have hsz:((w.alloc (.cells #[.int .i64 1,.int .i64 (delay:Nat),.int .i64 (narrow:Nat),.int .i64 (unroll:Nat),.bool th] 58)).alloc (.cells #[.slice none 0 0,.slice none 0 0] 64)).heap.size=w.heap.size + 1 + 1:=by simp
 have hc:=Program_calls RtAn s ((w.alloc (.cells #[.int .i64 1,.int .i64 (delay:Nat),.int .i64 (narrow:Nat),.int .i64 (unroll:Nat),.bool th] 58)).alloc (.cells #[.slice none 0 0,.slice none 0 0] 64)) hs (hL.below kb hL.size)
 have K0:Hid (_=_):=k0
 have K1:Hid (_=_):=k1
 have KB:Hid (Below w.heap.size w _):=kb
 clear k0 k1 kb
 cases hr:Sp.parse Sp.Tr s.data.toList with
 | error er =>
  have E:Hid (Sp.tree s.data.toList=.error er):=by unfold Hid Sp.tree; rw [hr]
  rw [hr] at hc
  go_enter Tryz.func32,Tryz.ntmps32
  go_wp2_with fail
  generalize (w.alloc (.cells #[.int .i64 1,.int .i64 (delay:Nat),.int .i64 (narrow:Nat),.int .i64 (unroll:Nat),.bool th] 58)).alloc (.cells #[.slice none 0 0,.slice none 0 0] 64)=wz at *
  refine hc.mono ?_
  rintro e w1 ⟨v,rfl,hv,b1⟩
  obtain ⟨tv,uv,rfl⟩:=err_iface hv
  have hn1:(w1.alloc (.cells #[.slice none 0 0,.int .i64 0,.int .i64 0,.slice none 0 0] 86)).heap[w.heap.size + 1]?=some (.cells #[.slice none 0 0,.slice none 0 0] 64):=heap_alloc_old (by rw [b1.block _ (by omega)]; exact K1.out)
  have c0:=cell_of hn1 0 (v:=.slice none 0 0) rfl
  have c1:=cell_of hn1 1 (v:=.slice none 0 0) rfl
  have f0:=frozen_of hn1 0
  have f1:=frozen_of hn1 1
  have h2:=heap_setCell_at (heap_setCell_at hn1 0 (.slice none 0 0)) 1 (.slice none 0 0)
  have Q0:Hid (_=_):=cell_of h2 0 (v:=.slice none 0 0) rfl
  have Q1:Hid (_=_):=cell_of h2 1 (v:=.slice none 0 0) rfl
  have HV:Hid (ErrAt (((w1.alloc (.cells #[.slice none 0 0,.int .i64 0,.int .i64 0,.slice none 0 0] 86)).setCell ⟨w.heap.size + 1,0,none⟩ (.slice none 0 0)).setCell ⟨w.heap.size + 1,1,none⟩ (.slice none 0 0)) w.heap.size (.iface tv uv) er) :=
   (((hv.laid _).set (by omega)).set (by omega)).weaken (by omega)
  have B:Hid (Below w.heap.size w (((w1.alloc (.cells #[.slice none 0 0,.int .i64 0,.int .i64 0,.slice none 0 0] 86)).setCell ⟨w.heap.size + 1,0,none⟩ (.slice none 0 0)).setCell ⟨w.heap.size + 1,1,none⟩ (.slice none 0 0))) :=
   (((KB.out.trans (b1.mono (by omega))).alloc (by have:=b1.size; omega) _).setCell (p:=⟨w.heap.size + 1,0,none⟩) (by show w.heap.size≤w.heap.size + 1; omega) _).setCell (p:=⟨w.heap.size + 1,1,none⟩) (by show w.heap.size≤w.heap.size + 1; omega) _
  clear hv hc hn1 h2
  go_wp2_with fail
  exact bodyPost_ret (v:=.tuple #[.agg #[.slice none 0 0,.slice none 0 0],.iface tv uv]) (by simp [results,Tryz.results32,go_sem,Q0.out,Q1.out]) rfl (by rw [E.out]; exact ⟨_,rfl,HV.out,B.out⟩)
 | ok xs =>
  have htr:Sp.tree s.data.toList=.ok (Sp.joinB xs):=by unfold Sp.tree; rw [hr]
  have E:Hid (Sp.tree s.data.toList=.ok (Sp.joinB xs)):=htr
  rw [hr] at hc
  obtain ⟨hp4,hq4,_⟩:=Sp.tree_small htr
  have HIC:Hid (∀ W,Calls _ _ _ W _):=fun W=>isConfig_yes delay narrow unroll th h1 h2 h3 W
  go_enter Tryz.func32,Tryz.ntmps32
  go_wp2_with fail
  generalize (w.alloc (.cells #[.int .i64 1,.int .i64 (delay:Nat),.int .i64 (narrow:Nat),.int .i64 (unroll:Nat),.bool th] 58)).alloc (.cells #[.slice none 0 0,.slice none 0 0] 64)=wz at *
  refine hc.mono ?_
  rintro e w1 ⟨v,ct1,nvv,ns1,rfl,hv,b1,hrow,hnums⟩
  obtain ⟨va,vn,vc,rfl⟩:=blk_slice hv
  obtain ⟨na,nn,nc,rfl⟩:=row_slice0 hrow
  have hB:=blk_an hv
  generalize ht:Sp.joinB xs=t at *
  have hsm:Sp.Small (0,0) (Sp.pB t) (Sp.qB t):=⟨by simp,by simp,by simp; omega,by simp; omega⟩
  have hcb:=hB.cb
  rw [Sp.cB_sm t (0,0) hsm] at hcb
  obtain ⟨p,hp⟩:∃ p:Nat,ct1.1=(p:Int):=⟨Sp.pB t,by rw [← hcb]; simp⟩
  obtain ⟨q,hq⟩:∃ q:Nat,ct1.2=(q:Int):=⟨Sp.qB t,by rw [← hcb]; simp⟩
  have hpp:p=Sp.pB t:=by have:=congrArg Prod.fst hcb; simp at this; omega
  have hqq:q=Sp.qB t:=by have:=congrArg Prod.snd hcb; simp at this; omega
  obtain ⟨c1,c2⟩:=ct1
  simp only at hp hq
  subst hp hq
  simp only
  have kp:=below_alloc1 w1 (.cells #[.slice va vn vc,.int .i64 (p:Nat),.int .i64 (q:Nat),.slice na nn nc] 86)
  have hz2:(w1.alloc (.cells #[.slice va vn vc,.int .i64 (p:Nat),.int .i64 (q:Nat),.slice na nn nc] 86)).heap[w.heap.size + 1]?=some (.cells #[.slice none 0 0,.slice none 0 0] 64):=heap_alloc_old (by rw [b1.block _ (by omega)]; exact K1.out)
  have hc2:(w1.alloc (.cells #[.slice va vn vc,.int .i64 (p:Nat),.int .i64 (q:Nat),.slice na nn nc] 86)).heap[w.heap.size]?=some (.cells #[.int .i64 1,.int .i64 (delay:Nat),.int .i64 (narrow:Nat),.int .i64 (unroll:Nat),.bool th] 58):=heap_alloc_old (by rw [b1.block _ (by omega)]; exact K0.out)
  have hg2:=heap_alloc_new w1 (.cells #[.slice va vn vc,.int .i64 (p:Nat),.int .i64 (q:Nat),.slice na nn nc] 86)
  have hLw:=KB.out.trans (b1.mono (by omega))
  have HRP:Hid (∀ W,Below w1.heap.size w1 W→Calls Tryz.prog 50 #[.agg #[.slice va vn vc,.int .i64 (p:Nat),.int .i64 (q:Nat),.slice na nn nc],.agg #[.int .i64 1,.int .i64 (delay:Nat),.int .i64 (narrow:Nat),.int .i64 (unroll:Nat),.bool th],.iface 128 (.agg #[])] W fun r w'=>∃ v,r=.returned v∧RepAt W.heap.size w' v (Sp.reportOf Sp.cgDom ⟨delay,narrow,unroll⟩ t)∧Below W.heap.size W w'):=fun W hW=>by
   have hd:Does W.heap.size ([]:List Int) (.agg #[]) W:=⟨Nat.le_refl _,rfl⟩
   have hbw:=hLw.trans (hW.mono hLw.size)
   have:=Report_calls W ([]:List Int) (.agg #[]) 1 delay narrow unroll th p q (by omega) (by omega) (by omega) (by omega) (.slice va vn vc) (.slice na nn nc) ⟨_,_,_,rfl⟩ ⟨_,_,_,rfl⟩ t ⟨hd,hT.below hbw hL.size,Nat.le_trans hL.size hbw.size⟩ hsm wz.heap.size w1.heap.size w1 (fun k _ h2 _=>hW.block k h2) hW.size hB
   refine this.mono ?_
   rintro r w' ⟨g,h,rfl,e1,e2,e3,e4,e5⟩
   have hl:=Sp.report_len Sp.cgDom ⟨delay,narrow,unroll⟩ t hsm
   have e1:w'.heap[g]?=some (.cells (fcCells (Sp.reportOf Sp.cgDom ⟨delay,narrow,unroll⟩ t).1).toArray 76):=e1
   have e2:w'.heap[h]?=some (.cells (siteCells (Sp.reportOf Sp.cgDom ⟨delay,narrow,unroll⟩ t).2).toArray 3):=e2
   generalize Sp.reportOf Sp.cgDom ⟨delay,narrow,unroll⟩ t=F at *
   exact ⟨_,rfl,repAt_mk F p q (by rw [hpp]; exact hl.1) (by rw [hqq]; exact hl.2) e1 e2 e3 e4,e5⟩
  have HW1:Hid (Below w.heap.size w w1):=hLw
  have HKP:Hid (Below w1.heap.size w1 _):=kp
  have HZ2:Hid (_=_):=hz2
  have HC2:Hid (_=_):=hc2
  have HG2:Hid (_=_):=hg2
  have d0:=cell_of hc2 0 (v:=.int .i64 1) rfl
  have d1:=cell_of hc2 1 (v:=.int .i64 (delay:Nat)) rfl
  have d2:=cell_of hc2 2 (v:=.int .i64 (narrow:Nat)) rfl
  have d3:=cell_of hc2 3 (v:=.int .i64 (unroll:Nat)) rfl
  have d4:=cell_of hc2 4 (v:=.bool th) rfl
  have hls:w.heap.size + 1<w1.heap.size:=by have:=b1.size; omega
  clear hc hv hrow hnums hB hT hL kp hz2 hc2 hg2 hr ht hcb b1 hLw hpp hqq
  go_wp2_with fail
  refine (HIC.out _).mono ?_
  rintro r w3 ⟨rfl,b3⟩
  have HB3:Hid (Below w1.heap.size w1 w3):=HKP.out.trans (b3.mono HKP.out.size)
  have hz3:=(b3.block _ (heap_lt HZ2.out)).trans HZ2.out
  have hc3:=(b3.block _ (heap_lt HC2.out)).trans HC2.out
  have hg3:=(b3.block _ (heap_lt HG2.out)).trans HG2.out
  have HZ3:Hid (_=_):=hz3
  clear d0 d1 d2 d3 d4 HZ2 HC2 HG2 HKP HIC b3
  have d0:=cell_of hc3 0 (v:=.int .i64 1) rfl
  have d1:=cell_of hc3 1 (v:=.int .i64 (delay:Nat)) rfl
  have d2:=cell_of hc3 2 (v:=.int .i64 (narrow:Nat)) rfl
  have d3:=cell_of hc3 3 (v:=.int .i64 (unroll:Nat)) rfl
  have d4:=cell_of hc3 4 (v:=.bool th) rfl
  have p0:=cell_of hg3 0 (v:=.slice va vn vc) rfl
  have p1:=cell_of hg3 1 (v:=.int .i64 (p:Nat)) rfl
  have p2:=cell_of hg3 2 (v:=.int .i64 (q:Nat)) rfl
  have p3:=cell_of hg3 3 (v:=.slice na nn nc) rfl
  clear hz3 hc3 hg3
  go_wp2_with fail
  refine (HRP.out _ HB3.out).mono ?_
  rintro r w6 ⟨v,rfl,⟨g,h,hv,g1,g2,g3,g4⟩,b6⟩
  have hz6:=(b6.block _ (heap_lt HZ3.out)).trans HZ3.out
  have B6:Hid (Below w1.heap.size w1 w6):=HB3.out.trans (b6.mono HB3.out.size)
  have hl5:=HB3.out.size
  clear d0 d1 d2 d3 d4 p0 p1 p2 p3 HZ3 HRP b6
  generalize hFF:Sp.reportOf Sp.cgDom ⟨delay,narrow,unroll⟩ t=F at *
  have HFF:Hid (Sp.reportOf Sp.cgDom ⟨delay,narrow,unroll⟩ t=F):=hFF
  clear hFF
  obtain ⟨n1,hr1⟩:∃ n1,Hid (n1=F.1.length):=⟨_,rfl⟩
  obtain ⟨n2,hr2⟩:∃ n2,Hid (n2=F.2.length):=⟨_,rfl⟩
  obtain rfl:v=.agg #[.slice (some ⟨g,0,none⟩) n1 n1,.slice (some ⟨h,0,none⟩) n2 n2]:=by rw [hv,hr1.out,hr2.out]; rfl
  obtain ⟨m0,m1,mf0,mf1,mq⟩:=res2 hz6
  have h2:=heap_setCell_at (heap_setCell_at hz6 0 (.slice (some ⟨g,0,none⟩) n1 n1)) 1 (.slice (some ⟨h,0,none⟩) n2 n2)
  have Q0:Hid (_=_):=cell_of h2 0 (v:=.slice (some ⟨g,0,none⟩) n1 n1) rfl
  have Q1:Hid (_=_):=cell_of h2 1 (v:=.slice (some ⟨h,0,none⟩) n2 n2) rfl
  have HRE:Hid (RepAt w.heap.size ((w6.setCell ⟨w.heap.size + 1,0,none⟩ (.slice (some ⟨g,0,none⟩) n1 n1)).setCell ⟨w.heap.size + 1,1,none⟩ (.slice (some ⟨h,0,none⟩) n2 n2)) (.agg #[.slice (some ⟨g,0,none⟩) n1 n1,.slice (some ⟨h,0,none⟩) n2 n2]) F):=⟨g,h,(by rw [hr1.out,hr2.out]; rfl),by omega,by omega,by rw [Below.heap_setCell _ _ _ _ (by show g ≠ w.heap.size + 1; omega),Below.heap_setCell _ _ _ _ (by show g ≠ w.heap.size + 1; omega)]; exact g3,by rw [Below.heap_setCell _ _ _ _ (by show h ≠ w.heap.size + 1; omega),Below.heap_setCell _ _ _ _ (by show h ≠ w.heap.size + 1; omega)]; exact g4⟩
  have BL:Hid (Below w.heap.size w ((w6.setCell ⟨w.heap.size + 1,0,none⟩ (.slice (some ⟨g,0,none⟩) n1 n1)).setCell ⟨w.heap.size + 1,1,none⟩ (.slice (some ⟨h,0,none⟩) n2 n2))):=((HW1.out.trans (B6.out.mono HW1.out.size)).setCell (p:=⟨w.heap.size + 1,0,none⟩) (by show w.heap.size≤w.heap.size + 1; omega) _).setCell (p:=⟨w.heap.size + 1,1,none⟩) (by show w.heap.size≤w.heap.size + 1; omega) _
  clear mq h2 hz6 g3 g4 hr1 hr2 hv
  go_wp2_with fail
  exact bodyPost_ret (v:=.tuple #[.agg #[.slice (some ⟨g,0,none⟩) n1 n1,.slice (some ⟨h,0,none⟩) n2 n2],.nilIface]) (by simp [results,Tryz.results32,go_sem,Q0.out,Q1.out]) rfl (by rw [E.out]; exact ⟨_,rfl,by rw [HFF.out]; exact HRE.out,BL.out⟩)
end WC
end Go.Proofs.YtiopfihjmkfdmaaGreatDoor
namespace Go.Proofs.YtiopfihjmkfdmaaGreatDoor
namespace WC
set_option maxRecDepth 100000
def knowT:Sp.Bl:=.assign 0 (.num 6) (.assign 1 (.bin 3 (.name 0) (.num 2)) (.read 2 (.assert 3 (.name 2) (.num 1) .nil)))
def knowF:List (Option (Fin 8→Sp.Cg)) × List Nat:=Sp.reportOf Sp.cgDom ⟨0,0,0⟩ knowT
theorem know_all:(knowF.1.length,knowF.2,(knowF.1[4]?).map (fun s=>s.map fun e=>e 1))=(5,[1,2],some (some ⟨0,3⟩)):=by kernel_rfl
end WC
end Go.Proofs.YtiopfihjmkfdmaaGreatDoor
namespace Go.Proofs.YtiopfihjmkfdmaaGreatDoor
open Go.RowKit
set_option maxRecDepth 100000
set_option maxHeartbeats 1000000
theorem num_calls (n:Int) (w:World):Calls Tryz.prog 18 #[.int .i64 n] w fun e w'=>e=.returned (.int .i64 n)∧w'=w:=by
 go_enter Tryz.func18,Tryz.ntmps18
 go_wp2_with fail
 go_ret
 exact ⟨rfl,rfl⟩
theorem Laid2.after {w w':World} (h:Laid2 w) (hb:Below w.heap.size w w'):Laid2 w':=h.below hb h.laid.size
end Go.Proofs.YtiopfihjmkfdmaaGreatDoor
namespace Go.Proofs.YtiopfihjmkfdmaaGreatDoor
namespace WC
open Go.RowKit
set_option maxRecDepth 100000
set_option maxHeartbeats 4000000
abbrev FdI:=List (Option (Fin 8→Sp.Cg)) × List Nat
structure RepV (w:World) (a:Option Addr) (n:Nat) (a':Option Addr) (m:Nat) (F:FdI):Prop where
 n:n=F.1.length
 m:m=F.2.length
 f:∀ i s,F.1[i]?=some s→∃ g,a=some ⟨g,0,none⟩∧w.rangeAt g (i * 17) (fcC s).toList
 s:∀ i k,F.2[i]?=some k→∃ g,a'=some ⟨g,0,none⟩∧w.cell? ⟨g,i,none⟩=some (.int .i64 ((k:Nat):Int))
theorem range_below {w w':World} {g o:Nat} {l:List Value} (h:w.rangeAt g o l) (b:Below w.heap.size w w'):w'.rangeAt g o l:=fun j v hv=>by
 have h1:=h j v hv
 rw [b.cell (p:=⟨g,o + j,none⟩) (cell_lt h1)]
 exact h1
theorem RepV.below {w w':World} {a:Option Addr} {n:Nat} {a':Option Addr} {m:Nat} {F:FdI} (h:RepV w a n a' m F) (b:Below w.heap.size w w'):RepV w' a n a' m F:=by
 refine ⟨h.n,h.m,fun i s hs=>?_,fun i k hk=>?_⟩
 ·obtain ⟨g,h1,h2⟩:=h.f i s hs
  exact ⟨g,h1,range_below h2 b⟩
 ·obtain ⟨g,h1,h2⟩:=h.s i k hk
  exact ⟨g,h1,by rw [b.cell (p:=⟨g,i,none⟩) (cell_lt h2)]; exact h2⟩
theorem RepV.none (w:World):RepV w none 0 none 0 ([],[]):=⟨rfl,rfl,fun i s h=>by simp at h,fun i s h=>by simp at h⟩
theorem RepV.of {B:Nat} {w:World} {v:Value} {F:FdI} (h:RepAt B w v F):∃ a n a' m,v=.agg #[.slice a n n,.slice a' m m]∧RepV w a n a' m F:=by
 obtain ⟨g,h,rfl,_,_,h1,h2⟩:=h
 refine ⟨_,_,_,_,rfl,rfl,rfl,fun i s hs=>⟨g,rfl,?_⟩,fun i k hk=>⟨h,rfl,?_⟩⟩
 ·intro j v hv
  have hj:j<17:=by
   have:=(List.getElem?_eq_some_iff.1 hv).1
   rw [fcC_len] at this
   exact this
  refine cell_of h1 _ ?_
  rw [List.getElem?_toArray]
  show (F.1.flatMap fun s=>(fcC s).toList)[i * 17 + j]?=some v
  rw [chunk_get fcC_len F.1 i s j hs hj]
  exact hv
 ·exact cell_of h2 i (siteCells_get hk)
def knowSrc:Sp.Bs:=[97,32,61,32,54,59,32,98,32,61,32,97,32,47,32,50,59,32,114,101,97,100,32,99,59,32,97,115,115,101,114,116,32,99,32,33,61,32,49,59]
theorem know_tree:Sp.tree knowSrc=.ok knowT:=by kernel_rfl
theorem know_len:knowF.1.length=5:=congrArg (fun x=>x.1) know_all
theorem know_sites:knowF.2=[1,2]:=congrArg (fun x=>x.2.1) know_all
theorem know_fact:(knowF.1[4]?).map (fun s=>s.map fun e=>e 1)=some (some ⟨0,3⟩):=congrArg (fun x=>x.2.2) know_all
theorem know_cells {w:World} {g:Nat} (h:w.heap[g]?=some (.cells (fcCells knowF.1).toArray 76)) :
  w.cell? ⟨g,68,none⟩=some (.bool true)∧w.cell? ⟨g,71,none⟩=some (.int .i64 0)∧w.cell? ⟨g,72,none⟩=some (.int .i64 3):=by
 obtain ⟨s,hs,h1⟩:=Option.map_eq_some_iff.1 know_fact
 obtain ⟨e,rfl,h2⟩:=Option.map_eq_some_iff.1 h1
 have hget:∀ j v,j<17→(fcC (some e))[j]?=some v→w.cell? ⟨g,4 * 17 + j,none⟩=some v:=fun j v hj hv=>by
  refine cell_of h _ ?_
  rw [List.getElem?_toArray]
  show (knowF.1.flatMap fun s=>(fcC s).toList)[4 * 17 + j]?=some v
  rw [chunk_get fcC_len knowF.1 4 (some e) j hs hj,Array.getElem?_toList]
  exact hv
 have hl:(List.ofFn fun k=>vTell (e k))[1]?=some (0,3):=by
  rw [List.getElem?_ofFn,dif_pos (by omega)]
  show some (vTell (e 1))=_
  rw [h2]
  rfl
 obtain ⟨a1,a2⟩:=stA_get (fun v:Int × Int=>.int .i64 v.1) (fun v:Int × Int=>.int .i64 v.2) (r:=true) hl
 exact ⟨hget 0 _ (by omega) rfl,hget 3 _ (by omega) a1,hget 4 _ (by omega) a2⟩
theorem knows_calls (w:World) (hL:Laid2 w) (hT:Turns w):Calls Tryz.prog 29 #[.int .i64 1] w fun e w'=>e=.returned (.bool true)∧Below w.heap.size w w':=by
 have hc:=Analyze_calls ⟨#[97,32,61,32,54,59,32,98,32,61,32,97,32,47,32,50,59,32,114,101,97,100,32,99,59,32,97,115,115,101,114,116,32,99,32,33,61,32,49,59]⟩ 0 0 0 false w (by decide) hL.laid hT (by omega) (by omega) (by omega)
 rw [show (⟨#[97,32,61,32,54,59,32,98,32,61,32,97,32,47,32,50,59,32,114,101,97,100,32,99,59,32,97,115,115,101,114,116,32,99,32,33,61,32,49,59]⟩:ByteArray).data.toList=knowSrc from rfl,know_tree] at hc
 go_enter Tryz.func29,Tryz.ntmps29
 go_wp2_with fail
 refine hc.mono ?_
 rintro e w1 ⟨v,rfl,hv,b1⟩
 have hv':RepAt w.heap.size w1 v knowF:=hv
 obtain ⟨g,h,rfl,_,_,h1,h2⟩:=hv'
 rw [know_len,know_sites]
 rw [know_sites] at h2
 obtain ⟨k0,k1,k2⟩:=know_cells h1
 have s0:=cell_of h2 0 (v:=.int .i64 1) rfl
 have s1:=cell_of h2 1 (v:=.int .i64 2) rfl
 have lg:=heap_lt h1
 have lh:=heap_lt h2
 simp only [List.length_cons,List.length_nil]
 clear hc hv h1 h2
 go_wp2_with fail
 have hn:=heap_alloc_new w1 (.cells #[.slice (some ⟨g,0,none⟩) 5 5,.slice (some ⟨h,0,none⟩) 2 2] 64)
 have b3:=below_alloc1 w1 (.cells #[.slice (some ⟨g,0,none⟩) 5 5,.slice (some ⟨h,0,none⟩) 2 2] 64)
 refine (Tell_nil _).mono ?_
 rintro e w2 ⟨rfl,b4⟩
 have hn2:w2.heap[w1.heap.size]?=some (.cells #[.slice (some ⟨g,0,none⟩) 5 5,.slice (some ⟨h,0,none⟩) 2 2] 64):=by rw [b4.block _ (by simp)]; exact hn
 have m0:=cell_of hn2 0 (v:=.slice (some ⟨g,0,none⟩) 5 5) rfl
 have m1:=cell_of hn2 1 (v:=.slice (some ⟨h,0,none⟩) 2 2) rfl
 have b5:Below w1.heap.size w1 w2:=b3.trans (b4.mono (by simp))
 have j0:w2.cell? ⟨g,68,none⟩=some (.bool true):=by rw [b5.cell (p:=⟨g,68,none⟩) lg]; exact k0
 have j1:w2.cell? ⟨g,71,none⟩=some (.int .i64 0):=by rw [b5.cell (p:=⟨g,71,none⟩) lg]; exact k1
 have j2:w2.cell? ⟨g,72,none⟩=some (.int .i64 3):=by rw [b5.cell (p:=⟨g,72,none⟩) lg]; exact k2
 have i0:w2.cell? ⟨h,0,none⟩=some (.int .i64 1):=by rw [b5.cell (p:=⟨h,0,none⟩) lh]; exact s0
 have i1:w2.cell? ⟨h,1,none⟩=some (.int .i64 2):=by rw [b5.cell (p:=⟨h,1,none⟩) lh]; exact s1
 have lw:w1.heap.size<w2.heap.size:=heap_lt hn2
 have n1:g ≠ w2.heap.size:=by omega
 have n2:h ≠ w2.heap.size:=by omega
 have n3:w1.heap.size ≠ w2.heap.size:=by omega
 have bv:=below_alloc1 w2 (.cells #[.int .i64 0,.int .i64 3] 73)
 have lg2:g<w2.heap.size:=by omega
 have lh2:h<w2.heap.size:=by omega
 have p0:=(bv.cell (p:=⟨g,68,none⟩) lg2).trans j0
 have p1:=(bv.cell (p:=⟨h,0,none⟩) lh2).trans i0
 have p2:=(bv.cell (p:=⟨h,1,none⟩) lh2).trans i1
 have p3:=(bv.cell (p:=⟨w1.heap.size,0,none⟩) lw).trans m0
 have p4:=(bv.cell (p:=⟨w1.heap.size,1,none⟩) lw).trans m1
 have hB:=b1.trans (b5.mono b1.size)
 have HB:Hid (Below w.heap.size w w2):=hB
 clear hn hn2 b3 b4 k0 k1 k2 s0 s1 hB b1 b5 bv
 go_wp2_with (go_at_call 18; refine (num_calls _ _).mono ?_; rintro e w4 ⟨rfl,rfl⟩)
 go_ret
 exact ⟨rfl,HB.out.alloc HB.out.size _⟩
end WC
end Go.Proofs.YtiopfihjmkfdmaaGreatDoor
namespace Go.Proofs.YtiopfihjmkfdmaaGreatDoor
namespace WC
open Go.RowKit
set_option maxRecDepth 100000
set_option maxHeartbeats 8000000
def ansF (P:Sp.Pol) (src:Sp.Bs):FdI × Nat:=match Sp.tree src with
 | .ok t=>(Sp.reportOf Sp.cgDom P t,0)
 | .error er=>(([],[]),er.1)
def ErrV (w:World) (v:Value) (k:Nat):Prop:=(v=.nilIface∧k=0)∨∃ B er,ErrAt w B v er∧er.1=k
theorem ErrV.laid {w:World} {v:Value} {k:Nat} (h:ErrV w v k) (o:Obj):ErrV (w.alloc o) v k:=by
 rcases h with h | ⟨B,er,h,e⟩
 ·exact .inl h
 ·exact .inr ⟨B,er,h.laid o,e⟩
theorem tell_any {w:World} {v:Value} {k:Nat} (h:ErrV w v k) (hL:Laid2 w):∃ a:Nat,Calls Tryz.prog 16 #[v] w fun e w'=>e=.returned (.tuple #[.int .i64 (k:Nat),.int .i64 (a:Nat)])∧Below w.heap.size w w':=by
 rcases h with ⟨rfl,rfl⟩ | ⟨B,er,h,rfl⟩
 ·exact ⟨0,Tell_nil w⟩
 ·exact ⟨er.2,Tell_err v er B w hL.et hL.laid.size h⟩
theorem ansF_small (P:Sp.Pol) (src:Sp.Bs):(ansF P src).1.1.length≤1000∧(ansF P src).1.2.length≤1000:=by
 unfold ansF
 cases h:Sp.tree src with
 | error er=>exact ⟨Nat.zero_le _,Nat.zero_le _⟩
 | ok t =>
  obtain ⟨h1,h2,_⟩:=Sp.tree_small h
  have hl:=Sp.report_len Sp.cgDom P t ⟨by simp,by simp,by simp; omega,by simp; omega⟩
  refine ⟨?_,?_⟩
  ·show (Sp.reportOf Sp.cgDom P t).1.length≤1000
   rw [hl.1]; omega
  ·show (Sp.reportOf Sp.cgDom P t).2.length≤1000
   rw [hl.2]; omega
theorem Analyze_out (s:ByteArray) (delay narrow unroll:Nat) (th:Bool) (w:World) (hs:s.size≤1048576) (hL:Laid2 w) (hT:Turns w) (h1:delay≤4) (h2:narrow≤3) (h3:unroll≤3) :
  Calls Tryz.prog 32 #[.string s,.agg #[.int .i64 1,.int .i64 (delay:Nat),.int .i64 (narrow:Nat),.int .i64 (unroll:Nat),.bool th]] w fun e w'=>∃ a n c a' m c' ev,e=.returned (.tuple #[.agg #[.slice a n c,.slice a' m c'],ev])∧RepV w' a n a' m (ansF ⟨delay,narrow,unroll⟩ s.data.toList).1∧ErrV w' ev (ansF ⟨delay,narrow,unroll⟩ s.data.toList).2∧Below w.heap.size w w':=by
 refine (Analyze_calls s delay narrow unroll th w hs hL.laid hT h1 h2 h3).mono ?_
 intro e w' h
 unfold ansF
 cases ht:Sp.tree s.data.toList with
 | error er =>
  rw [ht] at h
  obtain ⟨v,rfl,hv,b⟩:=h
  exact ⟨none,0,0,none,0,0,v,rfl,RepV.none w',.inr ⟨_,er,hv,rfl⟩,b⟩
 | ok t =>
  rw [ht] at h
  obtain ⟨v,rfl,hv,b⟩:=h
  obtain ⟨a,n,a',m,rfl,hr⟩:=RepV.of hv
  exact ⟨a,n,n,a',m,m,.nilIface,rfl,hr,.inl ⟨rfl,rfl⟩,b⟩
theorem turns_after {w w':World} (h:Turns w) (hL:Laid2 w) (b:Below w.heap.size w w'):Turns w':=h.below b hL.laid.size
end WC
end Go.Proofs.YtiopfihjmkfdmaaGreatDoor
namespace Go.Proofs.YtiopfihjmkfdmaaGreatDoor
namespace WC
open Go.RowKit
set_option maxRecDepth 100000
set_option maxHeartbeats 8000000
structure CstOf (F:FdI) (t:List (Int × List Int) × Int):Prop where
 f:∀ (p:Nat) s,F.1[p]?=some s→(∀ st,((p:Int),st) ∈ t.1→s=some (Sp.conE st))∧((∀ st,((p:Int),st) ∉ t.1)→s=none)
 s:∀ (i:Nat) k,F.2[i]?=some k→(k=2 ↔ t.2=(i:Int))
 i:(t.1.map (·.1)).Pairwise (· < ·)
 z:∀ v ∈ t.1,∀ k:Fin 8,Sp.I16 (v.2.getD k.val 0)
theorem ans_const (src:Sp.Bs):match Sp.run src [] 500 with
  | .error er=>(ansF ⟨0,0,0⟩ src).2=er.1
  | .ok t=>(ansF ⟨0,0,0⟩ src).2=0∧(¬ Sp.HasW Sp.wWhile src→¬ Sp.HasW Sp.wRead src→CstOf (ansF ⟨0,0,0⟩ src).1 t):=by
 cases ht:Sp.tree src with
 | error er =>
  rw [show Sp.run src [] 500=.error er by unfold Sp.run; rw [Sp.parse_tree,ht]]
  show (ansF ⟨0,0,0⟩ src).2=er.1
  unfold ansF
  rw [ht]
 | ok t =>
  obtain ⟨h1,h2,h3⟩:=Sp.tree_small ht
  have h:=Sp.report_sound Sp.cgRk Sp.cgSnd ⟨0,0,0⟩ t h3 h1 h2 [] (fun n hn=>by cases hn) 500
  rw [show Sp.run src [] 500=.ok (Sp.runOf (Sp.foldB Sp.Rn t) [] 500) by unfold Sp.run; rw [Sp.parse_tree,ht]; rfl]
  have e:ansF ⟨0,0,0⟩ src=(Sp.reportOf Sp.cgDom ⟨0,0,0⟩ t,0):=by unfold ansF; rw [ht]; rfl
  show (ansF ⟨0,0,0⟩ src).2=0∧(_→_→CstOf (ansF ⟨0,0,0⟩ src).1 _)
  rw [e]
  refine ⟨rfl,fun hw hr=>?_⟩
  obtain ⟨c1,c2,c3⟩:=Sp.report_const ⟨0,0,0⟩ t h3 (Sp.tree_names ht) (Sp.tree_noLoop ht hw) (Sp.tree_noRead ht hr) h1 h2
  refine ⟨fun p s hs=>?_,fun i k hk=>?_,c3,fun v hv k=>?_⟩
  ·obtain ⟨d1,d2⟩:=c1 p (List.getElem?_eq_some_iff.1 hs).1
   exact ⟨fun st hst=>Option.some.inj (hs.symm.trans (d1 st hst)),fun hn=>Option.some.inj (hs.symm.trans (d2 hn))⟩
  ·rw [← c2 i (List.getElem?_eq_some_iff.1 hk).1]
   constructor
   ·rintro rfl; exact hk
   ·intro h; exact Option.some.inj (hk.symm.trans h)
  ·obtain ⟨_,_,e,_,d⟩:=h.1 v hv
   exact (d.2 k).2
theorem one_visit {vis:List (Int × List Int)} (h:(vis.map (·.1)).Pairwise (· < ·)) {i j:Nat} {x y:Int × List Int} (hi:vis[i]?=some x) (hj:vis[j]?=some y) (he:x.1=y.1):i=j:=by
 rw [List.pairwise_iff_getElem] at h
 obtain ⟨h1,e1⟩:=List.getElem?_eq_some_iff.1 hi
 obtain ⟨h2,e2⟩:=List.getElem?_eq_some_iff.1 hj
 rcases Nat.lt_trichotomy i j with hl | hl | hl
 ·have:=h i j (by simpa using h1) (by simpa using h2) hl
  simp only [List.getElem_map,e1,e2] at this
  omega
 ·exact hl
 ·have:=h j i (by simpa using h2) (by simpa using h1) hl
  simp only [List.getElem_map,e1,e2] at this
  omega
def VisPost (vis:List (Int × List Int)) (p:Nat) (w:World) (e:Ending) (w':World):Prop :=
 ∃ (z:Int) (b:Bool),e=.returned (.tuple #[.int .i64 z,.bool b])∧Below w.heap.size w w'∧((z=-1∧∀ st,((p:Int),st) ∉ vis)∨∃ (j:Nat) (st:List Int),z=(j:Int)∧vis[j]?=some ((p:Int),st))
theorem visited_calls (va:Option Addr) (vc:Nat) (stop:Int) (vis:List (Int × List Int)) (p:Nat) (w:World) (hv:VisAt w (.slice va vis.length vc) vis) (hl:vis.length≤500) (hi:(vis.map (·.1)).Pairwise (· < ·)) :
  Calls Tryz.prog 35 #[.agg #[.slice va vis.length vc,.int .i64 stop],.int .i64 (p:Nat)] w (VisPost vis p w):=by
 have hl2:(vis.length:Int)≤500:=by omega
 have HI:Hid ((vis.map (·.1)).Pairwise (· < ·)):=hi
 have H0:Hid (Below w.heap.size w (w.alloc (.cells #[.slice va vis.length vc,.int .i64 stop] 41))):=below_alloc1 _ _
 have HT:Hid (_=_):=heap_alloc_new w (.cells #[.slice va vis.length vc,.int .i64 stop] 41)
 have HV:Hid (VisAt w (.slice va vis.length vc) vis):=hv
 clear hi hv hl
 go_enter Tryz.func35,Tryz.ntmps35
 go_wp2_with fail
 generalize w.alloc (.cells #[.slice va vis.length vc,.int .i64 stop] 41)=W at *
 obtain ⟨k2,hk2⟩:∃ k2,k2=w.heap.size:=⟨_,rfl⟩
 rw [← hk2]
 rw [← hk2] at HT
 clear hk2
 go_loopw [6,7] (fun v6 v7 wr=>∃ (i:Nat) (z:Int),i≤vis.length∧v7=.int .i64 i∧v6=.int .i64 z∧Hid ((z=-1∧∀ j x,j<i→vis[j]?=some x→x.1 ≠ (p:Int))∨∃ (j:Nat) (x:Int × List Int),z=(j:Int)∧j<i∧vis[j]?=some x∧x.1=(p:Int))∧Hid (wr.heap[k2]?=some (.cells #[.slice va vis.length vc,.int .i64 stop] 41)∧Below w.heap.size w wr)) (fun _ v7 _=>vis.length - (intOf v7).toNat)
 case atStart=>exact ⟨0,-1,Nat.zero_le _,rfl,rfl,.inl ⟨rfl,fun j x h=>by omega⟩,HT.out,H0.out⟩
 case round =>
  obtain ⟨i,z,hi,rfl,rfl,hz,hq⟩:=hrel
  have c0:=cell_of hq.out.1 0 (v:=.slice va vis.length vc) rfl
  by_cases hil:i<vis.length
  ·have hii:((i:Nat):Int)<((vis.length:Nat):Int):=by omega
   obtain ⟨x,hx⟩:∃ x,vis[i]?=some x:=⟨_,List.getElem?_eq_getElem hil⟩
   obtain ⟨g,rfl,hcell⟩:∃ g,va=some ⟨g,0,none⟩∧∀ i u,(visCells vis)[i]?=some u→w.cell? ⟨g,i,none⟩=some u:=by
    obtain ⟨_,_,e1,_,h3⟩:=HV.out
    cases e1
    exact h3 (fun h=>by rw [h] at hil; cases hil)
   have hc0:=hcell (i * 9) (.int .i64 x.1) (by have:=visCells_get vis i x hx 0 (.int .i64 x.1) rfl; simpa using this)
   have v0:wr.cell? ⟨g,i * 9,none⟩=some (.int .i64 x.1):=by
    rw [hq.out.2.cell (p:=⟨g,i * 9,none⟩) (cell_lt hc0)]; exact hc0
   clear hcell hc0
   by_cases hp:x.1=(p:Int)
   ·obtain ⟨rfl,hno⟩:z=-1∧∀ j x,j<i→vis[j]?=some x→x.1 ≠ (p:Int):=by
     rcases hz.out with h | ⟨j,y,_,hj,hy,hyp⟩
     ·exact h
     ·exact absurd (one_visit HI.out hx hy (hp.trans hyp.symm)) (by omega)
    have HN:Hid (((i:Int)=-1∧∀ j x,j<i + 1→vis[j]?=some x→x.1 ≠ (p:Int))∨∃ (j:Nat) (x:Int × List Int),(i:Int)=(j:Int)∧j<i + 1∧vis[j]?=some x∧x.1=(p:Int)):=.inr ⟨i,x,rfl,by omega,hx,hp⟩
    have HQ:∀ n,Hid ((wr.drewN n).heap[k2]?=some (.cells #[.slice (some ⟨g,0,none⟩) vis.length vc,.int .i64 stop] 41)∧Below w.heap.size w (wr.drewN n)):=fun n=>⟨hq.out.1,⟨hq.out.2.os,hq.out.2.tape,hq.out.2.output,hq.out.2.size,hq.out.2.block⟩⟩
    rw [hp] at v0
    clear hno hz hx
    go_wp2_with fail
    go_quiet (fail)
    all_goals
     go_wp2_with fail
     exact ⟨⟨i + 1,i,by omega,by go_num,rfl,HN,HQ _⟩,by simp [intOf]; omega⟩
   ·have HN:Hid ((z=-1∧∀ j x,j<i + 1→vis[j]?=some x→x.1 ≠ (p:Int))∨∃ (j:Nat) (x:Int × List Int),z=(j:Int)∧j<i + 1∧vis[j]?=some x∧x.1=(p:Int)):=by
     rcases hz.out with ⟨h1,h2⟩ | ⟨j,y,h1,hj,hy,hyp⟩
     ·refine .inl ⟨h1,fun j y hj hy=>?_⟩
      by_cases e:j=i
      ·subst e; rw [hx] at hy; cases hy; exact hp
      ·exact h2 j y (by omega) hy
     ·exact .inr ⟨j,y,h1,by omega,hy,hyp⟩
    clear hz hx
    go_wp2_with fail
    exact ⟨⟨i + 1,z,by omega,by go_num,rfl,HN,hq⟩,by simp [intOf]; omega⟩
  ·obtain rfl:i=vis.length:=by omega
   have HP:Hid ((z=-1∧∀ st,((p:Int),st) ∉ vis)∨∃ (j:Nat) (st:List Int),z=(j:Int)∧vis[j]?=some ((p:Int),st)):=by
    rcases hz.out with ⟨h1,h2⟩ | ⟨j,⟨y1,y2⟩,h1,hj,hy,hyp⟩
    ·refine .inl ⟨h1,fun st hst=>?_⟩
     obtain ⟨j,hj,e⟩:=List.getElem_of_mem hst
     exact h2 j _ hj (by rw [List.getElem?_eq_getElem hj,e]) rfl
    ·exact .inr ⟨j,y2,h1,by rw [hy]; simp only at hyp; rw [hyp]⟩
   clear hz
   go_wp2_with fail
   go_returns
   exact ⟨z,true,rfl,hq.out.2,HP.out⟩
end WC
end Go.Proofs.YtiopfihjmkfdmaaGreatDoor
namespace Go.Proofs.YtiopfihjmkfdmaaGreatDoor
open Go.RowKit
set_option maxRecDepth 100000
set_option maxHeartbeats 4000000
theorem ErrAt2.later {w w':World} {B:Nat} {v:Value} {er:Nat × Nat} (h:ErrAt2 w B v er) (hb:Below w.heap.size w w'):ErrAt2 w' 0 v er:=by
 rcases h with (h | ⟨N,_,h2,h3⟩) | h
 ·exact .inl (.inl h)
 ·exact .inl (.inr ⟨N,Nat.zero_le _,h2,by rw [hb.block _ (heap_lt h3)]; exact h3⟩)
 ·exact .inr h
theorem visCells_append (a b:List (Int × List Int)):visCells (a ++ b)=visCells a ++ visCells b:=by
 unfold visCells; simp
theorem VisAt.take {w:World} {a:Option Addr} {n c:Nat} {vis:List (Int × List Int)} (h:VisAt w (.slice a n c) vis) (F:Nat) (hF:F≤vis.length):VisAt w (.slice a F c) (vis.take F):=by
 obtain ⟨a',c',e,h2,h3⟩:=h
 cases e
 refine ⟨a,c,by simp [Nat.min_eq_left hF],by simp; omega,fun hne=>?_⟩
 have hv:vis ≠ []:=by intro e; subst e; simp at hne
 obtain ⟨g,h4,h5⟩:=h3 hv
 refine ⟨g,h4,fun i u hu=>h5 i u ?_⟩
 rw [← List.take_append_drop F vis,visCells_append,List.getElem?_append_left (List.getElem?_eq_some_iff.1 hu).1]
 exact hu
theorem VisAt.set {w:World} {v:Value} {vis:List (Int × List Int)} (h:VisAt w v vis) {S j:Nat} {a:Option Addr} {n c:Nat} {x u:Value} {t:TypeId} (hS:w.heap[S]?=some (.cells #[.slice a n c,x] t)):VisAt (w.setCell ⟨S,j,none⟩ u) v vis:=by
 obtain ⟨a',c',e,h2,h3⟩:=h
 refine ⟨a',c',e,h2,fun hne=>?_⟩
 obtain ⟨g,h4,h5⟩:=h3 hne
 have hg:g ≠ S:=by
  intro e
  subst e
  cases vis with
  | nil=>exact hne rfl
  | cons y ys =>
   have h6:=h5 0 (.int .i64 y.1) rfl
   rw [cell_of hS 0 (v:=.slice a n c) rfl] at h6
   cases h6
 exact ⟨g,h4,fun i u' hu=>by rw [World.cell?_of_block (w:=w) (Below.heap_setCell _ _ _ _ hg)]; exact h5 i u' hu⟩
end Go.Proofs.YtiopfihjmkfdmaaGreatDoor
