import Derived.Test.YtiopfihjmkfdmaaGreatDoorX18
import Derived.Test.YtiopfihjmkfdmaaGreatDoorX21
namespace Go.Proofs.YtiopfihjmkfdmaaGreatDoor
open Go.RowKit
set_option maxRecDepth 100000
set_option maxHeartbeats 2000000
def rs0 (ins:List Int) (fuel:Nat):Sp.Rst:={ vis:=[],st:=List.replicate 8 0,ins:=ins,fuel:=fuel }
theorem run_new {base:Nat} {w:World} {iv:Value} {ins:List Int} {fuel:Nat} (hf:fuel≤500) (hB:base≤w.heap.size) (hin:InAt base w iv ins) (fi:Int) (hfi:fi=fuel) :
  RunAt base w.heap.size 0 (rs0 ins fuel) (w.alloc (.cells #[.slice none 0 0,.int .i64 0,.int .i16 0,.int .i16 0,.int .i16 0,.int .i16 0,.int .i16 0,.int .i16 0,.int .i16 0,.int .i16 0,iv,.int .i64 fi] 181)):=by
 subst hfi
 refine ⟨.slice none 0 0,iv,heap_alloc_new _ _,World.ownsRow_nil _ _ _ _,hin.below ((Below.refl _ _).alloc hB _),hB,rfl,by simp [rs0]; omega⟩
def TraceAt (base:Nat) (w:World) (v:Value) (t:List (Int × List Int) × Int):Prop :=
 ∃ vv,v=.agg #[vv,.int .i64 t.2]∧w.ownsRow base 80 9 vv t.1.length (visCells t.1)∧t.1.length≤500
theorem trace_of {base b:Nat} {stop:Int} {r:Sp.Rst} {w:World} (h:RunAt base b stop r w):∃ vv,w.cell? ⟨b,0,none⟩=some vv∧w.cell? ⟨b,1,none⟩=some (.int .i64 stop)∧w.ownsRow base 80 9 vv r.vis.length (visCells r.vis)∧r.vis.length≤500∧(∃ a n c,vv=.slice a n c):=by
 obtain ⟨vv,iv,h1,h2,_,_,_,h6⟩:=h
 refine ⟨vv,cell_of h1 0 rfl,cell_of h1 1 rfl,h2,by omega,?_⟩
 rcases h2.2 with ⟨rfl,_⟩ | ⟨g,cap,cur,rfl,_⟩
 ·exact ⟨_,_,_,rfl⟩
 ·exact ⟨_,_,_,rfl⟩
theorem trace_stored {base S:Nat} {stop:Int} {r:Sp.Rst} {w:World} (hS:base≤S) (hr:w.heap[S]?=some (.cells #[.slice none 0 0,.int .i64 0] 41)) {vv:Value} (hv:w.ownsRow base 80 9 vv r.vis.length (visCells r.vis)) :
  ((w.setCell ⟨S,0,none⟩ vv).setCell ⟨S,1,none⟩ (.int .i64 stop)).cell? ⟨S,0,none⟩=some vv∧((w.setCell ⟨S,0,none⟩ vv).setCell ⟨S,1,none⟩ (.int .i64 stop)).cell? ⟨S,1,none⟩=some (.int .i64 stop) ∧
  ((w.setCell ⟨S,0,none⟩ vv).setCell ⟨S,1,none⟩ (.int .i64 stop)).ownsRow base 80 9 vv r.vis.length (visCells r.vis)∧Below base w ((w.setCell ⟨S,0,none⟩ vv).setCell ⟨S,1,none⟩ (.int .i64 stop)):=by
 have h2:=heap_setCell_at (heap_setCell_at hr 0 vv) 1 (.int .i64 stop)
 refine ⟨cell_of h2 0 rfl,cell_of h2 1 rfl,ownsRow9_keep hv (fun g hg=>?_),((Below.refl _ _).setCell (p:=⟨S,0,none⟩) hS _).setCell (p:=⟨S,1,none⟩) hS _⟩
 have hne:g ≠ S:=fun e=>by
  obtain ⟨_,_,c,hc⟩:=ownsRow9_lt hv g hg
  rw [e,hr] at hc
  cases hc
 rw [Below.heap_setCell _ _ _ _ hne,Below.heap_setCell _ _ _ _ hne]
def runW (w:World) (av:Option Addr) (nv cv:Nat) (p q:Int) (ax:Option Addr) (nx cx:Nat) (iv:Value) (fuel:Int):World :=
 ((w.alloc (.cells #[.slice av nv cv,.int .i64 p,.int .i64 q,.slice ax nx cx] 86)).alloc (.cells #[.slice none 0 0,.int .i64 0] 41)).alloc (.cells #[.slice none 0 0,.int .i64 0,.int .i16 0,.int .i16 0,.int .i16 0,.int .i16 0,.int .i16 0,.int .i16 0,.int .i16 0,.int .i16 0,iv,.int .i64 fuel] 181)
theorem runW_eq (w:World) (av:Option Addr) (nv cv:Nat) (p q:Int) (ax:Option Addr) (nx cx:Nat) (iv:Value) (fuel:Int):((w.alloc (.cells #[.slice av nv cv,.int .i64 p,.int .i64 q,.slice ax nx cx] 86)).alloc (.cells #[.slice none 0 0,.int .i64 0] 41)).alloc (.cells #[.slice none 0 0,.int .i64 0,.int .i16 0,.int .i16 0,.int .i16 0,.int .i16 0,.int .i16 0,.int .i16 0,.int .i16 0,.int .i16 0,iv,.int .i64 fuel] 181)=runW w av nv cv p q ax nx cx iv fuel:=rfl
theorem runW_facts (w:World) (av:Option Addr) (nv cv:Nat) (p q:Int) (ax:Option Addr) (nx cx:Nat) (iv:Value) (ins:List Int) (fuel:Nat) (hf:fuel≤500) (hin:InAt w.heap.size w iv ins) :
  RunAt w.heap.size (w.heap.size + 2) 0 (rs0 ins fuel) (runW w av nv cv p q ax nx cx iv fuel)∧(runW w av nv cv p q ax nx cx iv fuel).heap[w.heap.size]?=some (.cells #[.slice av nv cv,.int .i64 p,.int .i64 q,.slice ax nx cx] 86)∧(runW w av nv cv p q ax nx cx iv fuel).heap[w.heap.size + 1]?=some (.cells #[.slice none 0 0,.int .i64 0] 41)∧Below w.heap.size w (runW w av nv cv p q ax nx cx iv fuel):=by
 have b1:=below_alloc1 w (.cells #[.slice av nv cv,.int .i64 p,.int .i64 q,.slice ax nx cx] 86)
 have b2:Below w.heap.size w ((w.alloc (.cells #[.slice av nv cv,.int .i64 p,.int .i64 q,.slice ax nx cx] 86)).alloc (.cells #[.slice none 0 0,.int .i64 0] 41)):=b1.alloc (by simp) _
 have hs:((w.alloc (.cells #[.slice av nv cv,.int .i64 p,.int .i64 q,.slice ax nx cx] 86)).alloc (.cells #[.slice none 0 0,.int .i64 0] 41)).heap.size=w.heap.size + 2:=by simp
 have r0:=run_new (base:=w.heap.size) (w:=(w.alloc (.cells #[.slice av nv cv,.int .i64 p,.int .i64 q,.slice ax nx cx] 86)).alloc (.cells #[.slice none 0 0,.int .i64 0] 41)) hf (by rw [hs]; omega) (hin.below b2) (fuel:Int) rfl
 rw [hs] at r0
 refine ⟨r0,heap_alloc_old (heap_alloc_old (heap_alloc_new _ _)),heap_alloc_old ?_,b2.alloc (by rw [hs]; omega) _⟩
 have:=heap_alloc_new (w.alloc (.cells #[.slice av nv cv,.int .i64 p,.int .i64 q,.slice ax nx cx] 86)) (.cells #[.slice none 0 0,.int .i64 0] 41)
 simpa using this
theorem runOf_eq (xs:List Sp.Rn.T) (ins:List Int) (fuel:Nat) (ct:Int × Int) (h:(Sp.number xs (0,0)).2=ct):Sp.runOf xs ins fuel=match Sp.andThen (Sp.steps (Sp.number xs (0,0)).1 (rs0 ins fuel)) (Sp.visit ct.1) with
  | (r,none)=>(r.vis,-1)
  | (r,some s)=>(r.vis,s):=by
 unfold Sp.runOf rs0
 simp only
 rw [h]
 rfl
theorem runner_calls {ct:Int × Int} {lo hi:Nat} {w0:World} (av:Option Addr) (nv cv:Nat) (q:Int) (ax:Option Addr) (nx cx:Nat) (xs:List Sp.Rn.T) (h:Blk StR (0,0) lo hi w0 (.slice av nv cv) xs ct) (w:World) (iv:Value) (ins:List Int) (fuel:Nat) (hf:fuel≤500) (hso:SameOn lo hi w0 w) (hhi:hi≤w.heap.size) (hin:InAt w.heap.size w iv ins) (hiv:∃ a n c,iv=.slice a n c) :
  Calls Tryz.prog 43 #[.agg #[.slice av nv cv,.int .i64 ct.1,.int .i64 q,.slice ax nx cx],iv,.int .i64 fuel] w fun e w'=>∃ v,e=.returned v∧TraceAt w.heap.size w' v (Sp.runOf xs ins fuel)∧Below w.heap.size w w':=by
 obtain ⟨hb,_,hct⟩:=blk_runs h
 have ER:Hid (_=_):=runOf_eq xs ins fuel ct hct
 obtain ⟨ia,i_n,ic,rfl⟩:=hiv
 obtain ⟨hr0,hn0,hn1,kb⟩:=runW_facts w av nv cv ct.1 q ax nx cx (.slice ia i_n ic) ins fuel hf hin
 have HN0:Hid (_=_):=hn0
 have HN1:Hid (_=_):=hn1
 have hbk:=hb (runW w av nv cv ct.1 q ax nx cx (.slice ia i_n ic) fuel) w.heap.size (w.heap.size + 2) _ (fun k h1 h2 hn=>by rw [kb.block k (by omega)]; exact hso k h1 h2 hn) hhi hr0
 have hw:=@runW_eq w av nv cv ct.1 q ax nx cx (.slice ia i_n ic) fuel
 have HW:Hid (_=_):=hw
 have c0:=cell_of hn0 0 (v:=.slice av nv cv) rfl
 have c1:=cell_of hn0 1 (v:=.int .i64 ct.1) rfl
 clear hn0 hn1 hin hb hct h hr0 hw
 go_enter Tryz.func43,Tryz.ntmps43
 go_wp2_with fail
 rw [HW.out]
 clear HW
 generalize runW w av nv cv ct.1 q ax nx cx (.slice ia i_n ic) fuel=wn at *
 refine hbk.mono ?_
 intro e w1 hp
 clear hbk
 generalize Sp.steps (Sp.number xs (0,0)).1 (rs0 ins fuel)=o1 at hp ER
 obtain ⟨r1,_ | s⟩:=o1
 ·obtain ⟨rfl,r1a,k1⟩:=hp
  have ER1:Hid (Sp.runOf xs ins fuel=match Sp.visit ct.1 r1 with
   | (r,none)=>(r.vis,-1)
   | (r,some s)=>(r.vis,s)):=ER
  have d1:=cell_of (k1.cell HN0.out (by omega) (by decide)) 1 (v:=.int .i64 ct.1) rfl
  have hv:=visit_calls r1a ct.1
  clear ER
  go_wp2_with fail
  refine (pwhere_calls ct.1 _).mono ?_
  rintro e w2 ⟨rfl,rfl⟩
  go_wp2_with fail
  refine hv.mono ?_
  intro e w2 hp2
  clear hv d1
  generalize Sp.visit ct.1 r1=o2 at hp2 ER1
  obtain ⟨r2,_ | s⟩:=o2
  ·obtain ⟨rfl,r2a,k2⟩:=hp2
   have E:Hid (Sp.runOf xs ins fuel=(r2.vis,-1)):=ER1
   obtain ⟨_,_,hb2,_⟩:=id r2a
   have g1:=cell_of hb2 1 (v:=.int .i64 0) rfl
   have fg1:=frozen_of hb2 1
   obtain ⟨r3,k3⟩:=r2a.stopped (-1)
   have K:Hid (RKeep w.heap.size (w.heap.size + 2) wn (w2.setCell ⟨w.heap.size + 2,1,none⟩ (.int .i64 (-1)))):=(k1.trans k2).trans k3
   obtain ⟨vv,q0,q1,ho,hlen,av',nv',cv',rfl⟩:=trace_of r3
   have hres:=K.out.cell HN1.out (by omega) (by decide)
   have m0:=cell_of hres 0 (v:=.slice none 0 0) rfl
   have m1:=cell_of hres 1 (v:=.int .i64 0) rfl
   have fm0:=frozen_of hres 0
   have fm1:=frozen_of hres 1
   have hfin:=trace_stored (stop:=-1) (r:=r2) (S:=w.heap.size + 1) (by omega) hres ho
   have HF:Hid (_∧_):=hfin
   clear hfin hres ho k1 k2 k3 hb2 r1a r2a r3 ER1
   go_wp2_with fail
   exact bodyPost_ret (v:=.agg #[.slice av' nv' cv',.int .i64 (-1)]) (by simp [results,Tryz.results43,go_sem,HF.out.1,HF.out.2.1]) rfl ⟨_,rfl,⟨_,by rw [E.out],by rw [E.out]; exact HF.out.2.2.1,by rw [E.out]; exact hlen⟩,(kb.trans K.out.below).trans HF.out.2.2.2⟩
  ·obtain ⟨rfl,r2a,k2⟩:=hp2
   have E:Hid (Sp.runOf xs ins fuel=(r2.vis,s)):=ER1
   have K:Hid (RKeep w.heap.size (w.heap.size + 2) wn w2):=k1.trans k2
   obtain ⟨vv,q0,q1,ho,hlen,av',nv',cv',rfl⟩:=trace_of r2a
   have hres:=K.out.cell HN1.out (by omega) (by decide)
   have m0:=cell_of hres 0 (v:=.slice none 0 0) rfl
   have m1:=cell_of hres 1 (v:=.int .i64 0) rfl
   have fm0:=frozen_of hres 0
   have fm1:=frozen_of hres 1
   have hfin:=trace_stored (stop:=s) (r:=r2) (S:=w.heap.size + 1) (by omega) hres ho
   have HF:Hid (_∧_):=hfin
   clear hfin hres ho k1 k2 r1a r2a ER1
   go_wp2_with fail
   exact bodyPost_ret (v:=.agg #[.slice av' nv' cv',.int .i64 s]) (by simp [results,Tryz.results43,go_sem,HF.out.1,HF.out.2.1]) rfl ⟨_,rfl,⟨_,by rw [E.out],by rw [E.out]; exact HF.out.2.2.1,by rw [E.out]; exact hlen⟩,(kb.trans K.out.below).trans HF.out.2.2.2⟩
 ·obtain ⟨rfl,r1a,k1⟩:=hp
  have E:Hid (Sp.runOf xs ins fuel=(r1.vis,s)):=ER
  have K:Hid (RKeep w.heap.size (w.heap.size + 2) wn w1):=k1
  obtain ⟨vv,q0,q1,ho,hlen,av',nv',cv',rfl⟩:=trace_of r1a
  have hres:=K.out.cell HN1.out (by omega) (by decide)
  have m0:=cell_of hres 0 (v:=.slice none 0 0) rfl
  have m1:=cell_of hres 1 (v:=.int .i64 0) rfl
  have fm0:=frozen_of hres 0
  have fm1:=frozen_of hres 1
  have hfin:=trace_stored (stop:=s) (r:=r1) (S:=w.heap.size + 1) (by omega) hres ho
  have HF:Hid (_∧_):=hfin
  clear hfin hres ho k1 r1a ER
  go_wp2_with fail
  exact bodyPost_ret (v:=.agg #[.slice av' nv' cv',.int .i64 s]) (by simp [results,Tryz.results43,go_sem,HF.out.1,HF.out.2.1]) rfl ⟨_,rfl,⟨_,by rw [E.out],by rw [E.out]; exact HF.out.2.2.1,by rw [E.out]; exact hlen⟩,(kb.trans K.out.below).trans HF.out.2.2.2⟩
end Go.Proofs.YtiopfihjmkfdmaaGreatDoor
namespace Go.Proofs.YtiopfihjmkfdmaaGreatDoor
open Go.RowKit
set_option maxRecDepth 100000
set_option maxHeartbeats 2000000
def ErrAt2 (w:World) (B:Nat) (v:Value) (er:Nat × Nat):Prop:=ErrAt w B v er∨(v=.iface 26 (.int .i64 4)∧er=(4,0))
theorem Tell_err2 (v:Value) (er:Nat × Nat) (B:Nat) (w:World) (hg:ErrT w) (hlt:11≤w.heap.size) (hv:ErrAt2 w B v er) :
  Calls Tryz.prog 16 #[v] w fun e w'=>e=.returned (.tuple #[.int .i64 er.1,.int .i64 er.2])∧Below w.heap.size w w':=by
 rcases hv with h | ⟨rfl,rfl⟩
 ·exact Tell_err v er B w hg hlt h
 ·exact Tell_errno 4 w hg hlt
def RunPost (w:World):Except (Nat × Nat) (List (Int × List Int) × Int)→Ending→World→Prop
 | .ok t,e,w'=>∃ v,e=.returned (.tuple #[v,.nilIface])∧TraceAt w.heap.size w' v t∧Below w.heap.size w w'
 | .error er,e,w'=>∃ v,e=.returned (.tuple #[.agg #[.slice none 0 0,.int .i64 0],v])∧ErrAt2 w' w.heap.size v er∧Below w.heap.size w w'
theorem ErrAt.weaken {w:World} {B B':Nat} {v:Value} {er:Nat × Nat} (h:ErrAt w B v er) (hB:B'≤B):ErrAt w B' v er:=by
 rcases h with h | ⟨N,h1,h2,h3⟩
 ·exact .inl h
 ·exact .inr ⟨N,Nat.le_trans hB h1,h2,h3⟩
theorem ErrAt.set {w:World} {B S i:Nat} {v u:Value} {er:Nat × Nat} (h:ErrAt w B v er) (hS:S<B):ErrAt (w.setCell ⟨S,i,none⟩ u) B v er:=by
 rcases h with h | ⟨N,h1,h2,h3⟩
 ·exact .inl h
 ·exact .inr ⟨N,h1,h2,by rw [Below.heap_setCell _ _ _ _ (by show N ≠ S; omega)]; exact h3⟩
theorem ownsRow9_weaken {base base' n:Nat} {e:TypeId} {sz:Nat} {w:World} {v:Value} {vs:List Value} (h:w.ownsRow base e sz v n vs) (hb:base'≤base):w.ownsRow base' e sz v n vs:=by
 obtain ⟨h1,h2⟩:=h
 refine ⟨h1,?_⟩
 rcases h2 with h2 | ⟨g,cap,cur,rfl,hg,r⟩
 ·exact .inl h2
 ·exact .inr ⟨g,cap,cur,rfl,Nat.le_trans hb hg,r⟩
theorem within_yes (n g:Int) (w:World) (h:0≤n) (h':n≤g):Calls Tryz.prog 42 #[.int .i64 n,.int .i64 g] w fun e w'=>e=.returned (.bool true)∧w'=w:=by
 go_enter Tryz.func42,Tryz.ntmps42
 go_wp2_with fail
 go_ret
 exact ⟨rfl,rfl⟩
theorem within_low (n g:Int) (w:World) (h:¬ 0≤n):Calls Tryz.prog 42 #[.int .i64 n,.int .i64 g] w fun e w'=>e=.returned (.bool false)∧w'=w:=by
 go_enter Tryz.func42,Tryz.ntmps42
 go_wp2_with fail
 go_ret
 exact ⟨rfl,rfl⟩
theorem within_high (n g:Int) (w:World) (h:0≤n) (h':¬ n≤g):Calls Tryz.prog 42 #[.int .i64 n,.int .i64 g] w fun e w'=>e=.returned (.bool false)∧w'=w:=by
 go_enter Tryz.func42,Tryz.ntmps42
 go_wp2_with fail
 go_ret
 exact ⟨rfl,rfl⟩
theorem within_no (n g:Int) (w:World) (h:n<0∨g<n):Calls Tryz.prog 42 #[.int .i64 n,.int .i64 g] w fun e w'=>e=.returned (.bool false)∧w'=w:=by
 by_cases h0:0≤n
 ·exact within_high n g w h0 (by omega)
 ·exact within_low n g w h0
theorem Run_calls (s:ByteArray) (iv:Value) (ins:List Int) (fuel:Int) (w:World) (hs:s.size≤1048576) (hL:Laid w) (hin:InAt w.heap.size w iv ins) (hiv:∃ a n c,iv=.slice a n c) :
  Calls Tryz.prog 23 #[.string s,iv,.int .i64 fuel] w (RunPost w (Sp.run s.data.toList ins fuel)):=by
 have bz:=below_alloc1 w (.cells #[.slice none 0 0,.int .i64 0] 41)
 have hn:=heap_alloc_new w (.cells #[.slice none 0 0,.int .i64 0] 41)
 have hc:=Program_calls RtRn s (w.alloc (.cells #[.slice none 0 0,.int .i64 0] 41)) hs (hL.below bz hL.size)
 have hsz:(w.alloc (.cells #[.slice none 0 0,.int .i64 0] 41)).heap.size=w.heap.size + 1:=by simp
 have HN:Hid (_=_):=hn
 clear hn
 obtain ⟨ia,i_n,ic,rfl⟩:=hiv
 cases hr:Sp.parse Sp.Rn s.data.toList with
 | error er =>
  have E:Hid (Sp.run s.data.toList ins fuel=.error er):=by unfold Hid Sp.run; rw [hr]
  rw [hr] at hc
  go_enter Tryz.func23,Tryz.ntmps23
  go_wp2_with fail
  generalize w.alloc (.cells #[.slice none 0 0,.int .i64 0] 41)=wz at *
  refine hc.mono ?_
  rintro e w1 ⟨v,rfl,hv,b1⟩
  obtain ⟨tv,uv,rfl⟩:=err_iface hv
  have hn1:(w1.alloc (.cells #[.slice none 0 0,.int .i64 0,.int .i64 0,.slice none 0 0] 86)).heap[w.heap.size]?=some (.cells #[.slice none 0 0,.int .i64 0] 41):=heap_alloc_old (by rw [b1.block _ (by omega)]; exact HN.out)
  have c0:=cell_of hn1 0 (v:=.slice none 0 0) rfl
  have c1:=cell_of hn1 1 (v:=.int .i64 0) rfl
  have f0:=frozen_of hn1 0
  have f1:=frozen_of hn1 1
  have h2:=heap_setCell_at (heap_setCell_at hn1 0 (.slice none 0 0)) 1 (.int .i64 0)
  have Q0:Hid (_=_):=cell_of h2 0 (v:=.slice none 0 0) rfl
  have Q1:Hid (_=_):=cell_of h2 1 (v:=.int .i64 0) rfl
  have HV:Hid (ErrAt2 (((w1.alloc (.cells #[.slice none 0 0,.int .i64 0,.int .i64 0,.slice none 0 0] 86)).setCell ⟨w.heap.size,0,none⟩ (.slice none 0 0)).setCell ⟨w.heap.size,1,none⟩ (.int .i64 0)) w.heap.size (.iface tv uv) er) :=
   .inl ((((hv.laid _).set (by omega)).set (by omega)).weaken (by omega))
  have B:Hid (Below w.heap.size w (((w1.alloc (.cells #[.slice none 0 0,.int .i64 0,.int .i64 0,.slice none 0 0] 86)).setCell ⟨w.heap.size,0,none⟩ (.slice none 0 0)).setCell ⟨w.heap.size,1,none⟩ (.int .i64 0))) :=
   (((bz.trans (b1.mono (by omega))).alloc (by have:=b1.size; omega) _).setCell (p:=⟨w.heap.size,0,none⟩) (Nat.le_refl _) _).setCell (p:=⟨w.heap.size,1,none⟩) (Nat.le_refl _) _
  clear hv hc hn1 h2
  go_wp2_with fail
  exact bodyPost_ret (v:=.tuple #[.agg #[.slice none 0 0,.int .i64 0],.iface tv uv]) (by simp [results,Tryz.results23,go_sem,Q0.out,Q1.out]) rfl (by rw [E.out]; exact ⟨_,rfl,HV.out,B.out⟩)
 | ok xs =>
  rw [hr] at hc
  by_cases hfu:fuel<0∨500<fuel
  ·have E:Hid (Sp.run s.data.toList ins fuel=.error (4,0)):=by unfold Hid Sp.run; rw [hr]; simp only; rw [if_pos hfu]
   have HFU:Hid (fuel<0∨500<fuel):=hfu
   all_goals
    clear hfu
    go_enter Tryz.func23,Tryz.ntmps23
    go_wp2_with fail
    generalize w.alloc (.cells #[.slice none 0 0,.int .i64 0] 41)=wz at *
    refine hc.mono ?_
    rintro e w1 ⟨v,ct1,nvv,ns1,rfl,hv,b1,hrow,hnums⟩
    obtain ⟨av,nv,cv,rfl⟩:=blk_slice hv
    obtain ⟨ax,nx,cx,rfl⟩:=row_slice0 hrow
    clear hrow hnums
    have hn1:(w1.alloc (.cells #[.slice av nv cv,.int .i64 ct1.1,.int .i64 ct1.2,.slice ax nx cx] 86)).heap[w.heap.size]?=some (.cells #[.slice none 0 0,.int .i64 0] 41):=heap_alloc_old (by rw [b1.block _ (by omega)]; exact HN.out)
    have c0:=cell_of hn1 0 (v:=.slice none 0 0) rfl
    have c1:=cell_of hn1 1 (v:=.int .i64 0) rfl
    have f0:=frozen_of hn1 0
    have f1:=frozen_of hn1 1
    have h2:=heap_setCell_at (heap_setCell_at hn1 0 (.slice none 0 0)) 1 (.int .i64 0)
    have Q0:Hid (_=_):=cell_of h2 0 (v:=.slice none 0 0) rfl
    have Q1:Hid (_=_):=cell_of h2 1 (v:=.int .i64 0) rfl
    have B:Hid (Below w.heap.size w (((w1.alloc (.cells #[.slice av nv cv,.int .i64 ct1.1,.int .i64 ct1.2,.slice ax nx cx] 86)).setCell ⟨w.heap.size,0,none⟩ (.slice none 0 0)).setCell ⟨w.heap.size,1,none⟩ (.int .i64 0))) :=
     (((bz.trans (b1.mono (by omega))).alloc (by have:=b1.size; omega) _).setCell (p:=⟨w.heap.size,0,none⟩) (Nat.le_refl _) _).setCell (p:=⟨w.heap.size,1,none⟩) (Nat.le_refl _) _
    clear hv hc hn1 h2
    go_wp2_with fail
    refine (within_no fuel 500 _ HFU.out).mono ?_
    rintro e w2 ⟨rfl,rfl⟩
    go_wp2_with fail
    exact bodyPost_ret (v:=.tuple #[.agg #[.slice none 0 0,.int .i64 0],.iface 26 (.int .i64 4)]) (by simp [results,Tryz.results23,go_sem,Q0.out,Q1.out]) rfl (by rw [E.out]; exact ⟨_,rfl,.inr ⟨rfl,rfl⟩,B.out⟩)
  ·obtain ⟨fn,rfl⟩:∃ fn:Nat,fuel=fn:=⟨fuel.toNat,by omega⟩
   have E0:Hid (Sp.run s.data.toList ins (fn:Int)=.ok (Sp.runOf xs ins fn)):=by unfold Hid Sp.run; rw [hr]; simp only; rw [if_neg hfu]; rfl
   have E:Hid (Sp.run s.data.toList ins (fn:Int)=.ok ((Sp.runOf xs ins fn).1,(Sp.runOf xs ins fn).2)):=E0.out
   have hd1:¬ ((fn:Int)<0):=by omega
   have hd2:¬ ((500:Int)<(fn:Int)):=by omega
   go_enter Tryz.func23,Tryz.ntmps23
   go_wp2_with fail
   generalize w.alloc (.cells #[.slice none 0 0,.int .i64 0] 41)=wz at *
   refine hc.mono ?_
   rintro e w1 ⟨v,ct1,nvv,ns1,rfl,hv,b1,hrow,hnums⟩
   obtain ⟨av,nv,cv,rfl⟩:=blk_slice hv
   obtain ⟨ax,nx,cx,rfl⟩:=row_slice0 hrow
   clear hrow hnums
   have b2:Below w.heap.size w (w1.alloc (.cells #[.slice av nv cv,.int .i64 ct1.1,.int .i64 ct1.2,.slice ax nx cx] 86)):=(bz.trans (b1.mono (by omega))).alloc (by have:=b1.size; omega) _
   have hn1:(w1.alloc (.cells #[.slice av nv cv,.int .i64 ct1.1,.int .i64 ct1.2,.slice ax nx cx] 86)).heap[w.heap.size]?=some (.cells #[.slice none 0 0,.int .i64 0] 41):=heap_alloc_old (by rw [b1.block _ (by omega)]; exact HN.out)
   have hin2:InAt (w1.alloc (.cells #[.slice av nv cv,.int .i64 ct1.1,.int .i64 ct1.2,.slice ax nx cx] 86)).heap.size (w1.alloc (.cells #[.slice av nv cv,.int .i64 ct1.1,.int .i64 ct1.2,.slice ax nx cx] 86)) (.slice ia i_n ic) ins:=by
    rcases hin.below b2 with h | ⟨g,off,cap,h1,h2,h3⟩
    ·exact .inl h
    ·exact .inr ⟨g,off,cap,h1,Nat.lt_of_lt_of_le h2 b2.size,h3⟩
   have hrun:=runner_calls av nv cv ct1.2 ax nx cx xs hv (w1.alloc (.cells #[.slice av nv cv,.int .i64 ct1.1,.int .i64 ct1.2,.slice ax nx cx] 86)) (.slice ia i_n ic) ins fn (by omega) (fun k _ h2 _=>Below.heap_alloc _ _ _ h2) (by simp) hin2 ⟨_,_,_,rfl⟩
   have HN1:Hid (_=_):=hn1
   clear hv hc hin2 hn1
   go_wp2_with fail
   refine (within_yes (fn:Int) 500 _ (by omega) (by omega)).mono ?_
   rintro e wq ⟨rfl,rfl⟩
   go_wp2_with fail
   generalize w1.alloc (.cells #[.slice av nv cv,.int .i64 ct1.1,.int .i64 ct1.2,.slice ax nx cx] 86)=w2 at *
   refine hrun.mono ?_
   rintro e w3 ⟨v,rfl,⟨vv,rfl,ho,hlen⟩,b3⟩
   have ho':w3.ownsRow w.heap.size 80 9 vv (Sp.runOf xs ins fn).1.length (visCells (Sp.runOf xs ins fn).1):=ownsRow9_weaken ho b2.size
   have hn3:w3.heap[w.heap.size]?=some (.cells #[.slice none 0 0,.int .i64 0] 41):=by rw [b3.block _ (heap_lt HN1.out)]; exact HN1.out
   have c0:=cell_of hn3 0 (v:=.slice none 0 0) rfl
   have c1:=cell_of hn3 1 (v:=.int .i64 0) rfl
   have f0:=frozen_of hn3 0
   have f1:=frozen_of hn3 1
   have hfin:=trace_stored (stop:=(Sp.runOf xs ins fn).2) (r:={ vis:=(Sp.runOf xs ins fn).1,st:=[],ins:=[],fuel:=0 }) (S:=w.heap.size) (Nat.le_refl _) hn3 ho'
   have HF:Hid (_∧_):=hfin
   obtain ⟨a3,n3,d3,rfl⟩:∃ a n c,vv=.slice a n c:=by
    rcases ho.2 with ⟨rfl,_⟩ | ⟨g,cap,cur,rfl,_⟩
    ·exact ⟨_,_,_,rfl⟩
    ·exact ⟨_,_,_,rfl⟩
   have B:Hid (Below w.heap.size w w3):=b2.trans (b3.mono b2.size)
   clear hfin ho ho' hn3 b3 hrun
   generalize (Sp.runOf xs ins fn).2=stop at *
   generalize (Sp.runOf xs ins fn).1=vis at *
   go_wp2_with fail
   exact bodyPost_ret (v:=.tuple #[.agg #[.slice a3 n3 d3,.int .i64 stop],.nilIface]) (by simp [results,Tryz.results23,go_sem,HF.out.1,HF.out.2.1]) rfl (by rw [E.out]; exact ⟨_,rfl,⟨_,rfl,HF.out.2.2.1,hlen⟩,B.out.trans HF.out.2.2.2⟩)
end Go.Proofs.YtiopfihjmkfdmaaGreatDoor
