import Derived.Test.YtiopfihjmkfdmaaGreatDoorX3
import Derived.Maps.AppendAt
import Derived.OwnWalk
namespace Go.Proofs.YtiopfihjmkfdmaaGreatDoor
open Go.RowKit
set_option maxRecDepth 100000
set_option maxHeartbeats 400000
def rnCells (vv:Value) (stop:Int) (st:List Int) (iv:Value) (fuel:Nat):Array Value :=
 #[vv,.int .i64 stop,.int .i16 (st.getD 0 0),.int .i16 (st.getD 1 0),.int .i16 (st.getD 2 0),.int .i16 (st.getD 3 0),.int .i16 (st.getD 4 0),.int .i16 (st.getD 5 0),.int .i16 (st.getD 6 0),.int .i16 (st.getD 7 0),iv,.int .i64 (fuel:Int)]
def visCell (x:Int × List Int):List Value:=[.int .i64 x.1,.int .i16 (x.2.getD 0 0),.int .i16 (x.2.getD 1 0),.int .i16 (x.2.getD 2 0),.int .i16 (x.2.getD 3 0),.int .i16 (x.2.getD 4 0),.int .i16 (x.2.getD 5 0),.int .i16 (x.2.getD 6 0),.int .i16 (x.2.getD 7 0)]
def visCells (vis:List (Int × List Int)):List Value:=(vis.map visCell).flatten
def InAt (base:Nat) (w:World) (v:Value) (l:List Int):Prop :=
 (∃ a c,v=.slice a 0 c∧l=[])∨∃ g off cap,v=.slice (some ⟨g,off,none⟩) l.length cap∧g<base∧l.length≤cap∧∀ i n,l[i]?=some n→w.cell? ⟨g,off + i,none⟩=some (.int .i16 n)
def RunAt (base b:Nat) (stop:Int) (r:Sp.Rst) (w:World):Prop :=
 ∃ vv iv,w.heap[b]?=some (.cells (rnCells vv stop r.st iv r.fuel) 181)∧w.ownsRow base 80 9 vv r.vis.length (visCells r.vis)∧InAt base w iv r.ins∧base≤b∧r.st.length=8∧r.vis.length + r.fuel≤500
structure RKeep (base b:Nat) (w w':World):Prop where
 below:Below base w w'
 others:∀ k,k<w.heap.size→k ≠ b→(∀ c fz,w.heap[k]? ≠ some (.cells c 80 fz))→w'.heap[k]?=w.heap[k]?
theorem below_alloc1 (w:World) (o:Obj):Below w.heap.size w (w.alloc o):=(Below.refl _ _).alloc (Nat.le_refl _) o
theorem RKeep.refl (B b:Nat) (w:World):RKeep B b w w:=⟨Below.refl _ _,fun _ _ _ _=>rfl⟩
theorem RKeep.trans {B b:Nat} {w1 w2 w3:World} (h:RKeep B b w1 w2) (k:RKeep B b w2 w3):RKeep B b w1 w3 :=
 ⟨h.below.trans k.below,fun i hi hb hn=>by
  have e:=h.others i hi hb hn
  rw [k.others i (Nat.lt_of_lt_of_le hi h.below.size) hb (by rw [e]; exact hn),e]⟩
theorem RKeep.of_below {B b:Nat} {w w':World} (h:Below w.heap.size w w') (hB:B≤w.heap.size):RKeep B b w w' :=
 ⟨h.mono hB,fun k hk _ _=>h.block k hk⟩
theorem RKeep.alloc {B b:Nat} {w w':World} (h:RKeep B b w w') (hB:B≤w.heap.size) (o:Obj):RKeep B b w (w'.alloc o):=by
 have hs:=h.below.size
 exact ⟨h.below.alloc (by omega) o,fun k hk hb hn=>by rw [Below.heap_alloc _ _ _ (by omega)]; exact h.others k hk hb hn⟩
theorem RKeep.drew {B b:Nat} {w w':World} (h:RKeep B b w w'):RKeep B b w w'.drew:=⟨h.below.drew,h.others⟩
theorem RKeep.setB {B b:Nat} {w w':World} (h:RKeep B b w w') (hB:B≤b) (i:Nat) (u:Value):RKeep B b w (w'.setCell ⟨b,i,none⟩ u) :=
 ⟨h.below.setCell (p:=⟨b,i,none⟩) hB u,fun k hk hb hn=>by rw [Below.heap_setCell _ _ _ _ hb]; exact h.others k hk hb hn⟩
theorem RKeep.cell {B b:Nat} {w w':World} (h:RKeep B b w w') {k:Nat} {c:Array Value} {e:TypeId} {fz:Nat × Nat} (hk:w.heap[k]?=some (.cells c e fz)) (hb:k ≠ b) (he:e ≠ 80):w'.heap[k]?=some (.cells c e fz):=by
 rw [h.others k (heap_lt hk) hb (fun c' fz' e'=>by rw [hk] at e'; cases e'; exact he rfl)]; exact hk
theorem InAt.below {base:Nat} {w w':World} {v:Value} {l:List Int} (h:InAt base w v l) (hb:Below base w w'):InAt base w' v l:=by
 rcases h with h | ⟨g,off,cap,h1,h2,h3,h4⟩
 ·exact .inl h
 ·exact .inr ⟨g,off,cap,h1,h2,h3,fun i n hn=>by rw [hb.cell (p:=⟨g,off + i,none⟩) h2]; exact h4 i n hn⟩
theorem ownsRow9_keep {base n:Nat} {e:TypeId} {sz:Nat} {w w':World} {v:Value} {vs:List Value} (h:w.ownsRow base e sz v n vs) (hk:∀ g,v.ownBlock=some g→w'.heap[g]?=w.heap[g]?):w'.ownsRow base e sz v n vs:=by
 obtain ⟨h1,h2⟩:=h
 refine ⟨h1,?_⟩
 rcases h2 with h2 | ⟨g,cap,cur,rfl,hg,hh,r⟩
 ·exact .inl h2
 ·exact .inr ⟨g,cap,cur,rfl,hg,by rw [hk g rfl]; exact hh,r⟩
theorem ownsRow9_lt {base n:Nat} {e:TypeId} {sz:Nat} {w:World} {v:Value} {vs:List Value} (h:w.ownsRow base e sz v n vs):∀ g,v.ownBlock=some g→base≤g∧g<w.heap.size∧∃ c,w.heap[g]?=some (.cells c e):=by
 intro g hg
 rcases h.2 with ⟨rfl,_⟩ | ⟨g',cap,cur,rfl,hb,hh,_⟩
 ·simp [Value.ownBlock] at hg
 ·simp [Value.ownBlock] at hg
  subst hg
  exact ⟨hb,heap_lt hh,cur,hh⟩
theorem RunAt.lt {base b:Nat} {stop:Int} {r:Sp.Rst} {w:World} (h:RunAt base b stop r w):b<w.heap.size:=by
 obtain ⟨vv,iv,h1,_⟩:=h; exact heap_lt h1
theorem RunAt.ge {base b:Nat} {stop:Int} {r:Sp.Rst} {w:World} (h:RunAt base b stop r w):base≤b:=by
 obtain ⟨vv,iv,_,_,_,h4,_⟩:=h; exact h4
theorem RunAt.le {base b:Nat} {stop:Int} {r:Sp.Rst} {w:World} (h:RunAt base b stop r w):base≤w.heap.size:=by
 have:=h.lt; have:=h.ge; omega
theorem RunAt.below {base b:Nat} {stop:Int} {r:Sp.Rst} {w w':World} (h:RunAt base b stop r w) (hb:Below w.heap.size w w'):RunAt base b stop r w':=by
 have hle:=h.le
 obtain ⟨vv,iv,h1,h2,h3,h4,h5⟩:=h
 refine ⟨vv,iv,by rw [hb.block b (heap_lt h1)]; exact h1,ownsRow9_keep h2 (fun g hg=>hb.block g (ownsRow9_lt h2 g hg).2.1),h3.below (hb.mono hle),h4,h5⟩
theorem rn_stop {w:World} {b:Nat} {vv iv:Value} {stop:Int} {st:List Int} {fuel:Nat} (h:w.heap[b]?=some (.cells (rnCells vv stop st iv fuel) 181)) (s:Int):(w.setCell ⟨b,1,none⟩ (.int .i64 s)).heap[b]?=some (.cells (rnCells vv s st iv fuel) 181):=by
 rw [heap_setCell_at h 1 (.int .i64 s)]; rfl
theorem RunAt.row_ne {base b:Nat} {w:World} {vv iv:Value} {stop:Int} {st:List Int} {fuel n:Nat} {vs:List Value} (h:w.heap[b]?=some (.cells (rnCells vv stop st iv fuel) 181)) (ho:w.ownsRow base 80 9 vv n vs):∀ g,vv.ownBlock=some g→g ≠ b:=by
 intro g hg e
 obtain ⟨_,_,c,hc⟩:=ownsRow9_lt ho g hg
 rw [e,h] at hc
 cases hc
theorem RunAt.stopped {base b:Nat} {stop:Int} {r:Sp.Rst} {w:World} (h:RunAt base b stop r w) (s:Int):RunAt base b s r (w.setCell ⟨b,1,none⟩ (.int .i64 s))∧RKeep base b w (w.setCell ⟨b,1,none⟩ (.int .i64 s)):=by
 obtain ⟨vv,iv,h1,h2,h3,h4,h5⟩:=h
 have k:=(RKeep.refl base b w).setB h4 1 (.int .i64 s)
 refine ⟨⟨vv,iv,rn_stop h1 s,ownsRow9_keep h2 (fun g hg=>Below.heap_setCell _ _ _ _ (RunAt.row_ne h1 h2 g hg)),h3.below k.below,h4,h5⟩,k⟩
def OutPost (base b:Nat) (w:World):Sp.Out→Ending→World→Prop
 | (r',none),e,w'=>e=.returned (.bool true)∧RunAt base b 0 r' w'∧RKeep base b w w'
 | (r',some s),e,w'=>e=.returned (.bool false)∧RunAt base b s r' w'∧RKeep base b w w'
def EvPost (base b:Nat) (r:Sp.Rst) (w:World):Except Int Int→Ending→World→Prop
 | .ok n,e,w'=>e=.returned (.tuple #[.int .i16 n,.bool true])∧RunAt base b 0 r w'∧RKeep base b w w'
 | .error s,e,w'=>∃ m,e=.returned (.tuple #[.int .i16 m,.bool false])∧RunAt base b s r w'∧RKeep base b w w'
def SumRuns (v:Value) (f:Sp.Ev):Prop :=
 ∀ (base b:Nat) (r:Sp.Rst) (w:World),RunAt base b 0 r w→Calls Tryz.prog 177 #[.pointer (some ⟨b,0,none⟩),v] w (EvPost base b r w (f r.st))
theorem stopAt_calls {base b:Nat} {stop:Int} {r:Sp.Rst} {w:World} (h:RunAt base b stop r w) (s:Int) :
  Calls Tryz.prog 179 #[.pointer (some ⟨b,0,none⟩),.int .i64 s] w fun e w'=>e=.returned (.bool false)∧RunAt base b s r w'∧RKeep base b w w':=by
 obtain ⟨h1,k1⟩:=h.stopped s
 obtain ⟨vv,iv,hb,_⟩:=h
 have c1:=cell_of hb 1 (v:=.int .i64 stop) rfl
 have f1:=frozen_of hb 1
 have H:Hid (RunAt base b s r (w.setCell ⟨b,1,none⟩ (.int .i64 s))∧RKeep base b w (w.setCell ⟨b,1,none⟩ (.int .i64 s))):=⟨h1,k1⟩
 clear h1 k1 hb
 go_enter Tryz.func179,Tryz.ntmps179
 go_wp2_with fail
 go_ret
 exact ⟨rfl,H.out⟩
end Go.Proofs.YtiopfihjmkfdmaaGreatDoor
namespace Go.Proofs.YtiopfihjmkfdmaaGreatDoor
open Go.RowKit
set_option maxRecDepth 100000
set_option maxHeartbeats 1000000
def workVal (k:Nat) (x y:Int):Int:=(Sp.work k x y).getD 0
theorem work_calls (k:Nat) (hk:k<5) (x y:Int) (w:World) :
  Calls Tryz.prog 239 #[.int .i64 k,.int .i16 x,.int .i16 y] w fun e w'=>e=.returned (.tuple #[.int .i16 (workVal k x y),.bool (Sp.work k x y).isSome])∧w'=w:=by
 rcases (show k=0∨k=1∨k=2∨k=3∨k=4 from by omega) with rfl | rfl | rfl | rfl | rfl
 ·go_enter Tryz.func239,Tryz.ntmps239
  go_wp2_with fail
  go_ret2
  exact ⟨rfl,rfl⟩
 ·go_enter Tryz.func239,Tryz.ntmps239
  go_wp2_with fail
  go_ret2
  exact ⟨rfl,rfl⟩
 ·go_enter Tryz.func239,Tryz.ntmps239
  go_wp2_with fail
  go_ret2
  exact ⟨rfl,rfl⟩
 ·by_cases hy:y=0
  ·subst hy
   go_enter Tryz.func239,Tryz.ntmps239
   go_wp2_with fail
   go_ret2
   exact ⟨rfl,rfl⟩
  ·have e:Hid (Sp.work 3 x y=some (Sp.w16 (x.tdiv y))):=by unfold Hid Sp.work; simp [hy]
   go_enter Tryz.func239,Tryz.ntmps239
   go_wp2_with fail
   go_ret2
   refine ⟨?_,rfl⟩
   unfold workVal
   rw [e.out]
   rfl
 ·by_cases hy:y=0
  ·subst hy
   go_enter Tryz.func239,Tryz.ntmps239
   go_wp2_with fail
   go_ret2
   exact ⟨rfl,rfl⟩
  ·have e:Hid (Sp.work 4 x y=some (x.tmod y)):=by unfold Hid Sp.work; simp [hy]
   go_enter Tryz.func239,Tryz.ntmps239
   go_wp2_with fail
   go_ret2
   refine ⟨?_,rfl⟩
   unfold workVal
   rw [e.out]
   rfl
theorem holds_calls (k:Nat) (hk:k<6) (x y:Int) (w:World) :
  Calls Tryz.prog 213 #[.int .i64 k,.int .i16 x,.int .i16 y] w fun e w'=>e=.returned (.bool (Sp.holds k x y))∧w'=w:=by
 rcases (show k=0∨k=1∨k=2∨k=3∨k=4∨k=5 from by omega) with rfl | rfl | rfl | rfl | rfl | rfl
 all_goals
  go_enter Tryz.func213,Tryz.ntmps213
  go_wp2_with fail
  go_ret
  exact ⟨rfl,rfl⟩
theorem num_runs (n:Nat):SumRuns (.iface 226 (.int .i16 n)) (fun _=>.ok (n:Int)):=by
 intro base b r w h
 have h1:=ta_num_num (.int .i16 n)
 go_enter Tryz.func177,Tryz.ntmps177
 go_wp2_with fail
 go_ret2
 exact ⟨rfl,h,RKeep.refl _ _ _⟩
theorem store_cell {w:World} {b:Nat} {vv iv:Value} {stop:Int} {st:List Int} {fuel:Nat} (h:w.heap[b]?=some (.cells (rnCells vv stop st iv fuel) 181)) (k:Nat) (hk:k<8):w.cell? ⟨b,2 + k,none⟩=some (.int .i16 (st.getD k 0)):=by
 refine cell_of h _ ?_
 rcases (show k=0∨k=1∨k=2∨k=3∨k=4∨k=5∨k=6∨k=7 from by omega) with rfl | rfl | rfl | rfl | rfl | rfl | rfl | rfl
 all_goals rfl
theorem name_runs (k:Nat) (hk:k<8):SumRuns (.iface 275 (.int .i64 k)) (fun s=>.ok (s.getD k 0)):=by
 intro base b r w h
 have hh:=h
 obtain ⟨vv,iv,hb,_⟩:=hh
 have h1:=ta_name_num (.int .i64 k)
 have h2:=ta_name_name (.int .i64 k)
 have c:=store_cell hb k hk
 have hk':(k:Int)<8:=by omega
 show Calls Tryz.prog 177 #[.pointer (some ⟨b,0,none⟩),.iface 275 (.int .i64 k)] w (EvPost base b r w (.ok (r.st.getD k 0)))
 generalize r.st.getD k 0=x at c ⊢
 have H:Hid (RunAt base b 0 r w):=h
 clear hb h
 go_enter Tryz.func177,Tryz.ntmps177
 go_wp2_with fail
 go_ret2
 exact ⟨rfl,H.out,RKeep.refl _ _ _⟩
theorem neg_runs (tv:TypeId) (uv:Value) (f:Sp.Ev) (hs:SumRuns (.iface tv uv) f):SumRuns (.iface 330 (.agg #[.iface tv uv])) (Sp.evNeg f):=by
 intro base b r w h
 have h1:=ta_neg_num (.agg #[.iface tv uv])
 have h2:=ta_neg_name (.agg #[.iface tv uv])
 have h3:=ta_neg_neg (.agg #[.iface tv uv])
 have hw:=h.below (below_alloc1 w (.cells #[.iface tv uv] 330))
 have hc:=hs base b r _ hw
 have kw:=RKeep.of_below (b:=b) (below_alloc1 w (.cells #[.iface tv uv] 330)) h.le
 cases hf:f r.st with
 | ok n =>
  rw [hf] at hc
  have e:Hid (Sp.evNeg f r.st=.ok (Sp.w16 (-n))):=by unfold Hid Sp.evNeg; rw [hf]
  go_enter Tryz.func177,Tryz.ntmps177
  go_wp2_with fail
  refine hc.mono ?_
  rintro e w1 ⟨rfl,r1,k1⟩
  go_wp2_with fail
  go_ret2
  rw [e.out]
  exact ⟨rfl,r1,kw.trans k1⟩
 | error s =>
  rw [hf] at hc
  have e:Hid (Sp.evNeg f r.st=.error s):=by unfold Hid Sp.evNeg; rw [hf]
  go_enter Tryz.func177,Tryz.ntmps177
  go_wp2_with fail
  refine hc.mono ?_
  rintro e w1 ⟨m,rfl,r1,k1⟩
  go_wp2_with fail
  go_ret2
  rw [e.out]
  exact ⟨_,rfl,r1,kw.trans k1⟩
end Go.Proofs.YtiopfihjmkfdmaaGreatDoor
namespace Go.Proofs.YtiopfihjmkfdmaaGreatDoor
open Go.RowKit
set_option maxRecDepth 100000
set_option maxHeartbeats 2000000
def evSides (f g:Sp.Ev) (s:List Int):Except Int (Int × Int):=match f s with
 | .error e=>.error e
 | .ok x=>(match g s with
  | .error e=>.error e
  | .ok y=>.ok (x,y))
def SidesPost (base b:Nat) (r:Sp.Rst) (w:World):Except Int (Int × Int)→Ending→World→Prop
 | .ok (x,y),e,w'=>e=.returned (.tuple #[.int .i16 x,.int .i16 y,.bool true])∧RunAt base b 0 r w'∧RKeep base b w w'
 | .error s,e,w'=>∃ m n,e=.returned (.tuple #[.int .i16 m,.int .i16 n,.bool false])∧RunAt base b s r w'∧RKeep base b w w'
theorem sides_calls (tl:TypeId) (ul:Value) (tr:TypeId) (ur:Value) (f g:Sp.Ev) (hf:SumRuns (.iface tl ul) f) (hg:SumRuns (.iface tr ur) g) (base b:Nat) (r:Sp.Rst) (w:World) (h:RunAt base b 0 r w) :
  Calls Tryz.prog 212 #[.pointer (some ⟨b,0,none⟩),.iface tl ul,.iface tr ur] w (SidesPost base b r w (evSides f g r.st)):=by
 have h1:=hf base b r w h
 cases ef:f r.st with
 | error s =>
  rw [ef] at h1
  have e:Hid (evSides f g r.st=.error s):=by unfold Hid evSides; rw [ef]
  go_enter Tryz.func212,Tryz.ntmps212
  go_wp2_with fail
  refine h1.mono ?_
  rintro e' w1 ⟨m,rfl,r1,k1⟩
  go_wp2_with fail
  go_ret3
  rw [e.out]
  exact ⟨m,0,rfl,r1,k1⟩
 | ok x =>
  rw [ef] at h1
  cases eg:g r.st with
  | error s =>
   have e:Hid (evSides f g r.st=.error s):=by unfold Hid evSides; rw [ef]; simp only; rw [eg]
   go_enter Tryz.func212,Tryz.ntmps212
   go_wp2_with fail
   refine h1.mono ?_
   rintro e' w1 ⟨rfl,r1,k1⟩
   have h2:=hg base b r w1 r1
   rw [eg] at h2
   go_wp2_with fail
   refine h2.mono ?_
   rintro e' w2 ⟨m,rfl,r2,k2⟩
   go_wp2_with fail
   go_ret3
   rw [e.out]
   exact ⟨x,m,rfl,r2,k1.trans k2⟩
  | ok y =>
   have e:Hid (evSides f g r.st=.ok (x,y)):=by unfold Hid evSides; rw [ef]; simp only; rw [eg]
   go_enter Tryz.func212,Tryz.ntmps212
   go_wp2_with fail
   refine h1.mono ?_
   rintro e' w1 ⟨rfl,r1,k1⟩
   have h2:=hg base b r w1 r1
   rw [eg] at h2
   go_wp2_with fail
   refine h2.mono ?_
   rintro e' w2 ⟨rfl,r2,k2⟩
   go_wp2_with fail
   go_ret3
   rw [e.out]
   exact ⟨rfl,r2,k1.trans k2⟩
theorem evBin_eq (k:Nat) (site:Int) (f g:Sp.Ev) (s:List Int):Sp.evBin k site f g s=match evSides f g s with
  | .error e=>.error e
  | .ok (x,y)=>(match Sp.work k x y with
   | some z=>.ok z
   | none=>.error site):=by
 unfold Sp.evBin evSides
 cases f s with
 | error e=>rfl
 | ok x=>cases g s <;> rfl
theorem evCond_eq (k:Nat) (f g:Sp.Ev) (s:List Int):Sp.evCond k f g s=match evSides f g s with
  | .error e=>.error e
  | .ok (x,y)=>.ok (Sp.holds k x y):=by
 unfold Sp.evCond evSides
 cases f s with
 | error e=>rfl
 | ok x=>cases g s <;> rfl
theorem binary_calls (k:Nat) (hk:k<5) (q:Int) (tl:TypeId) (ul:Value) (tr:TypeId) (ur:Value) (f g:Sp.Ev) (hf:SumRuns (.iface tl ul) f) (hg:SumRuns (.iface tr ur) g) (base b:Nat) (r:Sp.Rst) (w:World) (h:RunAt base b 0 r w) :
  Calls Tryz.prog 211 #[.pointer (some ⟨b,0,none⟩),.agg #[.int .i64 (k:Nat),.int .i64 q,.iface tl ul,.iface tr ur]] w (EvPost base b r w (Sp.evBin k q f g r.st)):=by
 have kw:=RKeep.of_below (b:=b) (below_alloc1 w (.cells #[.int .i64 (k:Nat),.int .i64 q,.iface tl ul,.iface tr ur] 334)) h.le
 have h1:=sides_calls tl ul tr ur f g hf hg base b r _ (h.below (below_alloc1 w (.cells #[.int .i64 (k:Nat),.int .i64 q,.iface tl ul,.iface tr ur] 334)))
 have hn:=heap_alloc_new w (.cells #[.int .i64 (k:Nat),.int .i64 q,.iface tl ul,.iface tr ur] 334)
 have hnb:w.heap.size ≠ b:=by have:=h.lt; omega
 cases es:evSides f g r.st with
 | error s =>
  rw [es] at h1
  have E:Hid (Sp.evBin k q f g r.st=.error s):=by unfold Hid; rw [evBin_eq,es]
  go_enter Tryz.func211,Tryz.ntmps211
  go_wp2_with fail
  refine h1.mono ?_
  rintro e' w1 ⟨m,n,rfl,r1,k1⟩
  go_wp2_with fail
  go_ret2
  rw [E.out]
  exact ⟨_,rfl,r1,kw.trans k1⟩
 | ok xy =>
  obtain ⟨x,y⟩:=xy
  rw [es] at h1
  have HN:Hid (_=_):=hn
  clear hn
  go_enter Tryz.func211,Tryz.ntmps211
  go_wp2_with fail
  refine h1.mono ?_
  rintro e' w1 ⟨rfl,r1,k1⟩
  have hn1:=k1.cell HN.out hnb (by decide)
  have c0:=cell_of hn1 0 (v:=.int .i64 (k:Nat)) rfl
  have c1:=cell_of hn1 1 (v:=.int .i64 q) rfl
  clear hn1
  go_wp2_with fail
  refine (work_calls k hk x y _).mono ?_
  rintro e' w2 ⟨rfl,rfl⟩
  cases ez:Sp.work k x y with
  | some z =>
   have ev:workVal k x y=z:=by unfold workVal; rw [ez]; rfl
   have E:Hid (Sp.evBin k q f g r.st=.ok z):=by unfold Hid; rw [evBin_eq,es]; simp only; rw [ez]
   rw [ev]
   go_wp2_with fail
   go_ret2
   rw [E.out]
   exact ⟨rfl,r1,kw.trans k1⟩
  | none =>
   have E:Hid (Sp.evBin k q f g r.st=.error q):=by unfold Hid; rw [evBin_eq,es]; simp only; rw [ez]
   go_wp2_with fail
   refine (stopAt_calls r1 q).mono ?_
   rintro e' w3 ⟨rfl,r3,k3⟩
   go_wp2_with fail
   go_ret2
   rw [E.out]
   exact ⟨_,rfl,r3,(kw.trans k1).trans k3⟩
theorem bin_runs (k:Nat) (hk:k<5) (q:Int) (tl:TypeId) (ul:Value) (tr:TypeId) (ur:Value) (f g:Sp.Ev) (hf:SumRuns (.iface tl ul) f) (hg:SumRuns (.iface tr ur) g) :
  SumRuns (.iface 334 (.agg #[.int .i64 (k:Nat),.int .i64 q,.iface tl ul,.iface tr ur])) (Sp.evBin k q f g):=by
 intro base b r w h
 have h1:=ta_bin_num (.agg #[.int .i64 (k:Nat),.int .i64 q,.iface tl ul,.iface tr ur])
 have h2:=ta_bin_name (.agg #[.int .i64 (k:Nat),.int .i64 q,.iface tl ul,.iface tr ur])
 have h3:=ta_bin_neg (.agg #[.int .i64 (k:Nat),.int .i64 q,.iface tl ul,.iface tr ur])
 have h4:=ta_bin_bin (.agg #[.int .i64 (k:Nat),.int .i64 q,.iface tl ul,.iface tr ur])
 have kw:=RKeep.of_below (b:=b) (below_alloc1 w (.cells #[.int .i64 (k:Nat),.int .i64 q,.iface tl ul,.iface tr ur] 334)) h.le
 have hc:=binary_calls k hk q tl ul tr ur f g hf hg base b r _ (h.below (below_alloc1 w (.cells #[.int .i64 (k:Nat),.int .i64 q,.iface tl ul,.iface tr ur] 334)))
 cases ef:Sp.evBin k q f g r.st with
 | ok n =>
  rw [ef] at hc
  go_enter Tryz.func177,Tryz.ntmps177
  go_wp2_with fail
  refine hc.mono ?_
  rintro e w1 ⟨rfl,r1,k1⟩
  go_wp2_with fail
  go_ret2
  exact ⟨rfl,r1,kw.trans k1⟩
 | error s =>
  rw [ef] at hc
  go_enter Tryz.func177,Tryz.ntmps177
  go_wp2_with fail
  refine hc.mono ?_
  rintro e w1 ⟨m,rfl,r1,k1⟩
  go_wp2_with fail
  go_ret2
  exact ⟨_,rfl,r1,kw.trans k1⟩
def CondPost (base b:Nat) (r:Sp.Rst) (w:World):Except Int Bool→Ending→World→Prop
 | .ok h,e,w'=>e=.returned (.tuple #[.bool h,.bool true])∧RunAt base b 0 r w'∧RKeep base b w w'
 | .error s,e,w'=>∃ h,e=.returned (.tuple #[.bool h,.bool false])∧RunAt base b s r w'∧RKeep base b w w'
theorem rcond_calls (k:Nat) (hk:k<6) (tl:TypeId) (ul:Value) (tr:TypeId) (ur:Value) (f g:Sp.Ev) (hf:SumRuns (.iface tl ul) f) (hg:SumRuns (.iface tr ur) g) (base b:Nat) (r:Sp.Rst) (w:World) (h:RunAt base b 0 r w) :
  Calls Tryz.prog 178 #[.pointer (some ⟨b,0,none⟩),.agg #[.int .i64 (k:Nat),.iface tl ul,.iface tr ur]] w (CondPost base b r w (Sp.evCond k f g r.st)):=by
 rw [evCond_eq]
 have kw:=RKeep.of_below (b:=b) (below_alloc1 w (.cells #[.int .i64 (k:Nat),.iface tl ul,.iface tr ur] 285)) h.le
 have h1:=sides_calls tl ul tr ur f g hf hg base b r _ (h.below (below_alloc1 w (.cells #[.int .i64 (k:Nat),.iface tl ul,.iface tr ur] 285)))
 have hn:=heap_alloc_new w (.cells #[.int .i64 (k:Nat),.iface tl ul,.iface tr ur] 285)
 have hnb:w.heap.size ≠ b:=by have:=h.lt; omega
 cases es:evSides f g r.st with
 | error s =>
  rw [es] at h1
  go_enter Tryz.func178,Tryz.ntmps178
  go_wp2_with fail
  refine h1.mono ?_
  rintro e' w1 ⟨m,n,rfl,r1,k1⟩
  go_wp2_with fail
  go_ret2
  exact ⟨_,rfl,r1,kw.trans k1⟩
 | ok xy =>
  obtain ⟨x,y⟩:=xy
  rw [es] at h1
  have HN:Hid (_=_):=hn
  clear hn
  go_enter Tryz.func178,Tryz.ntmps178
  go_wp2_with fail
  refine h1.mono ?_
  rintro e' w1 ⟨rfl,r1,k1⟩
  have hn1:=k1.cell HN.out hnb (by decide)
  have c0:=cell_of hn1 0 (v:=.int .i64 (k:Nat)) rfl
  clear hn1
  go_wp2_with fail
  refine (holds_calls k hk x y _).mono ?_
  rintro e' w2 ⟨rfl,rfl⟩
  go_wp2_with fail
  go_ret2
  exact ⟨rfl,r1,kw.trans k1⟩
end Go.Proofs.YtiopfihjmkfdmaaGreatDoor
