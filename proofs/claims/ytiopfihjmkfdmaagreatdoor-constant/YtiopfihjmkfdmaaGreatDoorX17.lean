import Derived.Test.YtiopfihjmkfdmaaGreatDoorX16
namespace Go.Proofs.YtiopfihjmkfdmaaGreatDoor
open Go.RowKit
set_option maxRecDepth 100000
set_option maxHeartbeats 2000000
theorem rn_in {w:World} {b:Nat} {vv iv:Value} {stop:Int} {st:List Int} {fuel:Nat} (h:w.heap[b]?=some (.cells (rnCells vv stop st iv fuel) 181)) (v:Value):(w.setCell ⟨b,10,none⟩ v).heap[b]?=some (.cells (rnCells vv stop st v fuel) 181):=by
 rw [heap_setCell_at h 10 v]; rfl
theorem rn_put {w:World} {b:Nat} {vv iv:Value} {stop:Int} {st:List Int} {fuel:Nat} (h:w.heap[b]?=some (.cells (rnCells vv stop st iv fuel) 181)) (hst:st.length=8) (k:Nat) (hk:k<8) (n:Int):(w.setCell ⟨b,2 + k,none⟩ (.int .i16 n)).heap[b]?=some (.cells (rnCells vv stop (st.set k n) iv fuel) 181):=by
 rw [heap_setCell_at h (2 + k) (.int .i16 n)]
 match st,hst with
 | [a0,a1,a2,a3,a4,a5,a6,a7],_ =>
  rcases (show k=0∨k=1∨k=2∨k=3∨k=4∨k=5∨k=6∨k=7 from by omega) with rfl | rfl | rfl | rfl | rfl | rfl | rfl | rfl
  all_goals rfl
theorem RunAt.put {base b:Nat} {stop:Int} {r:Sp.Rst} {w:World} (h:RunAt base b stop r w) (k:Nat) (hk:k<8) (n:Int) :
  RunAt base b stop (Sp.put k n r) (w.setCell ⟨b,2 + k,none⟩ (.int .i16 n))∧RKeep base b w (w.setCell ⟨b,2 + k,none⟩ (.int .i16 n)):=by
 obtain ⟨vv,iv,h1,h2,h3,h4,h5,h6⟩:=h
 have kk:=(RKeep.refl base b w).setB h4 (2 + k) (.int .i16 n)
 exact ⟨⟨vv,iv,rn_put h1 h5 k hk n,ownsRow9_keep h2 (fun g hg=>Below.heap_setCell _ _ _ _ (RunAt.row_ne h1 h2 g hg)),h3.below kk.below,h4,by simp [Sp.put,h5],h6⟩,kk⟩
theorem RunAt.storeCell {base b:Nat} {stop:Int} {r:Sp.Rst} {w:World} (h:RunAt base b stop r w) (k:Nat) (hk:k<8):(∃ x,w.cell? ⟨b,2 + k,none⟩=some (.int .i16 x))∧w.frozen? ⟨b,2 + k,none⟩=false:=by
 obtain ⟨vv,iv,h1,_⟩:=h
 exact ⟨⟨_,store_cell h1 k hk⟩,frozen_of h1 _⟩
def nextOf (r:Sp.Rst):Int × Sp.Rst:=match r.ins with
 | []=>(0,r)
 | n :: rest=>(n,{ r with ins:=rest })
theorem next_calls {base b:Nat} {stop:Int} {r:Sp.Rst} {w:World} (h:RunAt base b stop r w) :
  Calls Tryz.prog 137 #[.pointer (some ⟨b,0,none⟩)] w fun e w'=>e=.returned (.int .i16 (nextOf r).1)∧RunAt base b stop (nextOf r).2 w'∧RKeep base b w w':=by
 have hh:=h
 obtain ⟨vv,iv,h1,h2,h3,h4,h5,h6⟩:=h
 have c10:=cell_of h1 10 (v:=iv) rfl
 have f10:=frozen_of h1 10
 rcases h3 with ⟨a,c,rfl,hin⟩ | ⟨g,off,cap,rfl,hg,hcap,hcell⟩
 ·have e:Hid (nextOf r=(0,r)):=by unfold Hid nextOf; rw [hin]
  go_enter Tryz.func137,Tryz.ntmps137
  go_wp2_with fail
  go_ret
  rw [e.out]
  exact ⟨rfl,hh,RKeep.refl _ _ _⟩
 ·cases hr:r.ins with
  | nil =>
   have e:Hid (nextOf r=(0,r)):=by unfold Hid nextOf; rw [hr]
   rw [hr] at c10
   have c10':w.cell? ⟨b,10,none⟩=some (.slice (some ⟨g,off,none⟩) 0 cap):=c10
   clear c10
   go_enter Tryz.func137,Tryz.ntmps137
   go_wp2_with fail
   go_ret
   rw [e.out]
   exact ⟨rfl,hh,RKeep.refl _ _ _⟩
  | cons n rest =>
   have e:Hid (nextOf r=(n,{ r with ins:=rest })):=by unfold Hid nextOf; rw [hr]
   have hl:r.ins.length=rest.length + 1:=by rw [hr]; simp
   rw [hl] at c10 hcap
   have c0:w.cell? ⟨g,off,none⟩=some (.int .i16 n):=by
    have:=hcell 0 n (by rw [hr]; rfl)
    simpa using this
   by_cases hc1:cap=1
   ·subst hc1
    have hrn:rest=[]:=List.eq_nil_of_length_eq_zero (by omega)
    subst hrn
    have k:=(RKeep.refl base b w).setB h4 10 (.slice (some ⟨g,off,none⟩) 0 0)
    have HF:Hid (RunAt base b stop { r with ins:=[] } (w.setCell ⟨b,10,none⟩ (.slice (some ⟨g,off,none⟩) 0 0))∧RKeep base b w (w.setCell ⟨b,10,none⟩ (.slice (some ⟨g,off,none⟩) 0 0))) :=
     ⟨⟨vv,_,rn_in h1 _,ownsRow9_keep h2 (fun g hg=>Below.heap_setCell _ _ _ _ (RunAt.row_ne h1 h2 g hg)),.inl ⟨_,_,rfl,rfl⟩,h4,h5,h6⟩,k⟩
    have c10':w.cell? ⟨b,10,none⟩=some (.slice (some ⟨g,off,none⟩) 1 1):=c10
    clear hcell k hr hh h1 c10
    go_enter Tryz.func137,Tryz.ntmps137
    go_wp2_with fail
    go_ret
    rw [e.out]
    exact ⟨rfl,HF.out⟩
   ·have k:=(RKeep.refl base b w).setB h4 10 (.slice (some ⟨g,off + 1,none⟩) rest.length (cap - 1))
    have HF:Hid (RunAt base b stop { r with ins:=rest } (w.setCell ⟨b,10,none⟩ (.slice (some ⟨g,off + 1,none⟩) rest.length (cap - 1)))∧RKeep base b w (w.setCell ⟨b,10,none⟩ (.slice (some ⟨g,off + 1,none⟩) rest.length (cap - 1)))):=by
     refine ⟨⟨vv,_,rn_in h1 _,ownsRow9_keep h2 (fun g hg=>Below.heap_setCell _ _ _ _ (RunAt.row_ne h1 h2 g hg)),?_,h4,h5,h6⟩,k⟩
     refine InAt.below (w:=w) (.inr ⟨g,off + 1,cap - 1,rfl,hg,by show rest.length≤cap - 1; omega,fun i m hm=>?_⟩) k.below
     have:=hcell (i + 1) m (by rw [hr]; simpa using hm)
     rw [show off + 1 + i=off + (i + 1) from by omega]; exact this
    have hcap':(rest.length:Int) + 1≤(cap:Int):=by omega
    clear hcell k hr hh h1
    go_enter Tryz.func137,Tryz.ntmps137
    go_wp2_with fail
    go_ret
    rw [e.out]
    exact ⟨rfl,HF.out⟩
end Go.Proofs.YtiopfihjmkfdmaaGreatDoor
