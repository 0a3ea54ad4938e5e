import Derived.Test.YtiopfihjmkfdmaaGreatDoorX15
import Derived.Deep.AppendLies
import Derived.Deep.DrawnRows
import Derived.Deep.RegionLaw
namespace Go.Proofs.YtiopfihjmkfdmaaGreatDoor
open Go.RowKit
set_option maxRecDepth 100000
set_option maxHeartbeats 2000000
theorem infoVisit:(Tryz.prog.info? 80).map (fun i=>(i.zero,i.size,i.bytes))=some (some (.agg #[.int .i64 0,.int .i16 0,.int .i16 0,.int .i16 0,.int .i16 0,.int .i16 0,.int .i16 0,.int .i16 0,.int .i16 0]),9,24):=by kernel_rfl
theorem visCells_snoc (vis:List (Int × List Int)) (x:Int × List Int):visCells (vis ++ [x])=visCells vis ++ visCell x:=by
 unfold visCells; simp
theorem rn_fuel {w:World} {b:Nat} {vv iv:Value} {stop:Int} {st:List Int} {fuel:Nat} (h:w.heap[b]?=some (.cells (rnCells vv stop st iv fuel) 181)) (n:Nat) (ni:Int) (hn:ni=n):(w.setCell ⟨b,11,none⟩ (.int .i64 ni)).heap[b]?=some (.cells (rnCells vv stop st iv n) 181):=by
 subst hn
 rw [heap_setCell_at h 11 (.int .i64 (n:Int))]; rfl
theorem rn_vis {w:World} {b:Nat} {vv iv:Value} {stop:Int} {st:List Int} {fuel:Nat} (h:w.heap[b]?=some (.cells (rnCells vv stop st iv fuel) 181)) (v:Value):(w.setCell ⟨b,0,none⟩ v).heap[b]?=some (.cells (rnCells v stop st iv fuel) 181):=by
 rw [heap_setCell_at h 0 v]; rfl
theorem visit_spent {base b:Nat} {r:Sp.Rst} {w:World} (h:RunAt base b 0 r w) (p:Int) (h0:r.fuel=0) :
  Calls Tryz.prog 71 #[.pointer (some ⟨b,0,none⟩),.int .i64 p] w (OutPost base b w (Sp.visit p r)):=by
 have e:Hid (Sp.visit p r=(r,some (-2))):=by unfold Hid Sp.visit; rw [if_pos h0]
 obtain ⟨h1,k1⟩:=h.stopped (-2)
 have H:Hid (RunAt base b (-2) r (w.setCell ⟨b,1,none⟩ (.int .i64 (-2)))∧RKeep base b w (w.setCell ⟨b,1,none⟩ (.int .i64 (-2)))):=⟨h1,k1⟩
 obtain ⟨vv,iv,hb,_⟩:=h
 have c11:w.cell? ⟨b,11,none⟩=some (.int .i64 0):=by rw [cell_of hb 11 (v:=.int .i64 (r.fuel:Int)) rfl,h0]; rfl
 have c1:=cell_of hb 1 (v:=.int .i64 0) rfl
 have f1:=frozen_of hb 1
 clear h1 k1 hb
 go_enter Tryz.func71,Tryz.ntmps71
 go_wp2_with fail
 go_ret
 rw [e.out]
 exact ⟨rfl,H.out⟩
theorem rn_letters {w:World} {b:Nat} {vv iv:Value} {stop:Int} {st:List Int} {fuel:Nat} (h:w.heap[b]?=some (.cells (rnCells vv stop st iv fuel) 181)) :
  ∃ a0 a1 a2 a3 a4 a5 a6 a7:Int,Hid ([Value.int .i16 a0,.int .i16 a1,.int .i16 a2,.int .i16 a3,.int .i16 a4,.int .i16 a5,.int .i16 a6,.int .i16 a7]=(visCell (0,st)).tail) ∧
   w.cell? ⟨b,0,none⟩=some vv∧w.cell? ⟨b,2,none⟩=some (.int .i16 a0)∧w.cell? ⟨b,3,none⟩=some (.int .i16 a1)∧w.cell? ⟨b,4,none⟩=some (.int .i16 a2)∧w.cell? ⟨b,5,none⟩=some (.int .i16 a3)∧w.cell? ⟨b,6,none⟩=some (.int .i16 a4)∧w.cell? ⟨b,7,none⟩=some (.int .i16 a5)∧w.cell? ⟨b,8,none⟩=some (.int .i16 a6)∧w.cell? ⟨b,9,none⟩=some (.int .i16 a7)∧w.frozen? ⟨b,0,none⟩=false :=
 ⟨_,_,_,_,_,_,_,_,rfl,cell_of h 0 rfl,cell_of h 2 rfl,cell_of h 3 rfl,cell_of h 4 rfl,cell_of h 5 rfl,cell_of h 6 rfl,cell_of h 7 rfl,cell_of h 8 rfl,cell_of h 9 rfl,frozen_of h 0⟩
theorem frozen_alloc {w:World} {o:Obj} {b i:Nat} (hlt:b<w.heap.size) (h:w.frozen? ⟨b,i,none⟩=false):(w.alloc o).drew.frozen? ⟨b,i,none⟩=false:=by
 rw [World.frozen?_of_block (w:=w) (w':=(w.alloc o).drew) (Below.heap_alloc _ _ _ hlt)]; exact h
theorem cell_alloc {w:World} {o:Obj} {b i:Nat} {v:Value} (hlt:b<w.heap.size) (h:w.cell? ⟨b,i,none⟩=some v):(w.alloc o).drew.cell? ⟨b,i,none⟩=some v:=by
 rw [World.cell?_of_block (w:=w) (w':=(w.alloc o).drew) (Below.heap_alloc _ _ _ hlt)]; exact h
theorem visited_at {base b:Nat} {r:Sp.Rst} {wx w1:World} {vv iv:Value} {o:Obj} (hb:wx.heap[b]?=some (.cells (rnCells vv 0 r.st iv (r.fuel - 1)) 181)) (ho:wx.ownsRow base 80 9 vv r.vis.length (visCells r.vis)) (hin:InAt base wx iv r.ins) (hge:base≤b) (hst:r.st.length=8) (hle:r.vis.length + 1 + (r.fuel - 1)≤500) (p:Int)
  {a0 a1 a2 a3 a4 a5 a6 a7:Int} (ha:[Value.int .i16 a0,.int .i16 a1,.int .i16 a2,.int .i16 a3,.int .i16 a4,.int .i16 a5,.int .i16 a6,.int .i16 a7]=(visCell (0,r.st)).tail) {gg cap:Nat}
  (hown:w1.ownsRow base 80 9 (.slice (some ⟨gg,0,none⟩) (r.vis.length + 1) cap) (r.vis.length + 1) (visCells r.vis ++ [.int .i64 p,.int .i16 a0,.int .i16 a1,.int .i16 a2,.int .i16 a3,.int .i16 a4,.int .i16 a5,.int .i16 a6,.int .i16 a7])) (hg:(wx.alloc o).drew.grownBy w1 vv.ownBlock) :
  RunAt base b 0 { r with vis:=r.vis ++ [(p,r.st)],fuel:=r.fuel - 1 } (w1.setCell ⟨b,0,none⟩ (.slice (some ⟨gg,0,none⟩) (r.vis.length + 1) cap))∧RKeep base b wx (w1.setCell ⟨b,0,none⟩ (.slice (some ⟨gg,0,none⟩) (r.vis.length + 1) cap)):=by
 have hlt:=heap_lt hb
 have hne:=RunAt.row_ne hb ho
 have hle0:base≤wx.heap.size:=by omega
 have hblk:∀ k,k<wx.heap.size→vv.ownBlock ≠ some k→w1.heap[k]?=wx.heap[k]?:=fun k hk hn=>by
  rw [hg.block k (by show k<(wx.alloc o).heap.size; simp; omega) (fun e=>hn e.symm)]
  exact Below.heap_alloc _ _ _ hk
 have hb1:w1.heap[b]?=some (.cells (rnCells vv 0 r.st iv (r.fuel - 1)) 181):=by
  rw [hblk b hlt (fun e=>hne b e rfl)]; exact hb
 have hsz : wx.heap.size ≤ w1.heap.size := by have := hg.size; have h2 : (wx.alloc o).drew.heap.size = wx.heap.size + 1 := by show (wx.alloc o).heap.size = _; simp
                                              omega
 have hk:RKeep base b wx w1:=by
  refine ⟨⟨hg.os,hg.tape,hg.output,hsz,fun k hk=>hblk k (by omega) (fun e=>by have:=(ownsRow9_lt ho k e).1; omega)⟩,fun k hk hkb hn=>hblk k hk (fun e=>?_)⟩
  obtain ⟨_,_,c,hc⟩:=ownsRow9_lt ho k e
  exact hn _ _ hc
 have hk2:=hk.setB hge 0 (.slice (some ⟨gg,0,none⟩) (r.vis.length + 1) cap)
 refine ⟨⟨.slice (some ⟨gg,0,none⟩) (r.vis.length + 1) cap,iv,rn_vis hb1 _,?_,hin.below hk2.below,hge,hst,by simp; omega⟩,hk2⟩
 have e:visCells (r.vis ++ [(p,r.st)])=visCells r.vis ++ [.int .i64 p,.int .i16 a0,.int .i16 a1,.int .i16 a2,.int .i16 a3,.int .i16 a4,.int .i16 a5,.int .i16 a6,.int .i16 a7]:=by
  rw [visCells_snoc,show visCell (p,r.st)=.int .i64 p :: (visCell (0,r.st)).tail from rfl,← ha]
 show World.ownsRow _ base 80 9 _ (r.vis ++ [(p,r.st)]).length (visCells (r.vis ++ [(p,r.st)]))
 rw [e,List.length_append]
 exact ownsRow9_keep hown (fun g hg'=>Below.heap_setCell _ _ _ _ (fun e=>by
  obtain ⟨_,_,c,hc⟩:=ownsRow9_lt hown g hg'
  have e':g=b:=e
  rw [e',hb1] at hc
  cases hc))
attribute [local go_sem ↓] Go.wp_at_zero Go.wp_at_succ
set_option maxHeartbeats 8000000 in
theorem visit_goes {base b:Nat} {r:Sp.Rst} {w:World} (h:RunAt base b 0 r w) (p:Int) (h0:r.fuel ≠ 0) :
  Calls Tryz.prog 71 #[.pointer (some ⟨b,0,none⟩),.int .i64 p] w (OutPost base b w (Sp.visit p r)):=by
 obtain ⟨i0,hi,hz0,hz1,hz2⟩:=info_parts infoVisit
 have e:Hid (Sp.visit p r=({ r with vis:=r.vis ++ [(p,r.st)],fuel:=r.fuel - 1 },none)):=by unfold Hid Sp.visit; rw [if_neg h0]
 obtain ⟨vv,iv,hb,ho,hin,hge,hst,hle⟩:=h
 have c11:=cell_of hb 11 (v:=.int .i64 (r.fuel:Int)) rfl
 have f11:=frozen_of hb 11
 have hf:¬ ((r.fuel:Int)≤0):=by omega
 have hbx:=rn_fuel hb (r.fuel - 1) ((r.fuel:Int) - 1) (by omega)
 have kx:=(RKeep.refl base b w).setB hge 11 (.int .i64 ((r.fuel:Int) - 1))
 have hox:(w.setCell ⟨b,11,none⟩ (.int .i64 ((r.fuel:Int) - 1))).ownsRow base 80 9 vv r.vis.length (visCells r.vis):=ownsRow9_keep ho (fun g hg=>Below.heap_setCell _ _ _ _ (RunAt.row_ne hb ho g hg))
 have hinx:=hin.below kx.below
 have hne:=RunAt.row_ne hbx hox
 have HBX:Hid (_=_):=hbx
 clear hbx hb ho hin
 go_enter Tryz.func71,Tryz.ntmps71
 go_wp2_with fail
 clear c11 f11
 generalize w.setCell ⟨b,11,none⟩ (.int .i64 ((r.fuel:Int) - 1))=wx at *
 obtain ⟨a0,a1,a2,a3,a4,a5,a6,a7,ha,c0,c2,c3,c4,c5,c6,c7,c8,c9,f0⟩:=rn_letters HBX.out
 have hltx:b<wx.heap.size:=heap_lt HBX.out
 have ag:vv.ownBlock ≠ some b:=fun e=>hne b e rfl
 have hn:r.vis.length + 1≤maxLen:=by unfold maxLen; omega
 have hby:(r.vis.length + 1) * 24≤140737488355328:=by omega
 go_region_law
  ((refine step_append_lies _ (by rfl) _ _ _ (by rfl) base 80 i0 _ 9 24 Tryz.underlying39 hi hz0 hz1 hz2 rfl (by omega) vv r.vis.length (visCells r.vis) (by rfl) ((hox.alloc _).drew)
     ⟨wx.heap.size,0,none⟩ 1 1 [.int .i64 p,.int .i16 a0,.int .i16 a1,.int .i16 a2,.int .i16 a3,.int .i16 a4,.int .i16 a5,.int .i16 a6,.int .i16 a7] (by rfl) (by rfl) (World.news_of_block (cs:=#[.int .i64 p,.int .i16 a0,.int .i16 a1,.int .i16 a2,.int .i16 a3,.int .i16 a4,.int .i16 a5,.int .i16 a6,.int .i16 a7]) (t:=80) (fr:=(0,0)) (heap_alloc_new wx _)) (by simp [Value.oneCell'])
     (by omega) hn hby (by simp; omega) (wx.heap.size + 1) (by simp) ?_; intro gg cap w1 hown1 hgrow hat hlt; have f1:w1.frozen? ⟨b,0,none⟩=false:=(by rw [hgrow.frozen_far _ (by simp; omega) (Ne.symm ag)]; exact frozen_alloc hltx f0); have d1:w1.cell? ⟨b,0,none⟩=some vv:=(by rw [hgrow.cell_far _ (by simp; omega) (Ne.symm ag)]; exact cell_alloc hltx c0)))
 all_goals
  have HF:=visited_at HBX.out hox hinx hge hst (by omega) p ha.out hown1 hgrow
  have HH:Hid (_∧_):=HF
  clear HF hown1 hgrow hat hlt d1 f1 c0 c2 c3 c4 c5 c6 c7 c8 c9 f0
  go_wp2_with fail
  go_ret
  rw [e.out]
  exact ⟨rfl,HH.out.1,kx.trans HH.out.2⟩
end Go.Proofs.YtiopfihjmkfdmaaGreatDoor
