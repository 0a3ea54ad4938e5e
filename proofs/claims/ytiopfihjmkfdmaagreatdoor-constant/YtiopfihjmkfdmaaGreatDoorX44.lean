import Derived.Test.YtiopfihjmkfdmaaGreatDoorX30
namespace Go.Proofs.YtiopfihjmkfdmaaGreatDoor
namespace WC
open Go.RowKit
set_option maxRecDepth 100000
set_option maxHeartbeats 1000000
structure SameAt (w:World) (v:Sp.Cg) (l:List Sp.Cg) (W:World):Prop where
 o:W.heap[w.heap.size]?=some (.cells #[.int .i64 ((v.m:Nat):Int),.int .i64 v.r] 126)
 z:W.heap[w.heap.size + 1]?=some (.cells noneI 203)
 x:W.heap[w.heap.size + 1 + 1]?=some (.cells (stI true l) 203)
 b:Below w.heap.size w W
theorem SameAt.set {w:World} {v:Sp.Cg} {l:List Sp.Cg} {W:World} (h:SameAt w v l W) {j:Nat} (hj:j<l.length):SameAt w v (l.set j v) ((W.setCell ⟨w.heap.size + 1 + 1,1 + j * 2,none⟩ (.int .i64 ((v.m:Nat):Int))).setCell ⟨w.heap.size + 1 + 1,1 + j * 2 + 1,none⟩ (.int .i64 v.r)):=by
 have e1:w.heap.size ≠ w.heap.size + 1 + 1:=by omega
 have e2:w.heap.size + 1 ≠ w.heap.size + 1 + 1:=by omega
 refine ⟨?_,?_,?_,(h.b.setCell (p:=⟨w.heap.size + 1 + 1,1 + j * 2,none⟩) (by show w.heap.size≤w.heap.size + 1 + 1; omega) _).setCell (p:=⟨w.heap.size + 1 + 1,1 + j * 2 + 1,none⟩) (by show w.heap.size≤w.heap.size + 1 + 1; omega) _⟩
 ·rw [Below.heap_setCell _ _ _ _ e1,Below.heap_setCell _ _ _ _ e1]; exact h.o
 ·rw [Below.heap_setCell _ _ _ _ e2,Below.heap_setCell _ _ _ _ e2]; exact h.z
 ·rw [heap_setCell_at (heap_setCell_at h.x (1 + j * 2) (.int .i64 ((v.m:Nat):Int))) (1 + j * 2 + 1) (.int .i64 v.r),stI_set v hj]
def fillI (v:Sp.Cg) (j:Nat):List Sp.Cg:=List.replicate j v ++ List.replicate (8 - j) ⟨0,0⟩
theorem fill_len (v:Sp.Cg) {j:Nat} (h:j≤8):(fillI v j).length=8:=by unfold fillI; simp; omega
theorem fill_set (v:Sp.Cg) {j:Nat} (h:j<8):(fillI v j).set j v=fillI v (j + 1):=by
 unfold fillI
 rw [List.set_append_right _ _ (by simp),List.length_replicate,Nat.sub_self,show 8 - j=(8 - (j + 1)) + 1 by omega,List.replicate_succ,List.set_cons_zero,List.replicate_succ']
 simp
theorem same_calls (v:Sp.Cg) (w:World) :
  Calls Tryz.prog 79 #[.agg #[.int .i64 ((v.m:Nat):Int),.int .i64 v.r]] w fun e w'=>e=.returned (.agg (stC (some fun _=>v)))∧Below w.heap.size w w':=by
 have k:Hid (w.heap.size≤w.heap.size):=Nat.le_refl _
 go_enter Tryz.func79,Tryz.ntmps79
 go_wp2_with fail
 have H0:Hid (SameAt w v (fillI v 0) (((w.alloc (.cells #[.int .i64 ((v.m:Nat):Int),.int .i64 v.r] 126)).alloc (.cells noneI 203)).alloc (.cells (stI true (fillI v 0)) 203))):=by
  obtain ⟨k0,k1,k2,kb⟩:=laid3b (w:=w) (o1:=.cells #[.int .i64 ((v.m:Nat):Int),.int .i64 v.r] 126) (o2:=.cells noneI 203) (o3:=.cells (stI true (fillI v 0)) 203) (Below.refl _ _)
  exact ⟨k0,k1,k2,kb⟩
 change Code.wp _ _ _ _ (((w.alloc (.cells #[.int .i64 ((v.m:Nat):Int),.int .i64 v.r] 126)).alloc (.cells noneI 203)).alloc (.cells (stI true (fillI v 0)) 203))
 generalize ((w.alloc (.cells #[.int .i64 ((v.m:Nat):Int),.int .i64 v.r] 126)).alloc (.cells noneI 203)).alloc (.cells (stI true (fillI v 0)) 203)=W0 at *
 go_loopw [6] (fun v6 wr=>∃ j:Nat,j≤8∧v6=.int .i64 j∧Hid (SameAt w v (fillI v j) wr)) (fun v6 _=>8 - (intOf v6).toNat)
 case atStart=>exact ⟨0,Nat.zero_le _,rfl,H0.out⟩
 case round =>
  obtain ⟨j,hj,rfl,hq⟩:=hrel
  clear H0 k
  by_cases hjlt:j<8
  ·obtain ⟨x,hxj⟩:∃ x,(fillI v j)[j]?=some x:=⟨_,List.getElem?_eq_getElem (by rw [fill_len _ hj]; omega)⟩
   have d0:=cell_of hq.out.o 0 (v:=.int .i64 ((v.m:Nat):Int)) rfl
   have d1:=cell_of hq.out.o 1 (v:=.int .i64 v.r) rfl
   have x0:=cell_of hq.out.x _ (stI_get hxj).1
   have x1:=cell_of hq.out.x _ (stI_get hxj).2
   have f0:=frozen_of hq.out.x (1 + j * 2)
   have f1:=frozen_of hq.out.x (1 + j * 2 + 1)
   have A:Hid (SameAt w v (fillI v (j + 1)) ((wr.setCell ⟨w.heap.size + 1 + 1,1 + j * 2,none⟩ (.int .i64 ((v.m:Nat):Int))).setCell ⟨w.heap.size + 1 + 1,1 + j * 2 + 1,none⟩ (.int .i64 v.r))):=by
    unfold Hid; rw [← fill_set _ hjlt]; exact hq.out.set (by rw [fill_len _ hj]; omega)
   have hji:(j:Int)<8:=by omega
   clear hxj
   go_wp2_with fail
   exact ⟨⟨j + 1,by omega,by go_num,A⟩,by simp [intOf]; omega⟩
  ·obtain rfl:j=8:=by omega
   have e8:stI true (fillI v 8)=stC (some fun _=>v):=by
    unfold stC
    congr 1
   have hx:wr.heap[w.heap.size + 1 + 1]?=some (.cells (stI true (fillI v 8)) 203):=hq.out.x
   have hz:=hq.out.z
   have hB:=hq.out.b
   have sz:(stI true (fillI v 8)).size=17:=stI_size (fill_len _ (Nat.le_refl _))
   have o1:(stI true (fillI v 8)).all (·.oneCell')=true:=stI_one _ _
   rw [e8] at hx sz o1
   clear hq hj hjlt e8
   generalize hxa:stC (some fun _=>v)=xa at *
   have HXA:Hid (stC (some fun _=>v)=xa):=hxa
   clear hxa
   have HX:Hid (_=_):=hx
   have HZ:Hid (_=_):=hz
   have hr:Hid (_=_):=setCells_whole hz (d:=xa) (by rw [sz]; rfl)
   have HB:Hid (Below w.heap.size w _):=setCells_below (b:=w.heap.size + 1) (by omega) xa.toList 0 w _ hB
   clear hx hz hB
   go_wp2_with (first
    | (refine wp_ld rfl _ rfl rfl HX.out sz ?_)
    | (refine wp_st rfl _ _ rfl rfl rfl HZ.out rfl sz o1 ?_))
   refine bodyPost_ret (results_st Tryz.results79 _ _ rfl hr.out sz) rfl ⟨by rw [HXA.out],HB.out⟩
end WC
end Go.Proofs.YtiopfihjmkfdmaaGreatDoor
