import Derived.Test.YtiopfihjmkfdmaaGreatDoorX31
namespace Go.Proofs.YtiopfihjmkfdmaaGreatDoor
namespace WC
open Go.RowKit
set_option maxRecDepth 100000
set_option maxHeartbeats 8000000
theorem wp_stZ {ops:Array Oper} {rest:List Oper} {op:Oper} {a:Act} {w:World} {Q:Exit→Act→World→Prop} (hgd:op.guard=none) (x y:Operand) (ho:op.op=.store 203 x y) {b:Nat} {c na:Array Value} (hx:a.eval x=.pointer (some ⟨b,0,none⟩)) (hy:a.eval y=.agg #[.bool false,.int .i64 0,.int .i64 0,.int .i64 0,.int .i64 0,.int .i64 0,.int .i64 0,.int .i64 0,.int .i64 0,.int .i64 0,.int .i64 0,.int .i64 0,.int .i64 0,.int .i64 0,.int .i64 0,.int .i64 0,.int .i64 0]) (hna:na=noneI) (h:w.heap[b]?=some (.cells c 203)) (hc:c.size=17)
  (k:wpList Tryz.prog ops Q rest (a.put op.dst undef) (w.setCells b 0 na.toList)):wpList Tryz.prog ops Q (op :: rest) a w:=by
 subst hna
 exact wp_st hgd x y ho hx hy h hc rfl (stC_one none) k
def SideIs (v:Value):Sp.Sm→Prop
 | .name k=>v=.iface 275 (.int .i64 (k:Nat))∧k<8
 | _=>(∃ t u,v=.iface t u)∧∀ w,(Instr.typeAssert v 277 275 true).run Tryz.prog w=.ok (.tuple #[.int .i64 0,.bool false]) w
theorem setV_ofFn {π:Par} (e:Fin 8→Sp.Cg) (k:Nat) (v:Sp.Cg):(List.ofFn e).set k v=List.ofFn (show Fin 8→Sp.Cg from Sp.setV (Dm π) e k v):=by
 refine List.ext_getElem? fun i=>?_
 rw [List.getElem?_set,List.getElem?_ofFn,List.getElem?_ofFn]
 by_cases hi:i<8
 ·rw [dif_pos hi,dif_pos hi]
  by_cases hk:k=i
  ·subst hk
   rw [if_pos rfl,if_pos (by simpa using hi)]
   exact congrArg some (if_pos rfl).symm
  ·rw [if_neg hk]
   exact congrArg some (if_neg (fun e=>hk e.symm)).symm
 ·rw [dif_neg hi,dif_neg hi]
  by_cases hk:k=i
  ·rw [if_pos hk,if_neg (by simp; omega)]
  ·rw [if_neg hk]
theorem stC_set {π:Par} (e:Fin 8→Sp.Cg) (k:Nat) (hk:k<8) (v:Sp.Cg):((stC (some e)).setIfInBounds (1 + k * 2) (.int .i64 ((v.m:Nat):Int))).setIfInBounds (1 + k * 2 + 1) (.int .i64 v.r)=stC (show ST from some (Sp.setV (Dm π) e k v)):=by
 show ((stI true (List.ofFn e)).setIfInBounds (1 + k * 2) (.int .i64 ((v.m:Nat):Int))).setIfInBounds (1 + k * 2 + 1) (.int .i64 v.r)=stI true (List.ofFn _)
 rw [stI_set v (by simpa using hk),setV_ofFn]
theorem bound_stays (tv:TypeId) (uv:Value) (r:Nat) (wa:Array Value) (y:Sp.Cg) (s:ST) (w:World) (h:s=none∨∀ w,(Instr.typeAssert (.iface tv uv) 277 275 true).run Tryz.prog w=.ok (.tuple #[.int .i64 0,.bool false]) w) (hn:s=none→(∃ k:Nat,tv=275∧uv=.int .i64 k)∨∀ w,(Instr.typeAssert (.iface tv uv) 277 275 true).run Tryz.prog w=.ok (.tuple #[.int .i64 0,.bool false]) w) :
  Calls Tryz.prog 220 #[.agg wa,.iface tv uv,.int .i64 (r:Nat),.agg #[.int .i64 ((y.m:Nat):Int),.int .i64 y.r],.agg (stC s)] w fun e w'=>e=.returned (.agg (stC s))∧Below w.heap.size w w':=by
 obtain ⟨k0,k1,k2,k3,kb⟩:=laid4b (w:=w) (o1:=.cells wa 200) (o2:=.cells #[.int .i64 ((y.m:Nat):Int),.int .i64 y.r] 126) (o3:=.cells (stC s) 203) (o4:=.cells noneI 203) (Below.refl _ _)
 have h17:=stC_size s
 have h1:=stC_one s
 have hz:=stC_zero s
 have hr:Hid (_=_):=setCells_whole k3 (d:=stC s) (by rw [h17]; rfl)
 have HB:Hid (Below w.heap.size w _):=setCells_below (b:=w.heap.size + 1 + 1 + 1) (by omega) (stC s).toList 0 w _ kb
 have K2:Hid (_=_):=k2
 have K3:Hid (_=_):=k3
 have d0:(stC s)[0]?=some (.bool s.isSome):=by rw [Array.getElem?_eq_getElem (by omega),hz]
 have c0:=cell_of k2 0 d0
 clear k0 k1 k2 k3 kb hz d0
 have hcase:(∀ w,(Instr.typeAssert (.iface tv uv) 277 275 true).run Tryz.prog w=.ok (.tuple #[.int .i64 0,.bool false]) w)∨(s=none∧∃ k:Nat,tv=275∧uv=.int .i64 k):=by
  rcases h with h | h
  ·rcases hn h with hk | hk
   ·exact .inr ⟨h,hk⟩
   ·exact .inl hk
  ·exact .inl h
 clear h hn
 rcases hcase with ht | ⟨hs,k,rfl,rfl⟩
 ·generalize stC s=xa at *
  generalize s.isSome=rb at *
  go_enter Tryz.func220,Tryz.ntmps220
  go_wp2_with (first
   | (refine wp_ld rfl _ rfl rfl K2.out h17 ?_)
   | (refine wp_st rfl _ _ rfl rfl rfl K3.out rfl h17 h1 ?_))
  refine bodyPost_ret (results_st Tryz.results220 _ _ rfl hr.out h17) rfl ⟨rfl,HB.out⟩
 ·have ht:=ta_name_name (.int .i64 k)
  have hs':s.isSome=false:=by rw [hs]; rfl
  have z0:∀ h:0<(stC s).size,(stC s)[0]=.bool false:=fun h=>by rw [stC_zero s h,hs']
  generalize stC s=xa at *
  clear hs hs' c0
  go_enter Tryz.func220,Tryz.ntmps220
  go_wp2_with (first
   | (refine wp_ld rfl _ rfl rfl K2.out h17 ?_)
   | (refine wp_st rfl _ _ rfl rfl rfl K3.out rfl h17 h1 ?_))
  refine bodyPost_ret (results_st Tryz.results220 _ _ rfl hr.out h17) rfl ⟨rfl,HB.out⟩
structure BndAt (wa xa:Array Value) (y:Sp.Cg) (k:Nat) (W:World):Prop where
 o:W.heap[k]?=some (.cells wa 200)
 y:W.heap[k + 1]?=some (.cells #[.int .i64 ((y.m:Nat):Int),.int .i64 y.r] 126)
 x:W.heap[k + 1 + 1]?=some (.cells xa 203)
 z:W.heap[k + 1 + 1 + 1]?=some (.cells noneI 203)
theorem BndAt.call {wa xa:Array Value} {y:Sp.Cg} {k:Nat} {W W':World} (h:BndAt wa xa y k W) (b:Below W.heap.size W W'):BndAt wa xa y k W' :=
 ⟨(b.block _ (heap_lt h.o)).trans h.o,(b.block _ (heap_lt h.y)).trans h.y,(b.block _ (heap_lt h.x)).trans h.x,(b.block _ (heap_lt h.z)).trans h.z⟩
theorem bound_name {B:Nat} {π:Par} (k:Nat) (hk:k<8) (r:Nat) (hr:r<6) (dv:Value) (wa:Array Value) (hw0:wa[0]?=some (.iface 128 dv)) (y:Sp.Cg) (hy:Wv y) (e:Fin 8→Sp.Cg) (he:∀ j,Wv (e j)) (w:World) (hd:Does B π dv w) (u:ST) (hu:Sp.bndV (Dm π) (.name k) r y (some e)=u) :
  Calls Tryz.prog 220 #[.agg wa,.iface 275 (.int .i64 (k:Nat)),.int .i64 (r:Nat),.agg #[.int .i64 ((y.m:Nat):Int),.int .i64 y.r],.agg (stC (some e))] w fun e w'=>e=.returned (.agg (stC u))∧Below w.heap.size w w':=by
 have hg:Sp.getV (Dm π) e k=e ⟨k,hk⟩:=dif_pos hk
 have hub:u=match vBound r (e ⟨k,hk⟩) y with
   | some v=>(show ST from some (Sp.setV (Dm π) e k v))
   | none=>none:=by
  rw [← hu]
  have e1:(Dm π).bound r (Sp.getV (Dm π) e k) y=vBound r (e ⟨k,hk⟩) y:=congrArg (fun z=>(Dm π).bound r z y) hg
  cases hb:vBound r (e ⟨k,hk⟩) y with
  | none=>exact Sp.bnd_none (Dm π) k r y e (e1.trans hb)
  | some v=>exact Sp.bnd_some (Dm π) k r y e v (e1.trans hb)
 obtain ⟨k0,k1,k2,k3,kb⟩:=laid4b (w:=w) (o1:=.cells wa 200) (o2:=.cells #[.int .i64 ((y.m:Nat):Int),.int .i64 y.r] 126) (o3:=.cells (stC (some e)) 203) (o4:=.cells noneI 203) (Below.refl _ _)
 have ht:=ta_name_name (.int .i64 k)
 obtain ⟨na,hna⟩:∃ na,na=noneI:=⟨_,rfl⟩
 have n17:na.size=17:=by rw [hna]; rfl
 have HNA:Hid (na=noneI):=hna
 clear hna
 have h17:=stC_size (some e)
 have z0:∀ h:0<(stC (some e)).size,(stC (some e))[0]=.bool true:=fun h=>stC_zero (some e) h
 obtain ⟨x0,x1⟩:=stC_get e ⟨k,hk⟩
 have hk':(k:Int)<8:=by omega
 have HST:Hid (∀ v:Sp.Cg,_=_):=fun v=>stC_set (π:=π) e k hk v
 have HX:=he ⟨k,hk⟩
 have HO1:Hid (∀ v:Sp.Cg,(stC (show ST from some (Sp.setV (Dm π) e k v))).size=17∧(stC (show ST from some (Sp.setV (Dm π) e k v))).all (·.oneCell')=true):=fun v=>⟨stC_size _,stC_one _⟩
 generalize e ⟨k,hk⟩=x at *
 simp only at x0 x1
 have HD:Hid (∀ W,Below w.heap.size w W→Calls _ _ _ W _):=fun W hW=>dBound (hd.below (hW.mono hd.size)) hr HX hy
 generalize hxa:stC (some e)=xa at *
 clear hg hu
 have H0:Hid (BndAt wa xa y w.heap.size ((((w.alloc (.cells wa 200)).alloc (.cells #[.int .i64 ((y.m:Nat):Int),.int .i64 y.r] 126)).alloc (.cells xa 203)).alloc (.cells #[.bool false,.int .i64 0,.int .i64 0,.int .i64 0,.int .i64 0,.int .i64 0,.int .i64 0,.int .i64 0,.int .i64 0,.int .i64 0,.int .i64 0,.int .i64 0,.int .i64 0,.int .i64 0,.int .i64 0,.int .i64 0,.int .i64 0] 203)).drew):=⟨k0,k1,k2,k3⟩
 have HB:Hid (Below w.heap.size w _):=kb
 clear k0 k1 k2 k3 kb
 go_enter Tryz.func220,Tryz.ntmps220
 have HBd:Hid (Below w.heap.size w ((((w.alloc (.cells wa 200)).alloc (.cells #[.int .i64 ((y.m:Nat):Int),.int .i64 y.r] 126)).alloc (.cells xa 203)).alloc (.cells #[.bool false,.int .i64 0,.int .i64 0,.int .i64 0,.int .i64 0,.int .i64 0,.int .i64 0,.int .i64 0,.int .i64 0,.int .i64 0,.int .i64 0,.int .i64 0,.int .i64 0,.int .i64 0,.int .i64 0,.int .i64 0,.int .i64 0] 203)).drew):=HB.out.drew
 go_wp2_with fail
 generalize (((w.alloc (.cells wa 200)).alloc (.cells #[.int .i64 ((y.m:Nat):Int),.int .i64 y.r] 126)).alloc (.cells xa 203)).alloc (.cells #[.bool false,.int .i64 0,.int .i64 0,.int .i64 0,.int .i64 0,.int .i64 0,.int .i64 0,.int .i64 0,.int .i64 0,.int .i64 0,.int .i64 0,.int .i64 0,.int .i64 0,.int .i64 0,.int .i64 0,.int .i64 0,.int .i64 0] 203)=W at *
 refine wp_region_held_drew (S:=fun w':World=>BndAt wa xa y w.heap.size w') (by kernel_rfl) H0.out (fun hHeld=>?_)
 refine tk 0 (.pointer (some ⟨w.heap.size,0,none⟩)) rfl (fun w' h=>by go_simp) hHeld ?_
 simp only [Act.put]
 refine tk 1 (.iface 128 dv) rfl (fun w' h=>by have d:=cell_of h.o 0 hw0; go_simp) hHeld ?_
 simp only [Act.put]
 refine tk 2 (.int .i64 (r:Nat)) rfl (fun w' h=>by go_simp) hHeld ?_
 simp only [Act.put]
 refine tk 3 (.int .i64 (k:Nat)) rfl (fun w' h=>by go_simp) hHeld ?_
 simp only [Act.put]
 refine tk 4 (.pointer (some ⟨w.heap.size + 1 + 1,1,none⟩)) rfl (fun w' h=>by go_simp) hHeld ?_
 simp only [Act.put]
 refine tk 5 (.pointer (some ⟨w.heap.size + 1 + 1,1 + k * 2,none⟩)) rfl (fun w' h=>by go_simp) hHeld ?_
 simp only [Act.put]
 refine tk 6 (.agg #[.int .i64 ((x.m:Nat):Int),.int .i64 x.r]) rfl (fun w' h=>by (have d0:=cell_of h.x _ x0); have d1:=cell_of h.x _ x1; go_simp) hHeld ?_
 simp only [Act.put]
 refine tk 7 (.agg #[.int .i64 ((y.m:Nat):Int),.int .i64 y.r]) rfl (fun w' h=>by (have d0:=cell_of h.y 0 (v:=.int .i64 ((y.m:Nat):Int)) rfl); have d1:=cell_of h.y 1 (v:=.int .i64 y.r) rfl; go_simp) hHeld ?_
 simp only [Act.put]
 refine tk 8 (.iface 128 dv) rfl (fun w' h=>by go_simp) hHeld ?_
 simp only [Act.put]
 refine tk 9 (.iface 128 dv) rfl (fun w' h=>by go_simp) hHeld ?_
 simp only [Act.put]
 refine wpAnyH_ready (rs:=[10,14]) (by kernel_rfl) (by simp) ?_
 refine AllReadyH.cons (i:=10) (o:=_) (by rfl) ?_ (AllReadyH.cons (i:=14) (o:=_) (by rfl) ?_ AllReadyH.nil)
 ·intro K hK
  simp only [gsb,gsa]
  go_simp
  refine (HD.out _ HBd.out).mono ?_
  rintro q w1 ⟨rfl,b1⟩
  go_wp2_with fail
  have hs1:=hHeld.call b1
  have hH1:=hs1
  have HB1:Hid (Below w.heap.size w w1):=HBd.out.trans (b1.mono HBd.out.size)
  refine hK.out _ _ hs1 (fun hHeld=>?_)
  clear hK K hs1 b1
  cases hq:vBound r x y with
  | none =>
   simp only [opV]
   refine tk 11 (.tuple #[.agg #[.int .i64 0,.int .i64 0],.bool false]) rfl (fun w' h=>by go_simp) hHeld ?_
   simp only [Act.put]
   refine tk 12 (.agg #[.int .i64 0,.int .i64 0]) rfl (fun w' h=>by go_simp) hHeld ?_
   simp only [Act.put]
   refine tk 13 (.bool false) rfl (fun w' h=>by go_simp) hHeld ?_
   simp only [Act.put]
   refine rd1 14 fun K hK=>?_
   simp only [gsb]
   go_simp
   refine hK.out _ _ (hHeld.call (below_alloc1 _ _)) (fun hHeld=>?_)
   clear hK K
   refine rd1 15 fun K hK=>?_
   simp only [gsb]
   go_simp
   refine hK.out _ _ (hH1.call (below_alloc1 _ _)) (fun hHeld=>?_)
   clear hK K
   refine rd1 16 fun K hK=>?_
   simp only [gsb]
   go_simp
   refine hK.out _ _ hHeld (fun hHeld=>?_)
   clear hK K
   refine wpAnyH_done (by kernel_rfl) ?_ _
   have hs2:=hHeld
   have hn2:=heap_alloc_new w1 (.cells #[.int .i64 0,.int .i64 0] 126)
   have HBn:Hid (Below w.heap.size w (w1.alloc (.cells #[.int .i64 0,.int .i64 0] 126))):=HB1.out.alloc HB1.out.size _
   have hu0:Hid (u=none):=hub.trans (by rw [hq]; try rfl)
   clear hub hq
   have HZ:Hid (_=_):=hs2.z
   have hr0:Hid (_=_):=setCells_whole hs2.z (d:=na) (by rw [n17]; rfl)
   have HBf:Hid (Below w.heap.size w _):=setCells_below (b:=w.heap.size + 1 + 1 + 1) (by omega) na.toList 0 w _ HBn.out
   clear hs2 hHeld
   generalize (w1.alloc (.cells #[.int .i64 0,.int .i64 0] 126))=w2 at *
   go_wp2_with (first
    | (refine wp_stZ rfl _ _ rfl rfl rfl HNA.out HZ.out rfl ?_))
   refine bodyPost_ret (results_st Tryz.results220 _ _ rfl hr0.out n17) rfl ⟨by rw [hu0.out,HNA.out]; rfl,HBf.out⟩
  | some v =>
   simp only [opV]
   refine tk 11 (.tuple #[.agg #[.int .i64 ((v.m:Nat):Int),.int .i64 v.r],.bool true]) rfl (fun w' h=>by go_simp) hHeld ?_
   simp only [Act.put]
   refine tk 12 (.agg #[.int .i64 ((v.m:Nat):Int),.int .i64 v.r]) rfl (fun w' h=>by go_simp) hHeld ?_
   simp only [Act.put]
   refine tk 13 (.bool true) rfl (fun w' h=>by go_simp) hHeld ?_
   simp only [Act.put]
   refine rd1 14 fun K hK=>?_
   simp only [gsb]
   go_simp
   refine hK.out _ _ (hHeld.call (below_alloc1 _ _)) (fun hHeld=>?_)
   clear hK K
   refine rd1 15 fun K hK=>?_
   simp only [gsb]
   go_simp
   refine hK.out _ _ (hH1.call (below_alloc1 _ _)) (fun hHeld=>?_)
   clear hK K
   refine rd1 16 fun K hK=>?_
   simp only [gsb]
   go_simp
   refine hK.out _ _ hHeld (fun hHeld=>?_)
   clear hK K
   refine wpAnyH_done (by kernel_rfl) ?_ _
   have hs2:=hHeld
   have hn2:=heap_alloc_new w1 (.cells #[.int .i64 ((v.m:Nat):Int),.int .i64 v.r] 126)
   have HBn:Hid (Below w.heap.size w (w1.alloc (.cells #[.int .i64 ((v.m:Nat):Int),.int .i64 v.r] 126))):=HB1.out.alloc HB1.out.size _
   have hu0:Hid (u=some (Sp.setV (Dm π) e k v)):=hub.trans (by rw [hq]; try rfl)
   clear hub hq
   obtain ⟨n0,n1,_,_,_⟩:=res2 hn2
   have y0:=cell_of hs2.x _ x0
   have y1:=cell_of hs2.x _ x1
   have f0:=frozen_of hs2.x (1 + k * 2)
   have f1:=frozen_of hs2.x (1 + k * 2 + 1)
   have hx3:=heap_setCell_at (heap_setCell_at hs2.x (1 + k * 2) (.int .i64 ((v.m:Nat):Int))) (1 + k * 2 + 1) (.int .i64 v.r)
   rw [HST.out v] at hx3
   have hne3:w.heap.size + 1 + 1 + 1 ≠ w.heap.size + 1 + 1:=by omega
   have hz3:(((w1.alloc (.cells #[.int .i64 ((v.m:Nat):Int),.int .i64 v.r] 126)).setCell ⟨w.heap.size + 1 + 1,1 + k * 2,none⟩ (.int .i64 ((v.m:Nat):Int))).setCell ⟨w.heap.size + 1 + 1,1 + k * 2 + 1,none⟩ (.int .i64 v.r)).heap[w.heap.size + 1 + 1 + 1]?=some (.cells noneI 203):=by
    rw [Below.heap_setCell _ _ _ _ (show w.heap.size + 1 + 1 + 1 ≠ (⟨w.heap.size + 1 + 1,1 + k * 2 + 1,none⟩:Addr).block from hne3),Below.heap_setCell _ _ _ _ (show w.heap.size + 1 + 1 + 1 ≠ (⟨w.heap.size + 1 + 1,1 + k * 2,none⟩:Addr).block from hne3)]
    exact hs2.z
   have HX3:Hid (_=_):=hx3
   have HZ3:Hid (_=_):=hz3
   obtain ⟨o1,o2⟩:=HO1.out v
   have hr0:Hid (_=_):=setCells_whole hz3 (d:=stC (show ST from some (Sp.setV (Dm π) e k v))) (by rw [o1]; rfl)
   have HBf:Hid (Below w.heap.size w _):=setCells_below (b:=w.heap.size + 1 + 1 + 1) (by omega) (stC (show ST from some (Sp.setV (Dm π) e k v))).toList 0 w _ ((HBn.out.setCell (p:=⟨w.heap.size + 1 + 1,1 + k * 2,none⟩) (by show w.heap.size≤w.heap.size + 1 + 1; omega) (.int .i64 ((v.m:Nat):Int))).setCell (p:=⟨w.heap.size + 1 + 1,1 + k * 2 + 1,none⟩) (by show w.heap.size≤w.heap.size + 1 + 1; omega) (.int .i64 v.r))
   clear hs2 hHeld hx3 hz3 hn2 HST HO1
   generalize (w1.alloc (.cells #[.int .i64 ((v.m:Nat):Int),.int .i64 v.r] 126))=w2 at *
   generalize hzz:stC (show ST from some (Sp.setV (Dm π) e k v))=za at *
   have HZZ:Hid (_=za):=hzz
   clear hzz
   go_wp2_with (first
    | (refine wp_ld rfl _ rfl rfl HX3.out o1 ?_)
    | (refine wp_st rfl _ _ rfl rfl rfl HZ3.out rfl o1 o2 ?_))
   refine bodyPost_ret (results_st Tryz.results220 _ _ rfl hr0.out o1) rfl ⟨by rw [hu0.out]; exact congrArg (fun z=>Ending.returned (.agg z)) HZZ.out.symm,HBf.out⟩
 ·intro K hK
  simp only [gsb,gsa]
  go_simp
  have hsa:=hHeld.call (below_alloc1 _ (.cells #[.int .i64 0,.int .i64 0] 126))
  have hd0:w.heap.size ≠ W.heap.size:=by have:=heap_lt hHeld.z; show w.heap.size ≠ W.drew.heap.size; omega
  have hd1:w.heap.size + 1 ≠ W.heap.size:=by have:=heap_lt hHeld.z; show w.heap.size + 1 ≠ W.drew.heap.size; omega
  have hd2:w.heap.size + 1 + 1 ≠ W.heap.size:=by have:=heap_lt hHeld.z; show w.heap.size + 1 + 1 ≠ W.drew.heap.size; omega
  have hd3:w.heap.size + 1 + 1 + 1 ≠ W.heap.size:=by have:=heap_lt hHeld.z; show w.heap.size + 1 + 1 + 1 ≠ W.drew.heap.size; omega
  have hnl:w.heap.size≤W.heap.size:=HBd.out.size
  have HBa:Hid (Below w.heap.size w (W.drew.alloc (.cells #[.int .i64 0,.int .i64 0] 126))):=HBd.out.alloc HBd.out.size _
  have HNa:Hid (_=_):=heap_alloc_new W.drew (.cells #[.int .i64 0,.int .i64 0] 126)
  refine hK.out _ _ hsa (fun hHeld=>?_)
  clear hK K hsa
  refine rd1 10 fun K hK=>?_
  simp only [gsb]
  go_simp
  refine (HD.out _ HBa.out).mono ?_
  rintro q w1 ⟨rfl,b1⟩
  go_wp2_with fail
  have hs1:=hHeld.call b1
  have HB1:Hid (Below w.heap.size w w1):=HBa.out.trans (b1.mono HBa.out.size)
  have HN1:Hid (w1.heap[W.heap.size]?=some (.cells #[.int .i64 0,.int .i64 0] 126)):=(b1.block _ (heap_lt HNa.out)).trans HNa.out
  obtain ⟨g0,g1,gf0,gf1,_⟩:=res2 HN1.out
  refine hK.out _ _ hs1 (fun hHeld=>?_)
  clear hK K hs1 b1
  cases hq:vBound r x y with
  | none =>
   simp only [opV]
   refine tk 11 (.tuple #[.agg #[.int .i64 0,.int .i64 0],.bool false]) rfl (fun w' h=>by go_simp) hHeld ?_
   simp only [Act.put]
   refine tk 12 (.agg #[.int .i64 0,.int .i64 0]) rfl (fun w' h=>by go_simp) hHeld ?_
   simp only [Act.put]
   refine tk 13 (.bool false) rfl (fun w' h=>by go_simp) hHeld ?_
   simp only [Act.put]
   refine rd1 15 fun K hK=>?_
   simp only [gsb]
   go_simp
   refine hK.out _ _ ⟨two_other hd0 hHeld.o _ _,two_other hd1 hHeld.y _ _,two_other hd2 hHeld.x _ _,two_other hd3 hHeld.z _ _⟩ (fun hHeld=>?_)
   clear hK K
   refine rd1 16 fun K hK=>?_
   simp only [gsb]
   go_simp
   refine hK.out _ _ hHeld (fun hHeld=>?_)
   clear hK K
   refine wpAnyH_done (by kernel_rfl) ?_ _
   have hs2:=hHeld
   have hn2:=two_set HN1.out (.int .i64 0) (.int .i64 0)
   have HBn:Hid (Below w.heap.size w _):=Below.two HB1.out hnl (.int .i64 0) (.int .i64 0)
   have hu0:Hid (u=none):=hub.trans (by rw [hq]; try rfl)
   clear hub hq
   have HZ:Hid (_=_):=hs2.z
   have hr0:Hid (_=_):=setCells_whole hs2.z (d:=na) (by rw [n17]; rfl)
   have HBf:Hid (Below w.heap.size w _):=setCells_below (b:=w.heap.size + 1 + 1 + 1) (by omega) na.toList 0 w _ HBn.out
   clear hs2 hHeld
   generalize ((w1.setCell ⟨W.heap.size,0,none⟩ (.int .i64 0)).setCell ⟨W.heap.size,1,none⟩ (.int .i64 0))=w2 at *
   go_wp2_with (first
    | (refine wp_stZ rfl _ _ rfl rfl rfl HNA.out HZ.out rfl ?_))
   refine bodyPost_ret (results_st Tryz.results220 _ _ rfl hr0.out n17) rfl ⟨by rw [hu0.out,HNA.out]; rfl,HBf.out⟩
  | some v =>
   simp only [opV]
   refine tk 11 (.tuple #[.agg #[.int .i64 ((v.m:Nat):Int),.int .i64 v.r],.bool true]) rfl (fun w' h=>by go_simp) hHeld ?_
   simp only [Act.put]
   refine tk 12 (.agg #[.int .i64 ((v.m:Nat):Int),.int .i64 v.r]) rfl (fun w' h=>by go_simp) hHeld ?_
   simp only [Act.put]
   refine tk 13 (.bool true) rfl (fun w' h=>by go_simp) hHeld ?_
   simp only [Act.put]
   refine rd1 15 fun K hK=>?_
   simp only [gsb]
   go_simp
   refine hK.out _ _ ⟨two_other hd0 hHeld.o _ _,two_other hd1 hHeld.y _ _,two_other hd2 hHeld.x _ _,two_other hd3 hHeld.z _ _⟩ (fun hHeld=>?_)
   clear hK K
   refine rd1 16 fun K hK=>?_
   simp only [gsb]
   go_simp
   refine hK.out _ _ hHeld (fun hHeld=>?_)
   clear hK K
   refine wpAnyH_done (by kernel_rfl) ?_ _
   have hs2:=hHeld
   have hn2:=two_set HN1.out (.int .i64 ((v.m:Nat):Int)) (.int .i64 v.r)
   have HBn:Hid (Below w.heap.size w _):=Below.two HB1.out hnl (.int .i64 ((v.m:Nat):Int)) (.int .i64 v.r)
   have hu0:Hid (u=some (Sp.setV (Dm π) e k v)):=hub.trans (by rw [hq]; try rfl)
   clear hub hq
   obtain ⟨n0,n1,_,_,_⟩:=res2 hn2
   have y0:=cell_of hs2.x _ x0
   have y1:=cell_of hs2.x _ x1
   have f0:=frozen_of hs2.x (1 + k * 2)
   have f1:=frozen_of hs2.x (1 + k * 2 + 1)
   have hx3:=heap_setCell_at (heap_setCell_at hs2.x (1 + k * 2) (.int .i64 ((v.m:Nat):Int))) (1 + k * 2 + 1) (.int .i64 v.r)
   rw [HST.out v] at hx3
   have hne3:w.heap.size + 1 + 1 + 1 ≠ w.heap.size + 1 + 1:=by omega
   have hz3:((((w1.setCell ⟨W.heap.size,0,none⟩ (.int .i64 ((v.m:Nat):Int))).setCell ⟨W.heap.size,1,none⟩ (.int .i64 v.r)).setCell ⟨w.heap.size + 1 + 1,1 + k * 2,none⟩ (.int .i64 ((v.m:Nat):Int))).setCell ⟨w.heap.size + 1 + 1,1 + k * 2 + 1,none⟩ (.int .i64 v.r)).heap[w.heap.size + 1 + 1 + 1]?=some (.cells noneI 203):=by
    rw [Below.heap_setCell _ _ _ _ (show w.heap.size + 1 + 1 + 1 ≠ (⟨w.heap.size + 1 + 1,1 + k * 2 + 1,none⟩:Addr).block from hne3),Below.heap_setCell _ _ _ _ (show w.heap.size + 1 + 1 + 1 ≠ (⟨w.heap.size + 1 + 1,1 + k * 2,none⟩:Addr).block from hne3)]
    exact hs2.z
   have HX3:Hid (_=_):=hx3
   have HZ3:Hid (_=_):=hz3
   obtain ⟨o1,o2⟩:=HO1.out v
   have hr0:Hid (_=_):=setCells_whole hz3 (d:=stC (show ST from some (Sp.setV (Dm π) e k v))) (by rw [o1]; rfl)
   have HBf:Hid (Below w.heap.size w _):=setCells_below (b:=w.heap.size + 1 + 1 + 1) (by omega) (stC (show ST from some (Sp.setV (Dm π) e k v))).toList 0 w _ ((HBn.out.setCell (p:=⟨w.heap.size + 1 + 1,1 + k * 2,none⟩) (by show w.heap.size≤w.heap.size + 1 + 1; omega) (.int .i64 ((v.m:Nat):Int))).setCell (p:=⟨w.heap.size + 1 + 1,1 + k * 2 + 1,none⟩) (by show w.heap.size≤w.heap.size + 1 + 1; omega) (.int .i64 v.r))
   clear hs2 hHeld hx3 hz3 hn2 HST HO1
   generalize ((w1.setCell ⟨W.heap.size,0,none⟩ (.int .i64 ((v.m:Nat):Int))).setCell ⟨W.heap.size,1,none⟩ (.int .i64 v.r))=w2 at *
   generalize hzz:stC (show ST from some (Sp.setV (Dm π) e k v))=za at *
   have HZZ:Hid (_=za):=hzz
   clear hzz
   go_wp2_with (first
    | (refine wp_ld rfl _ rfl rfl HX3.out o1 ?_)
    | (refine wp_st rfl _ _ rfl rfl rfl HZ3.out rfl o1 o2 ?_))
   refine bodyPost_ret (results_st Tryz.results220 _ _ rfl hr0.out o1) rfl ⟨by rw [hu0.out]; exact congrArg (fun z=>Ending.returned (.agg z)) HZZ.out.symm,HBf.out⟩
theorem bound_calls {B:Nat} {π:Par} (v:Value) (x:Sp.Sm) (hv:SideIs v x) (r:Nat) (hr:r<6) (dv:Value) (wa:Array Value) (hw0:wa[0]?=some (.iface 128 dv)) (y:Sp.Cg) (hy:Wv y) (s:ST) (hs:Sp.Wf (Kr π) s) (w:World) (hd:Does B π dv w) (u:ST) (hu:Sp.bndV (Dm π) x r y s=u) :
  Calls Tryz.prog 220 #[.agg wa,v,.int .i64 (r:Nat),.agg #[.int .i64 ((y.m:Nat):Int),.int .i64 y.r],.agg (stC s)] w fun e w'=>e=.returned (.agg (stC u))∧Below w.heap.size w w':=by
 cases s with
 | none =>
  have hu:u=none:=by rw [← hu]; rfl
  subst hu
  cases x with
  | name k =>
   obtain ⟨rfl,hk⟩:=hv
   exact bound_stays _ _ r wa y none w (.inl rfl) (fun _=>.inl ⟨k,rfl,rfl⟩)
  | num n=>obtain ⟨⟨t,u,rfl⟩,h⟩:=hv; exact bound_stays t u r wa y none w (.inr h) (fun _=>.inr h)
  | neg z=>obtain ⟨⟨t,u,rfl⟩,h⟩:=hv; exact bound_stays t u r wa y none w (.inr h) (fun _=>.inr h)
  | bin k z q=>obtain ⟨⟨t,u,rfl⟩,h⟩:=hv; exact bound_stays t u r wa y none w (.inr h) (fun _=>.inr h)
 | some e =>
  cases x with
  | name k =>
   obtain ⟨rfl,hk⟩:=hv
   exact bound_name k hk r hr dv wa hw0 y hy e (hs _ rfl) w hd u hu
  | num n=>obtain ⟨⟨t,z,rfl⟩,h⟩:=hv; have hu:u=some e:=hu.symm; subst hu; exact bound_stays t z r wa y (some e) w (.inr h) (fun _=>.inr h)
  | neg z=>obtain ⟨⟨t,z,rfl⟩,h⟩:=hv; have hu:u=some e:=hu.symm; subst hu; exact bound_stays t z r wa y (some e) w (.inr h) (fun _=>.inr h)
  | bin k z q=>obtain ⟨⟨t,z,rfl⟩,h⟩:=hv; have hu:u=some e:=hu.symm; subst hu; exact bound_stays t z r wa y (some e) w (.inr h) (fun _=>.inr h)
end WC
end Go.Proofs.YtiopfihjmkfdmaaGreatDoor
namespace Go.Proofs.YtiopfihjmkfdmaaGreatDoor
namespace WC
open Go.RowKit
set_option maxRecDepth 100000
set_option maxHeartbeats 4000000
structure CatAt (wa xa:Array Value) (c0 vl vr:Value) (a b:Sp.Cg) (kw kl kr kc ks:Nat) (W:World):Prop where
 o:W.heap[kw]?=some (.cells wa 200)
 l:W.heap[kl]?=some (.cells #[.int .i64 ((a.m:Nat):Int),.int .i64 a.r] 126)
 r:W.heap[kr]?=some (.cells #[.int .i64 ((b.m:Nat):Int),.int .i64 b.r] 126)
 c:W.heap[kc]?=some (.cells #[c0,vl,vr] 285)
 x:W.heap[ks]?=some (.cells xa 203)
theorem CatAt.call {wa xa:Array Value} {c0 vl vr:Value} {a b:Sp.Cg} {kw kl kr kc ks:Nat} {W W':World} (h:CatAt wa xa c0 vl vr a b kw kl kr kc ks W) (k:Below W.heap.size W W'):CatAt wa xa c0 vl vr a b kw kl kr kc ks W' :=
 ⟨(k.block _ (heap_lt h.o)).trans h.o,(k.block _ (heap_lt h.l)).trans h.l,(k.block _ (heap_lt h.r)).trans h.r,(k.block _ (heap_lt h.c)).trans h.c,(k.block _ (heap_lt h.x)).trans h.x⟩
theorem behind_no {B:Nat} {π:Par} (r:Nat) (hr:r<6) (dv:Value) (wa xa:Array Value) (hw0:wa[0]?=some (.iface 128 dv)) (c0 vl vr:Value) (a b:Sp.Cg) (ha:Wv a) (hb:Wv b) (kw kl kr kc ks:Nat) (w:World) (hd:Does B π dv w) (hT:Turns w) (hG:11≤w.heap.size) (h:CatAt wa xa c0 vl vr a b kw kl kr kc ks w) (hm:vMay r a b=false) :
  Calls Tryz.prog 219 #[.int .i64 (r:Nat),.pointer (some ⟨kw,0,none⟩),.pointer (some ⟨kl,0,none⟩),.pointer (some ⟨kr,0,none⟩),.pointer (some ⟨kc,0,none⟩),.pointer (some ⟨ks,0,none⟩)] w fun e w'=>e=.returned (.agg (stC none))∧Below w.heap.size w w':=by
 have kb:=below_alloc1 w (.cells #[.bool false,.int .i64 0,.int .i64 0,.int .i64 0,.int .i64 0,.int .i64 0,.int .i64 0,.int .i64 0,.int .i64 0,.int .i64 0,.int .i64 0,.int .i64 0,.int .i64 0,.int .i64 0,.int .i64 0,.int .i64 0,.int .i64 0] 203)
 have h0:=h.call kb
 have HD:=dMay (hd.below (kb.mono hd.size)) (hT.below kb hG) (Nat.le_trans hG kb.size) hr ha hb
 rw [hm] at HD
 have d0:=cell_of h0.o 0 hw0
 obtain ⟨x0,x1,_,_,_⟩:=res2 h0.l
 obtain ⟨y0,y1,_,_,_⟩:=res2 h0.r
 have HZ:Hid (_=_):=heap_alloc_new w (.cells #[.bool false,.int .i64 0,.int .i64 0,.int .i64 0,.int .i64 0,.int .i64 0,.int .i64 0,.int .i64 0,.int .i64 0,.int .i64 0,.int .i64 0,.int .i64 0,.int .i64 0,.int .i64 0,.int .i64 0,.int .i64 0,.int .i64 0] 203)
 have HB:Hid (Below w.heap.size w _):=kb
 obtain ⟨na,hna⟩:∃ na,na=noneI:=⟨_,rfl⟩
 have n17:na.size=17:=by rw [hna]; rfl
 have HNA:Hid (na=noneI):=hna
 clear hna h0 h hd hT kb
 go_enter Tryz.func219,Tryz.ntmps219
 go_wp2_with fail
 refine HD.mono ?_
 rintro q w1 ⟨rfl,b1⟩
 have hz1:=(b1.block _ (heap_lt HZ.out)).trans HZ.out
 have HZ1:Hid (_=_):=hz1
 have hr0:Hid (_=_):=setCells_whole hz1 (d:=na) (by rw [n17]; rfl)
 have HBf:Hid (Below w.heap.size w _):=setCells_below (b:=w.heap.size) (Nat.le_refl _) na.toList 0 w _ (HB.out.trans (b1.mono HB.out.size))
 clear b1 hz1 HD d0 x0 x1 y0 y1
 go_wp2_with (first
  | (refine wp_stZ rfl _ _ rfl rfl rfl HNA.out HZ1.out rfl ?_))
 refine bodyPost_ret (results_st Tryz.results219 _ _ rfl hr0.out n17) rfl ⟨by rw [HNA.out]; rfl,HBf.out⟩
theorem behind_yes {B:Nat} {π:Par} (r:Nat) (hr:r<6) (hm6:Sp.mirror r<6) (dv:Value) (wa:Array Value) (hw0:wa[0]?=some (.iface 128 dv)) (hws:wa.size=8) (c0 vl vr:Value) (tl tr:TypeId) (ul ur:Value) (hvl:vl=.iface tl ul) (hvr:vr=.iface tr ur) (x y:Sp.Sm) (hl:SideIs vl x) (hy:SideIs vr y) (a b:Sp.Cg) (ha:Wv a) (hb:Wv b) (e:Fin 8→Sp.Cg) (he:∀ k,Wv (e k)) (kw kl kr kc ks:Nat) (w:World) (hd:Does B π dv w) (hT:Turns w) (hG:11≤w.heap.size) (h:CatAt wa (stC (some e)) c0 vl vr a b kw kl kr kc ks w) (hm:vMay r a b=true) (s1 u:ST) (hs1:Sp.bndV (Dm π) x r b (some e)=s1) (hu:Sp.bndV (Dm π) y (Sp.mirror r) a s1=u) :
  Calls Tryz.prog 219 #[.int .i64 (r:Nat),.pointer (some ⟨kw,0,none⟩),.pointer (some ⟨kl,0,none⟩),.pointer (some ⟨kr,0,none⟩),.pointer (some ⟨kc,0,none⟩),.pointer (some ⟨ks,0,none⟩)] w fun e w'=>e=.returned (.agg (stC u))∧Below w.heap.size w w':=by
 have kb:=below_alloc1 w (.cells #[.bool false,.int .i64 0,.int .i64 0,.int .i64 0,.int .i64 0,.int .i64 0,.int .i64 0,.int .i64 0,.int .i64 0,.int .i64 0,.int .i64 0,.int .i64 0,.int .i64 0,.int .i64 0,.int .i64 0,.int .i64 0,.int .i64 0] 203)
 have h0:=h.call kb
 have HD:=dMay (hd.below (kb.mono hd.size)) (hT.below kb hG) (Nat.le_trans hG kb.size) hr ha hb
 rw [hm] at HD
 have w1f:Sp.Wf (Kr π) s1:=by rw [← hs1]; exact Sp.bndV_wf (Sp.Wf.some he) hb
 have HB1:Hid (∀ W,Below w.heap.size w W→Calls _ _ _ W _):=fun W hW=>bound_calls (B:=B) (π:=π) vl x hl r hr dv wa hw0 b hb (some e) (Sp.Wf.some he) W (hd.below (hW.mono hd.size)) s1 hs1
 have HB2:Hid (∀ W,Below w.heap.size w W→Calls _ _ _ W _):=fun W hW=>bound_calls (B:=B) (π:=π) vr y hy (Sp.mirror r) hm6 dv wa hw0 a ha s1 w1f W (hd.below (hW.mono hd.size)) u hu
 have HM:Hid (∀ W,Below w.heap.size w W→Calls _ _ _ W _):=fun W hW=>mirror_calls r hr W (hT.below hW hG)
 have lo:=heap_lt h.o
 have ll:=heap_lt h.l
 have lr:=heap_lt h.r
 have lc:=heap_lt h.c
 have lx:=heap_lt h.x
 have d0:=cell_of h0.o 0 hw0
 obtain ⟨x0,x1,_,_,_⟩:=res2 h0.l
 obtain ⟨y0,y1,_,_,_⟩:=res2 h0.r
 subst hvl hvr
 have hx17:=stC_size (some e)
 have hu17:=stC_size u
 have hu1:=stC_one u
 generalize stC (some e)=xa at *
 generalize stC s1=sa at *
 generalize stC u=ua at *
 have HZ:Hid (_=_):=heap_alloc_new w (.cells #[.bool false,.int .i64 0,.int .i64 0,.int .i64 0,.int .i64 0,.int .i64 0,.int .i64 0,.int .i64 0,.int .i64 0,.int .i64 0,.int .i64 0,.int .i64 0,.int .i64 0,.int .i64 0,.int .i64 0,.int .i64 0,.int .i64 0] 203)
 have HB:Hid (Below w.heap.size w _):=kb
 have HC:Hid (CatAt wa xa c0 (.iface tl ul) (.iface tr ur) a b kw kl kr kc ks _):=h0
 clear h0 h hd hT kb
 go_enter Tryz.func219,Tryz.ntmps219
 go_wp2_with fail
 refine HD.mono ?_
 rintro q w1 ⟨rfl,b1⟩
 have HB3:Hid (Below w.heap.size w w1.drew):=(HB.out.trans (b1.mono HB.out.size)).drew
 have H0:Hid (CatAt wa xa c0 (.iface tl ul) (.iface tr ur) a b kw kl kr kc ks w1.drew∧w1.drew.heap[w.heap.size]?=some (.cells #[.bool false,.int .i64 0,.int .i64 0,.int .i64 0,.int .i64 0,.int .i64 0,.int .i64 0,.int .i64 0,.int .i64 0,.int .i64 0,.int .i64 0,.int .i64 0,.int .i64 0,.int .i64 0,.int .i64 0,.int .i64 0,.int .i64 0] 203)∧Below w.heap.size w w1.drew):=⟨HC.out.call b1.drew,(b1.block _ (heap_lt HZ.out)).trans HZ.out,HB3.out⟩
 clear b1 HD d0 x0 x1 y0 y1
 go_wp2_with fail
 refine wp_region_held_drew (S:=fun w':World=>CatAt wa xa c0 (.iface tl ul) (.iface tr ur) a b kw kl kr kc ks w'∧(∃ c,c.size=17∧w'.heap[w.heap.size]?=some (.cells c 203))∧Below w.heap.size w w') (by kernel_rfl) ⟨H0.out.1,⟨_,rfl,H0.out.2.1⟩,H0.out.2.2⟩ (fun hHeld=>?_)
 refine tky 0 rfl (yieldsIf_load_mid (by rfl) _ _ rfl _ _ rfl (wa).toList _ (fun w' h=>range_of h.1.o) Tryz.underlying200 rfl (by rw [infoWk,Array.length_toList,hws])) hHeld ?_
 simp only [Act.put]
 refine tky 6 rfl (yieldsIf_load_mid (by rfl) _ _ rfl _ _ rfl (wa).toList _ (fun w' h=>range_of h.1.o) Tryz.underlying200 rfl (by rw [infoWk,Array.length_toList,hws])) hHeld ?_
 simp only [Act.put]
 refine tky 11 rfl (yieldsIf_load_mid (by rfl) _ _ rfl _ _ rfl (xa).toList _ (fun w' h=>range_of h.1.x) Tryz.underlying203 rfl (by rw [infoSt,Array.length_toList,hx17])) hHeld ?_
 simp only [Act.put]
 refine tk 1 (.pointer (some ⟨kc,2,none⟩)) rfl (fun w' h=>by go_simp) hHeld ?_
 simp only [Act.put]
 refine tk 2 (.iface tr ur) rfl (fun w' h=>by have d:=cell_of h.1.c 2 (v:=.iface tr ur) rfl; go_simp) hHeld ?_
 simp only [Act.put]
 refine tk 3 (.int .i64 (r:Nat)) rfl (fun w' h=>by go_simp) hHeld ?_
 simp only [Act.put]
 refine tk 5 (.agg #[.int .i64 ((a.m:Nat):Int),.int .i64 a.r]) rfl (fun w' h=>by (have d0:=cell_of h.1.l 0 (v:=.int .i64 ((a.m:Nat):Int)) rfl); have d1:=cell_of h.1.l 1 (v:=.int .i64 a.r) rfl; go_simp) hHeld ?_
 simp only [Act.put]
 refine tk 7 (.pointer (some ⟨kc,1,none⟩)) rfl (fun w' h=>by go_simp) hHeld ?_
 simp only [Act.put]
 refine tk 8 (.iface tl ul) rfl (fun w' h=>by have d:=cell_of h.1.c 1 (v:=.iface tl ul) rfl; go_simp) hHeld ?_
 simp only [Act.put]
 refine tk 9 (.int .i64 (r:Nat)) rfl (fun w' h=>by go_simp) hHeld ?_
 simp only [Act.put]
 refine tk 10 (.agg #[.int .i64 ((b.m:Nat):Int),.int .i64 b.r]) rfl (fun w' h=>by (have d0:=cell_of h.1.r 0 (v:=.int .i64 ((b.m:Nat):Int)) rfl); have d1:=cell_of h.1.r 1 (v:=.int .i64 b.r) rfl; go_simp) hHeld ?_
 simp only [Act.put]
 refine rd1 4 fun K hK=>?_
 simp only [gsb,gsa,Array.toArray_toList]
 go_simp
 refine (HM.out _ hHeld.2.2).mono ?_
 rintro q w2 ⟨rfl,rfl⟩
 go_wp2_with fail
 refine hK.out _ _ hHeld (fun hHeld=>?_)
 clear hK K
 refine rd1 12 fun K hK=>?_
 simp only [gsb]
 go_simp
 refine (HB1.out _ hHeld.2.2).mono ?_
 rintro q w3 ⟨rfl,b3⟩
 go_wp2_with fail
 obtain ⟨c3,hc3,hz3⟩:=hHeld.2.1
 have hs3:CatAt wa xa c0 (.iface tl ul) (.iface tr ur) a b kw kl kr kc ks w3∧(∃ c,c.size=17∧w3.heap[w.heap.size]?=some (.cells c 203))∧Below w.heap.size w w3:=⟨hHeld.1.call b3,⟨c3,hc3,(b3.block _ (heap_lt hz3)).trans hz3⟩,hHeld.2.2.trans (b3.mono hHeld.2.2.size)⟩
 refine hK.out _ _ hs3 (fun hHeld=>?_)
 clear hK K hs3 b3 hz3
 refine rd1 13 fun K hK=>?_
 simp only [gsb]
 go_simp
 refine (HB2.out _ hHeld.2.2).mono ?_
 rintro q w4 ⟨rfl,b4⟩
 go_wp2_with fail
 obtain ⟨c4,hc4,hz4⟩:=hHeld.2.1
 have hz5:=(b4.block _ (heap_lt hz4)).trans hz4
 have hs4:CatAt wa xa c0 (.iface tl ul) (.iface tr ur) a b kw kl kr kc ks w4∧(∃ c,c.size=17∧w4.heap[w.heap.size]?=some (.cells c 203))∧Below w.heap.size w w4:=⟨hHeld.1.call b4,⟨c4,hc4,hz5⟩,hHeld.2.2.trans (b4.mono hHeld.2.2.size)⟩
 refine hK.out _ _ hs4 (fun hHeld=>?_)
 clear hK K hs4 b4 hz4
 have hr0:Hid (_=_):=setCells_whole hz5 (d:=ua) (by omega)
 have HBf:Hid (Below w.heap.size w _):=setCells_below (b:=w.heap.size) (Nat.le_refl _) ua.toList 0 w _ hHeld.2.2
 refine rd1 14 fun K hK=>?_
 simp only [gsb]
 rw [if_pos (by rfl)]
 refine wr_st _ _ rfl rfl rfl (by rw [← hc4]; exact there_of hz5) hu17 hu1 ?_
 refine hK.out _ _ ⟨⟨(setCells_other _ _ _ _ (by omega)).trans hHeld.1.o,(setCells_other _ _ _ _ (by omega)).trans hHeld.1.l,(setCells_other _ _ _ _ (by omega)).trans hHeld.1.r,(setCells_other _ _ _ _ (by omega)).trans hHeld.1.c,(setCells_other _ _ _ _ (by omega)).trans hHeld.1.x⟩,⟨ua,hu17,hr0.out⟩,HBf.out⟩ (fun _=>?_)
 clear hK K
 refine wpAnyH_done (by kernel_rfl) ?_ _
 go_wp2_with fail
 refine bodyPost_ret (results_st Tryz.results219 _ _ rfl hr0.out hu17) rfl ⟨rfl,HBf.out⟩
theorem behind_calls {B:Nat} {π:Par} (r:Nat) (hr:r<6) (dv:Value) (wa:Array Value) (hw0:wa[0]?=some (.iface 128 dv)) (hws:wa.size=8) (c0:Value) (tl tr:TypeId) (ul ur:Value) (x y:Sp.Sm) (hl:SideIs (.iface tl ul) x) (hy:SideIs (.iface tr ur) y) (a b:Sp.Cg) (ha:Wv a) (hb:Wv b) (e:Fin 8→Sp.Cg) (he:∀ k,Wv (e k)) (kw kl kr kc ks:Nat) (w:World) (hd:Does B π dv w) (hT:Turns w) (hG:11≤w.heap.size) (h:CatAt wa (stC (some e)) c0 (.iface tl ul) (.iface tr ur) a b kw kl kr kc ks w) (u:ST) (hu:Sp.behindV (Dm π) r x y a b e=u) :
  Calls Tryz.prog 219 #[.int .i64 (r:Nat),.pointer (some ⟨kw,0,none⟩),.pointer (some ⟨kl,0,none⟩),.pointer (some ⟨kr,0,none⟩),.pointer (some ⟨kc,0,none⟩),.pointer (some ⟨ks,0,none⟩)] w fun e w'=>e=.returned (.agg (stC u))∧Below w.heap.size w w':=by
 have hm6:Sp.mirror r<6:=by
  rcases (show r=0∨r=1∨r=2∨r=3∨r=4∨r=5 from by omega) with rfl | rfl | rfl | rfl | rfl | rfl <;> decide
 cases hm:vMay r a b with
 | false =>
  have:u=none:=by
   rw [← hu]
   exact Sp.behind_none (Dm π) r x y a b e hm
  subst this
  exact behind_no r hr dv wa _ hw0 c0 _ _ a b ha hb kw kl kr kc ks w hd hT hG h hm
 | true =>
  exact behind_yes r hr hm6 dv wa hw0 hws c0 _ _ tl tr ul ur rfl rfl x y hl hy a b ha hb e he kw kl kr kc ks w hd hT hG h hm _ u rfl ((Sp.behind_some (Dm π) r x y a b e hm).symm.trans hu)
end WC
end Go.Proofs.YtiopfihjmkfdmaaGreatDoor
