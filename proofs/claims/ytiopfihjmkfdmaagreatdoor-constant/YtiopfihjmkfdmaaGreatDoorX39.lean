import Derived.Test.YtiopfihjmkfdmaaGreatDoorX38
import Derived.Deep.Cut
namespace Go.Proofs.YtiopfihjmkfdmaaGreatDoor
namespace WC
open Go.RowKit
set_option maxRecDepth 100000
set_option maxHeartbeats 4000000
structure WdIn (C:Cx) (π:Par) (T:Tab) (F:Fd) (w:World) (wa xa:Array Value) (W:World):Prop where
 a:AnAt C π T F W
 k:AKeep C w W
 o:W.heap[w.heap.size]?=some (.cells wa 200)
 x:W.heap[w.heap.size + 1]?=some (.cells xa 203)
 z:W.heap[w.heap.size + 1 + 1]?=some (.cells #[.bool false,.int .i64 0,.int .i64 0,.int .i64 0,.int .i64 0,.int .i64 0,.int .i64 0,.int .i64 0,.int .i64 0,.int .i64 0,.int .i64 0,.int .i64 0,.int .i64 0,.int .i64 0,.int .i64 0,.int .i64 0,.int .i64 0] 203)
theorem WdIn.keep {C:Cx} {π:Par} {T:Tab} {F F0:Fd} {w:World} {wa xa:Array Value} {W W':World} (h0:AnAt C π T F0 w) (h:WdIn C π T F w wa xa W) (ha:AnAt C π T F W') (hk:AKeep C W W'):WdIn C π T F w wa xa W' :=
 ⟨ha,h.k.trans hk,hk.mine h0 (Nat.le_refl _) h.o,hk.mine h0 (by omega) h.x,hk.mine h0 (by omega) h.z⟩
theorem WdIn.call {C:Cx} {π:Par} {T:Tab} {F:Fd} {w:World} {wa xa:Array Value} {W W':World} (h:WdIn C π T F w wa xa W) (k:Below W.heap.size W W'):WdIn C π T F w wa xa W' :=
 ⟨h.a.call k,h.k.trans (AKeep.of_below k h.a.le),(k.block _ (heap_lt h.o)).trans h.o,(k.block _ (heap_lt h.x)).trans h.x,(k.block _ (heap_lt h.z)).trans h.z⟩
theorem WdIn.put {C:Cx} {π:Par} {T:Tab} {F F0:Fd} {w:World} {wa xa:Array Value} {W:World} (h0:AnAt C π T F0 w) (h:WdIn C π T F w wa xa W) {p:Nat} (hp:w.heap.size + 1 + 1<p) (d:Array Value):WdIn C π T F w wa xa (W.setCells p 0 d.toList):=by
 have hb:Below w.heap.size W (W.setCells p 0 d.toList):=setCells_below (b:=p) (by omega) d.toList 0 W _ (Below.refl _ _)
 exact ⟨h0.upon h.a hb,AKeep.upon h0 h.k hb,(setCells_other _ _ _ _ (by omega)).trans h.o,(setCells_other _ _ _ _ (by omega)).trans h.x,(setCells_other _ _ _ _ (by omega)).trans h.z⟩
theorem WdIn.turn {C:Cx} {π:Par} {T:Tab} {F F0:Fd} {w:World} {wa xa:Array Value} {W:World} (h0:AnAt C π T F0 w) (h:WdIn C π T F w wa xa W) (d:Array Value) (h1:xa.size=17) (h2:d.size=17):WdIn C π T F w wa d (W.setCells (w.heap.size + 1) 0 d.toList):=by
 have hb:Below w.heap.size W (W.setCells (w.heap.size + 1) 0 d.toList):=setCells_below (b:=w.heap.size + 1) (by omega) d.toList 0 W _ (Below.refl _ _)
 exact ⟨h0.upon h.a hb,AKeep.upon h0 h.k hb,(setCells_other _ _ _ _ (by omega)).trans h.o,setCells_whole h.x (by rw [h1,h2]),(setCells_other _ _ _ _ (by omega)).trans h.z⟩
theorem eq_guard (x y:Operand) (ja xj:Array Value) (w:World):(eqGuard .eql 203 x y (.agg ja) (.agg xj)).run Tryz.prog w=.ok () w:=by
 have h0:Tryz.prog.eqGuardType Tryz.prog.depth 203=false:=by kernel_rfl
 unfold eqGuard
 simp [h0,go_sem]
theorem wp_eqS {ops:Array Oper} {rest:List Oper} {op:Oper} {a:Act} {w:World} {Q:Exit→Act→World→Prop} (hgd:op.guard=none) (x y:Operand) (ho:op.op=.binOp .eql 203 x y 203) {ja xj:Array Value} (hx:a.eval x=.agg ja) (hy:a.eval y=.agg xj) {r:Bool} (heq:(Op.equal 203 (.agg ja) (.agg xj)).run Tryz.prog w=.ok r w)
  (k:wpList Tryz.prog ops Q rest (a.put op.dst (.bool r)) w):wpList Tryz.prog ops Q (op :: rest) a w :=
 wpList_plain hgd fun _ hK=>by
  unfold Oper.wp execOp
  simp only [ho,hx,hy,binOp,Sem.run_bind,Sem.run_pure,Result.andThen_ok,eq_guard,heq]
  exact hK _ _ k
theorem fuel_small (π:Par):(Dm π).fuel≤100000000:=Nat.le_of_ble_eq_true rfl
theorem widened_calls (C:Cx) (π:Par) (T:Tab) (F:Fd) (b:Bool) (w:World) (s:ST) (hs:Sp.Wf (Kr π) s) (h:AnAt C π T F w) (c1 c2 c3 c4:Value) (next:ST→ST) (hnw:∀ i,Sp.Wf (Kr π) i→Sp.Wf (Kr π) (next i)) (h0:s=none→next none=none)
  (hN:∀ W i,AKeep C w W→AnAt C π T F W→Sp.Wf (Kr π) i→Calls Tryz.prog 242 #[.agg (stC i),c1,c2,c3,c4] W fun e w'=>e=.returned (.agg (stC (next i)))∧AnAt C π T F w'∧AKeep C W w') :
  Calls Tryz.prog 243 #[.agg (wk C b),.agg (stC s),.func (.func 242) #[] #[c1,c2,c3,c4]] w fun e w'=>e=.returned (.agg (stC (Sp.fixF (Dm π) next C.delay (Dm π).fuel 1 s)))∧AnAt C π T F w'∧AKeep C w w':=by
 have hws:=wk_size C b
 have hw0:=wk_zero C b
 have hw2:(wk C b)[2]?=some (.int .i64 (C.delay:Nat)):=rfl
 obtain ⟨U,hU⟩:∃ U,Sp.fixF (Dm π) next C.delay (Dm π).fuel 1 s=U:=⟨_,rfl⟩
 rw [hU]
 have T0:Hid (Sp.WdTo (Kr π) next C.delay U 1 (Dm π).fuel s):=Sp.WdTo.start hU hs h0
 have HN:Hid (∀ W i,_→_→_→Calls _ _ _ W _):=hN
 have HNW:Hid (∀ i,_→_):=hnw
 have HJ:Hid (∀ W s t u,AnAt C π T F W→Sp.jn (Dm π) s t=u→Sp.Wf (Kr π) s→Sp.Wf (Kr π) t→Calls _ _ _ W _):=fun W s t u hW e1 e2 e3=>jn_calls C.dv C.dom C.delay C.narrow C.unroll C.th C.m (if b then some ⟨C.fb,0,none⟩ else none) s t u W hW.does e1 e2 e3
 have hfs:=fuel_small π
 generalize hwa:wk C b=wa at *
 have HWA:Hid (wk C b=wa):=hwa
 obtain ⟨xa,hxa⟩:∃ xa,xa=stC s:=⟨_,rfl⟩
 rw [← hxa]
 have H0:Hid (WdIn C π T F w wa xa (((w.alloc (.cells wa 200)).alloc (.cells xa 203)).alloc (.cells #[.bool false,.int .i64 0,.int .i64 0,.int .i64 0,.int .i64 0,.int .i64 0,.int .i64 0,.int .i64 0,.int .i64 0,.int .i64 0,.int .i64 0,.int .i64 0,.int .i64 0,.int .i64 0,.int .i64 0,.int .i64 0,.int .i64 0] 203))):=by
  obtain ⟨k0,k1,k2,kb⟩:=laid3b (w:=w) (o1:=.cells wa 200) (o2:=.cells xa 203) (o3:=.cells #[.bool false,.int .i64 0,.int .i64 0,.int .i64 0,.int .i64 0,.int .i64 0,.int .i64 0,.int .i64 0,.int .i64 0,.int .i64 0,.int .i64 0,.int .i64 0,.int .i64 0,.int .i64 0,.int .i64 0,.int .i64 0,.int .i64 0] 203) (Below.refl _ _)
  exact ⟨h.call kb,AKeep.of_below kb h.le,k0,k1,k2⟩
 have HA:Hid (AnAt C π T F w):=h
 have HXA:Hid (xa=stC s):=hxa
 clear h hN hnw h0 hwa hxa hU hs
 go_enter Tryz.func243,Tryz.ntmps243
 go_wp2_with fail
 generalize ((w.alloc (.cells wa 200)).alloc (.cells xa 203)).alloc (.cells #[.bool false,.int .i64 0,.int .i64 0,.int .i64 0,.int .i64 0,.int .i64 0,.int .i64 0,.int .i64 0,.int .i64 0,.int .i64 0,.int .i64 0,.int .i64 0,.int .i64 0,.int .i64 0,.int .i64 0,.int .i64 0,.int .i64 0] 203)=W0 at *
 go_loopw [7] (fun v7 wr=>∃ (k f:Nat) (sj:ST) (xj:Array Value),v7=.int .i64 k∧Hid (WdIn C π T F w wa xj wr)∧Hid (Sp.WdTo (Kr π) next C.delay U k f sj)∧Hid (xj=stC sj)) (fun v7 _=>(Dm π).fuel + 1 - (intOf v7).toNat)
 case atStart=>exact ⟨1,(Dm π).fuel,s,xa,rfl,H0,T0,HXA⟩
 case round =>
  obtain ⟨k,f,sj,xj,rfl,hq,ht,hx⟩:=hrel
  clear H0 T0
  have x17:xj.size=17:=by rw [hx.out]; exact stC_size sj
  have x1:xj.all (·.oneCell')=true:=by rw [hx.out]; exact stC_one sj
  obtain ⟨nx,hnx⟩:∃ nx,nx=stC (next sj):=⟨_,rfl⟩
  obtain ⟨ja,hja⟩:∃ ja,ja=stC (Sp.jn (Dm π) sj (next sj)):=⟨_,rfl⟩
  have j17:ja.size=17:=by rw [hja]; exact stC_size _
  have j1:ja.all (·.oneCell')=true:=by rw [hja]; exact stC_one _
  have HJA:Hid (ja=_):=hja
  have wj:=ht.out.wf
  have wn:=HNW.out _ wj
  have HN1:Hid (∀ W,WdIn C π T F w wa xj W→Calls Tryz.prog 242 #[.agg xj,c1,c2,c3,c4] W fun e w'=>e=.returned (.agg nx)∧WdIn C π T F w wa xj w'∧AKeep C W w'):=fun W hW=>by
   have:=HN.out W sj hW.k hW.a wj
   rw [← hx.out,← hnx] at this
   exact this.mono fun e w' q=>⟨q.1,hW.keep HA.out q.2.1 q.2.2,q.2.2⟩
  have HJ1:Hid (∀ W,WdIn C π T F w wa xj W→Calls Tryz.prog 113 #[.agg wa,.agg xj,.agg nx] W fun e w'=>e=.returned (.agg ja)∧WdIn C π T F w wa xj w'∧AKeep C W w'):=fun W hW=>by
   have:=HJ.out W sj (next sj) _ hW.a rfl wj wn
   rw [← hx.out,← hnx,← hja] at this
   have h2:Calls Tryz.prog 113 #[.agg (wk C b),.agg xj,.agg nx] W _:=this
   rw [HWA.out] at h2
   exact h2.mono fun e w' q=>⟨q.1,hW.call q.2,AKeep.of_below q.2 hW.a.le⟩
  clear hja hnx HJ HN
  go_wp2_with fail
  go_cut [8] from 9 (fun v8 wc=>∃ p:Nat,v8=.pointer (some ⟨p,0,none⟩)∧Hid (w.heap.size + 1 + 1<p∧WdIn C π T F w wa xj wc∧wc.heap[p]?=some (.cells ja 203)))
  case first =>
   have H1:Hid (WdIn C π T F w wa xj wr.drew):=hq.out.call (Below.refl _ _).drew
   refine wp_region_held_drew (S:=fun w':World=>WdIn C π T F w wa xj w') (by kernel_rfl) H1.out (fun hHeld=>?_)
   refine tky 0 rfl (yieldsIf_load_mid (by rfl) _ _ rfl _ _ rfl (wa).toList _ (fun w' h=>range_of h.o) Tryz.underlying200 rfl (by rw [infoWk,Array.length_toList,hws])) hHeld ?_
   simp only [Act.put]
   refine tky 1 rfl (yieldsIf_load_mid (by rfl) _ _ rfl _ _ rfl (xj).toList _ (fun w' h=>range_of h.x) Tryz.underlying203 rfl (by rw [infoSt,Array.length_toList,x17])) hHeld ?_
   simp only [Act.put]
   refine tky 3 rfl (yieldsIf_load_mid (by rfl) _ _ rfl _ _ rfl (xj).toList _ (fun w' h=>range_of h.x) Tryz.underlying203 rfl (by rw [infoSt,Array.length_toList,x17])) hHeld ?_
   simp only [Act.put]
   refine tk 2 (.func (.func 242) #[] #[c1,c2,c3,c4]) rfl (fun w' h=>by go_simp) hHeld ?_
   simp only [Act.put]
   refine wpAnyH_ready (rs:=[4,6]) (by kernel_rfl) (by simp) ?_
   refine AllReadyH.cons (i:=4) (o:=_) (by rfl) ?_ (AllReadyH.cons (i:=6) (o:=_) (by rfl) ?_ AllReadyH.nil)
   ·intro K hK
    simp only [gsb,gsa,Array.toArray_toList]
    go_simp
    refine (HN1.out _ hHeld).mono ?_
    rintro e w1 ⟨rfl,a1,b1⟩
    go_wp2_with fail
    refine hK.out _ _ a1 (fun hHeld=>?_)
    clear hK K b1 a1
    refine wpAnyH_ready (rs:=[5,6]) (by kernel_rfl) (by simp) ?_
    refine AllReadyH.cons (i:=5) (o:=_) (by rfl) ?_ (AllReadyH.cons (i:=6) (o:=_) (by rfl) ?_ AllReadyH.nil)
    ·intro K hK
     simp only [gsb]
     go_simp
     refine (HJ1.out _ hHeld).mono ?_
     rintro e w2 ⟨rfl,a2,b2⟩
     go_wp2_with fail
     refine hK.out _ _ a2 (fun hHeld=>?_)
     clear hK K b2 a2
     refine rd1 6 fun K hK=>?_
     simp only [gsb]
     have hp:w.heap.size + 1 + 1<w2.heap.size:=heap_lt hHeld.z
     have kb:=below_alloc1 w2 (.cells #[.bool false,.int .i64 0,.int .i64 0,.int .i64 0,.int .i64 0,.int .i64 0,.int .i64 0,.int .i64 0,.int .i64 0,.int .i64 0,.int .i64 0,.int .i64 0,.int .i64 0,.int .i64 0,.int .i64 0,.int .i64 0,.int .i64 0] 203)
     have hz:=heap_alloc_new w2 (.cells #[.bool false,.int .i64 0,.int .i64 0,.int .i64 0,.int .i64 0,.int .i64 0,.int .i64 0,.int .i64 0,.int .i64 0,.int .i64 0,.int .i64 0,.int .i64 0,.int .i64 0,.int .i64 0,.int .i64 0,.int .i64 0,.int .i64 0] 203)
     have hh:=hHeld.call kb
     go_simp
     refine hK.out _ _ hh (fun hHeld=>?_)
     clear hK K hh
     refine wpAnyH_ready (rs:=[7]) (by kernel_rfl) (by simp) ?_
     refine AllReadyH.cons rfl (fun K hK=>?_) AllReadyH.nil
     rw [if_pos (by rfl)]
     refine wp_store_mid _ _ _ rfl _ _ ja rfl rfl (by rw [j17]; exact there_of hz) (by rw [infoSt,j17]) j1 ?_
     refine hK.out _ _ (hHeld.put HA.out hp ja) (fun _=>?_)
     clear hK K
     refine wpAnyH_done (by kernel_rfl) ?_ _
     go_wp2_with fail
     go_meet
     case rel=>exact ⟨_,rfl,hp,hHeld.put HA.out hp ja,setCells_whole hz (by rw [j17]; rfl)⟩
    ·intro K hK
     simp only [gsb]
     have hp:w.heap.size + 1 + 1<w1.heap.size:=heap_lt hHeld.z
     have kb:=below_alloc1 w1 (.cells #[.bool false,.int .i64 0,.int .i64 0,.int .i64 0,.int .i64 0,.int .i64 0,.int .i64 0,.int .i64 0,.int .i64 0,.int .i64 0,.int .i64 0,.int .i64 0,.int .i64 0,.int .i64 0,.int .i64 0,.int .i64 0,.int .i64 0] 203)
     have hz:=heap_alloc_new w1 (.cells #[.bool false,.int .i64 0,.int .i64 0,.int .i64 0,.int .i64 0,.int .i64 0,.int .i64 0,.int .i64 0,.int .i64 0,.int .i64 0,.int .i64 0,.int .i64 0,.int .i64 0,.int .i64 0,.int .i64 0,.int .i64 0,.int .i64 0] 203)
     have hh:=hHeld.call kb
     clear kb
     go_simp
     refine hK.out _ _ hh (fun hHeld=>?_)
     clear hK K hh
     refine rd1 5 fun K hK=>?_
     simp only [gsb]
     go_simp
     refine (HJ1.out _ hHeld).mono ?_
     rintro e w2 ⟨rfl,hh,b2⟩
     have hz:=b2.mine HA.out (by omega) hz
     clear b2
     go_wp2_with fail
     refine hK.out _ _ hh (fun hHeld=>?_)
     clear hK K hh
     refine wpAnyH_ready (rs:=[7]) (by kernel_rfl) (by simp) ?_
     refine AllReadyH.cons rfl (fun K hK=>?_) AllReadyH.nil
     rw [if_pos (by rfl)]
     refine wp_store_mid _ _ _ rfl _ _ ja rfl rfl (by rw [j17]; exact there_of hz) (by rw [infoSt,j17]) j1 ?_
     refine hK.out _ _ (hHeld.put HA.out hp ja) (fun _=>?_)
     clear hK K
     refine wpAnyH_done (by kernel_rfl) ?_ _
     go_wp2_with fail
     go_meet
     case rel=>exact ⟨_,rfl,hp,hHeld.put HA.out hp ja,setCells_whole hz (by rw [j17]; rfl)⟩
   ·intro K hK
    simp only [gsb,gsa,Array.toArray_toList]
    have hp:w.heap.size + 1 + 1<wr.drew.heap.size:=heap_lt hHeld.z
    have kb:=below_alloc1 wr.drew (.cells #[.bool false,.int .i64 0,.int .i64 0,.int .i64 0,.int .i64 0,.int .i64 0,.int .i64 0,.int .i64 0,.int .i64 0,.int .i64 0,.int .i64 0,.int .i64 0,.int .i64 0,.int .i64 0,.int .i64 0,.int .i64 0,.int .i64 0] 203)
    have hz:=heap_alloc_new wr.drew (.cells #[.bool false,.int .i64 0,.int .i64 0,.int .i64 0,.int .i64 0,.int .i64 0,.int .i64 0,.int .i64 0,.int .i64 0,.int .i64 0,.int .i64 0,.int .i64 0,.int .i64 0,.int .i64 0,.int .i64 0,.int .i64 0,.int .i64 0] 203)
    have hh:=hHeld.call kb
    clear kb
    go_simp
    refine hK.out _ _ hh (fun hHeld=>?_)
    clear hK K hh
    refine rd1 4 fun K hK=>?_
    simp only [gsb]
    go_simp
    refine (HN1.out _ hHeld).mono ?_
    rintro e w1 ⟨rfl,hh,b1⟩
    have hz:=b1.mine HA.out (by omega) hz
    clear b1
    go_wp2_with fail
    refine hK.out _ _ hh (fun hHeld=>?_)
    clear hK K hh
    refine rd1 5 fun K hK=>?_
    simp only [gsb]
    go_simp
    refine (HJ1.out _ hHeld).mono ?_
    rintro e w2 ⟨rfl,hh,b2⟩
    have hz:=b2.mine HA.out (by omega) hz
    clear b2
    go_wp2_with fail
    refine hK.out _ _ hh (fun hHeld=>?_)
    clear hK K hh
    refine wpAnyH_ready (rs:=[7]) (by kernel_rfl) (by simp) ?_
    refine AllReadyH.cons rfl (fun K hK=>?_) AllReadyH.nil
    rw [if_pos (by rfl)]
    refine wp_store_mid _ _ _ rfl _ _ ja rfl rfl (by rw [j17]; exact there_of hz) (by rw [infoSt,j17]) j1 ?_
    refine hK.out _ _ (hHeld.put HA.out hp ja) (fun _=>?_)
    clear hK K
    refine wpAnyH_done (by kernel_rfl) ?_ _
    go_wp2_with fail
    go_meet
    case rel=>exact ⟨_,rfl,hp,hHeld.put HA.out hp ja,setCells_whole hz (by rw [j17]; rfl)⟩
  case rest =>
   obtain ⟨p,rfl,hp⟩:=hcut
   have HP:Hid (_=_):=hp.out.2.2
   have HX:Hid (_=_):=hp.out.2.1.x
   have HZ:Hid (_=_):=hp.out.2.1.z
   have HL:Hid (w.heap.size + 1 + 1<p):=hp.out.1
   clear HN1 HJ1
   cases hbq:Sp.eqS (Dm π) (Sp.jn (Dm π) sj (next sj)) sj with
   | true =>
    have heq:Hid (∀ w,(Op.equal 203 (.agg ja) (.agg xj)).run Tryz.prog w=.ok true w):=fun w=>by
     have:=eq_st (π:=π) (Sp.wf_jn wj wn) wj w
     rw [hbq,← HJA.out,← hx.out] at this
     exact this
    have hE:Hid (sj=U):=ht.out.end hbq
    have hr0:Hid (_=_):=setCells_whole hp.out.2.1.z (d:=xj) (by rw [x17]; rfl)
    have HBf:Hid (Below w.heap.size wc _):=setCells_below (b:=w.heap.size + 1 + 1) (by omega) xj.toList 0 wc _ (Below.refl _ _)
    go_wp2_with (first
     | (refine wp_ld rfl _ rfl rfl HP.out j17 ?_)
     | (refine wp_ld rfl _ rfl rfl HX.out x17 ?_)
     | (refine wp_eqS rfl _ _ rfl rfl rfl (heq.out _) ?_)
     | (refine wp_st rfl _ _ rfl rfl rfl HZ.out rfl x17 x1 ?_))
    refine bodyPost_ret (results_st Tryz.results243 _ _ rfl hr0.out x17) rfl ?_
    rw [← hE.out,← hx.out]
    exact ⟨rfl,HA.out.upon hp.out.2.1.a HBf.out,AKeep.upon HA.out hp.out.2.1.k HBf.out⟩
   | false =>
    have heq:Hid (∀ w,(Op.equal 203 (.agg ja) (.agg xj)).run Tryz.prog w=.ok false w):=fun w=>by
     have:=eq_st (π:=π) (Sp.wf_jn wj wn) wj w
     rw [hbq,← HJA.out,← hx.out] at this
     exact this
    obtain ⟨e,n,f',hse,hwe,hjn,hwn,hff,hon⟩:=ht.out.on HNW.out hbq
    have HON:Hid (Sp.WdTo _ _ _ _ _ _ _):=hon
    have hkf:k≤(Dm π).fuel:=by have:=ht.out.sum; omega
    have d2:=cell_of hp.out.2.1.o 2 hw2
    clear hbq hon
    by_cases hdk:C.delay<k
    ·have hdi:((C.delay:Nat):Int)<((k:Nat):Int):=by omega
     obtain ⟨va,hva⟩:∃ va,va=stC (Sp.stepV (Dm π) next C.delay k sj):=⟨_,rfl⟩
     have v17:va.size=17:=by rw [hva]; exact stC_size _
     have v1:va.all (·.oneCell')=true:=by rw [hva]; exact stC_one _
     have HW:Hid (∀ W,WdIn C π T F w wa xj W→Calls Tryz.prog 157 #[.agg xj,.agg ja,.func (Fn.method "Widen") #[.iface 128 C.dv] #[]] W fun r w'=>r=.returned (.agg va)∧Below W.heap.size W w'):=fun W hW=>by
      have:=widen_calls C.dv e n W hW.a.does hwe hwn
      have e1:Sp.eachV (Dm π) (Dm π).widen (some e) (some n)=Sp.stepV (Dm π) next C.delay k sj:=by
       unfold Sp.stepV
       rw [if_pos hdk,hjn,hse]
      have e2:ja=stC (some n):=HJA.out.trans (congrArg stC hjn)
      have e3:xj=stC (some e):=hx.out.trans (congrArg stC hse)
      rw [e1,← hva,← e2,← e3] at this
      exact this
     have HVA:Hid (va=_):=hva
     clear hva
     go_wp2_with (first
      | (refine wp_ld rfl _ rfl rfl HP.out j17 ?_)
      | (refine wp_ld rfl _ rfl rfl HX.out x17 ?_)
      | (refine wp_eqS rfl _ _ rfl rfl rfl (heq.out _) ?_))
     go_cut [8] from 9 (fun v8 wd=>v8=.pointer (some ⟨p,0,none⟩)∧Hid (WdIn C π T F w wa xj wd∧wd.heap[p]?=some (.cells va 203)))
     case first =>
      have H1:Hid (WdIn C π T F w wa xj wc.drew):=hp.out.2.1.call (Below.refl _ _).drew
      refine wp_region_held_drew (S:=fun w':World=>WdIn C π T F w wa xj w'∧∃ c:Array Value,c.size=17∧w'.heap[p]?=some (.cells c 203)) (by kernel_rfl) ⟨H1.out,ja,j17,HP.out⟩ (fun hHeld=>?_)
      refine tky 0 rfl (yieldsIf_load_mid (by rfl) _ _ rfl _ _ rfl (xj).toList _ (fun w' h=>range_of h.1.x) Tryz.underlying203 rfl (by rw [infoSt,Array.length_toList,x17])) hHeld ?_
      simp only [Act.put]
      refine tk 2 (.pointer (some ⟨w.heap.size,0,none⟩)) rfl (fun w' h=>by go_simp) hHeld ?_
      simp only [Act.put]
      refine tk 3 (.iface 128 C.dv) rfl (fun w' h=>by have d0:=cell_of h.1.o 0 hw0; go_simp) hHeld ?_
      simp only [Act.put]
      refine tk 4 (.iface 128 C.dv) rfl (fun w' h=>by go_simp) hHeld ?_
      simp only [Act.put]
      refine tk 5 (.func (Fn.method "Widen") #[.iface 128 C.dv] #[]) rfl (fun w' h=>by go_simp) hHeld ?_
      simp only [Act.put]
      refine rd1 1 fun K hK=>?_
      simp only [gsb,gsa,Array.toArray_toList]
      rw [if_pos (by rfl)]
      refine rd_st _ rfl rfl (range_of HP.out) j17 ?_
      simp only [Act.put]
      refine hK.out _ _ hHeld (fun hHeld=>?_)
      clear hK K
      refine rd1 6 fun K hK=>?_
      simp only [gsb,gsa]
      go_simp
      refine (HW.out _ hHeld.1).mono ?_
      rintro r w1 ⟨rfl,b1⟩
      go_wp2_with fail
      have hz:w1.heap[p]?=some (.cells ja 203):=(b1.block _ (heap_lt HP.out)).trans HP.out
      have hh:=hHeld.1.call b1
      refine hK.out _ _ ⟨hh,ja,j17,hz⟩ (fun _=>?_)
      clear hK K b1 hHeld
      refine wpAnyH_ready (rs:=[7]) (by kernel_rfl) (by simp) ?_
      refine AllReadyH.cons rfl (fun K hK=>?_) AllReadyH.nil
      rw [if_pos (by rfl)]
      refine wp_store_mid _ _ _ rfl _ _ va rfl rfl (by rw [v17,← j17]; exact there_of hz) (by rw [infoSt,v17]) v1 ?_
      have hz2:=setCells_whole hz (d:=va) (by rw [v17,j17])
      have hh2:=hh.put HA.out HL.out va
      refine hK.out _ _ ⟨hh2,va,v17,hz2⟩ (fun _=>?_)
      clear hK K
      refine wpAnyH_done (by kernel_rfl) ?_ _
      go_wp2_with fail
      go_meet
      case rel=>exact ⟨rfl,hh2,hz2⟩
     case rest =>
      obtain ⟨rfl,hr⟩:=hcut
      have HP2:Hid (_=_):=hr.out.2
      have HX2:Hid (_=_):=hr.out.1.x
      have HQ:Hid (WdIn C π T F w wa va (wc.setCells (w.heap.size + 1) 0 va.toList)):=hr.out.1.turn HA.out va x17 v17
      go_wp2_with (first
       | (refine wp_ld rfl _ rfl rfl HP2.out v17 ?_)
       | (refine wp_st rfl _ _ rfl rfl rfl HX2.out x17 v17 v1 ?_))
      exact ⟨⟨k + 1,f',_,va,by go_num,HQ,HON,HVA⟩,by simp [intOf]; omega⟩
    ·have hdi:¬ ((C.delay:Nat):Int)<((k:Nat):Int):=by omega
     have hstep:Hid (ja=stC (Sp.stepV (Dm π) next C.delay k sj)):=by
      unfold Hid Sp.stepV
      rw [if_neg hdk]
      exact HJA.out
     have HQ:Hid (WdIn C π T F w wa ja (wc.setCells (w.heap.size + 1) 0 ja.toList)):=hp.out.2.1.turn HA.out ja x17 j17
     go_wp2_with (first
      | (refine wp_ld rfl _ rfl rfl HP.out j17 ?_)
      | (refine wp_ld rfl _ rfl rfl HX.out x17 ?_)
      | (refine wp_eqS rfl _ _ rfl rfl rfl (heq.out _) ?_)
      | (refine wp_st rfl _ _ rfl rfl rfl HX.out x17 j17 j1 ?_))
     exact ⟨⟨k + 1,f',_,ja,by go_num,HQ,HON,hstep⟩,by simp [intOf]; omega⟩
end WC
end Go.Proofs.YtiopfihjmkfdmaaGreatDoor
