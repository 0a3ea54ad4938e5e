import Derived.Test.YtiopfihjmkfdmaaGreatDoorX32
import Derived.Test.YtiopfihjmkfdmaaGreatDoorX34
namespace Go.Proofs.YtiopfihjmkfdmaaGreatDoor
namespace WC
open Go.RowKit
set_option maxRecDepth 100000
set_option maxHeartbeats 4000000
theorem results_st2 {fn:Func} {a b:Tmp} (hres:fn.results=#[.cell a 203,.cell b 203]) (tmps:Array Value) (w:World) {i j:Nat} {c d:Array Value} (ht:tmps.getD a undef=.pointer (some ⟨i,0,none⟩)) (hu:tmps.getD b undef=.pointer (some ⟨j,0,none⟩)) (h:w.heap[i]?=some (.cells c 203)) (hc:c.size=17) (k:w.heap[j]?=some (.cells d 203)) (hd:d.size=17) :
  (results fn tmps).run Tryz.prog w=.ok (.tuple #[.agg c,.agg d]) w:=by
 have hl:=loadV_st h hc
 have hl2:=loadV_st k hd
 have ht':tmps[a]?.getD undef=.pointer (some ⟨i,0,none⟩):=by rw [← ht]; simp
 have hu':tmps[b]?.getD undef=.pointer (some ⟨j,0,none⟩):=by rw [← hu]; simp
 unfold results
 rw [hres]
 simp [asAddr,ht',hu',hl,hl2]
def CondPost (C:Cx) (π:Par) (T:Tab) (F:Fd) (b:Bool) (w:World) (es:List TelT) (s1 s2:ST) (r:Ending) (w':World):Prop :=
 r=.returned (.tuple #[.agg (stC s1),.agg (stC s2)])∧AnAt C π T (told π b F es) w'∧AKeep C w w'
structure TwoAt (na:Array Value) (k B:Nat) (w W:World):Prop where
 p:W.heap[k]?=some (.cells na 203)
 q:W.heap[k + 1]?=some (.cells na 203)
 b:Below B w W
theorem laid5 (w:World) (o1 o2 o3 o4 o5:Obj) :
  (((((w.alloc o1).alloc o2).alloc o3).alloc o4).alloc o5).heap[w.heap.size]?=some o1∧(((((w.alloc o1).alloc o2).alloc o3).alloc o4).alloc o5).heap[w.heap.size + 1]?=some o2∧(((((w.alloc o1).alloc o2).alloc o3).alloc o4).alloc o5).heap[w.heap.size + 1 + 1]?=some o3∧(((((w.alloc o1).alloc o2).alloc o3).alloc o4).alloc o5).heap[w.heap.size + 1 + 1 + 1]?=some o4∧(((((w.alloc o1).alloc o2).alloc o3).alloc o4).alloc o5).heap[w.heap.size + 1 + 1 + 1 + 1]?=some o5∧Below w.heap.size w (((((w.alloc o1).alloc o2).alloc o3).alloc o4).alloc o5):=by
 obtain ⟨k0,k1,k2,k3,kb⟩:=laid4b (w:=w) (o1:=o1) (o2:=o2) (o3:=o3) (o4:=o4) (Below.refl _ _)
 refine ⟨heap_alloc_old k0,heap_alloc_old k1,heap_alloc_old k2,heap_alloc_old k3,?_,kb.alloc kb.size _⟩
 rw [show w.heap.size + 1 + 1 + 1 + 1=((((w.alloc o1).alloc o2).alloc o3).alloc o4).heap.size by simp]
 exact heap_alloc_new _ _
theorem cond_none (k:Nat) (vl vr:Value) (C:Cx) (π:Par) (T:Tab) (F:Fd) (b:Bool) (w:World) (h:AnAt C π T F w) :
  Calls Tryz.prog 194 #[.agg (wk C b),.agg #[.int .i64 (k:Nat),vl,vr],.agg (stC none)] w (CondPost C π T F b w [] none none):=by
 have z0:∀ h:0<(stC none).size,(stC none)[0]=.bool false:=fun h=>stC_zero none h
 have x17:=stC_size none
 obtain ⟨na,hna⟩:∃ na,na=noneI:=⟨_,rfl⟩
 have n17:na.size=17:=by rw [hna]; rfl
 have n1:na.all (·.oneCell')=true:=by rw [hna]; exact stC_one none
 have HNA:Hid (na=noneI):=hna
 generalize wk C b=wa at *
 generalize stC none=xa at *
 have H0:Hid (TwoAt na (w.heap.size + 1 + 1 + 1) w.heap.size w (((((w.alloc (.cells wa 200)).alloc (.cells #[.int .i64 (k:Nat),vl,vr] 285)).alloc (.cells xa 203)).alloc (.cells #[.bool false,.int .i64 0,.int .i64 0,.int .i64 0,.int .i64 0,.int .i64 0,.int .i64 0,.int .i64 0,.int .i64 0,.int .i64 0,.int .i64 0,.int .i64 0,.int .i64 0,.int .i64 0,.int .i64 0,.int .i64 0,.int .i64 0] 203)).alloc (.cells #[.bool false,.int .i64 0,.int .i64 0,.int .i64 0,.int .i64 0,.int .i64 0,.int .i64 0,.int .i64 0,.int .i64 0,.int .i64 0,.int .i64 0,.int .i64 0,.int .i64 0,.int .i64 0,.int .i64 0,.int .i64 0,.int .i64 0] 203)).drew):=by
  obtain ⟨_,_,_,hp,hq,kb⟩:=laid5 w (.cells wa 200) (.cells #[.int .i64 (k:Nat),vl,vr] 285) (.cells xa 203) (.cells #[.bool false,.int .i64 0,.int .i64 0,.int .i64 0,.int .i64 0,.int .i64 0,.int .i64 0,.int .i64 0,.int .i64 0,.int .i64 0,.int .i64 0,.int .i64 0,.int .i64 0,.int .i64 0,.int .i64 0,.int .i64 0,.int .i64 0] 203) (.cells #[.bool false,.int .i64 0,.int .i64 0,.int .i64 0,.int .i64 0,.int .i64 0,.int .i64 0,.int .i64 0,.int .i64 0,.int .i64 0,.int .i64 0,.int .i64 0,.int .i64 0,.int .i64 0,.int .i64 0,.int .i64 0,.int .i64 0] 203)
  rw [hna]
  exact ⟨hp,hq,kb.drew⟩
 have HA:Hid (AnAt C π T F w):=h
 clear h hna
 go_enter Tryz.func194,Tryz.ntmps194
 go_wp2_with fail
 generalize ((((w.alloc (.cells wa 200)).alloc (.cells #[.int .i64 (k:Nat),vl,vr] 285)).alloc (.cells xa 203)).alloc (.cells #[.bool false,.int .i64 0,.int .i64 0,.int .i64 0,.int .i64 0,.int .i64 0,.int .i64 0,.int .i64 0,.int .i64 0,.int .i64 0,.int .i64 0,.int .i64 0,.int .i64 0,.int .i64 0,.int .i64 0,.int .i64 0,.int .i64 0] 203)).alloc (.cells #[.bool false,.int .i64 0,.int .i64 0,.int .i64 0,.int .i64 0,.int .i64 0,.int .i64 0,.int .i64 0,.int .i64 0,.int .i64 0,.int .i64 0,.int .i64 0,.int .i64 0,.int .i64 0,.int .i64 0,.int .i64 0,.int .i64 0] 203)=W at *
 refine wp_region_held_drew (S:=fun w':World=>TwoAt na (w.heap.size + 1 + 1 + 1) w.heap.size w w') (by kernel_rfl) H0.out (fun hHeld=>?_)
 refine tky 0 rfl (yieldsIf_load_mid (by rfl) _ _ rfl _ _ rfl (na).toList _ (fun w' h=>range_of h.p) Tryz.underlying203 rfl (by rw [infoSt,Array.length_toList,n17])) hHeld ?_
 simp only [Act.put]
 refine tky 1 rfl (yieldsIf_load_mid (by rfl) _ _ rfl _ _ rfl (na).toList _ (fun w' h=>range_of h.q) Tryz.underlying203 rfl (by rw [infoSt,Array.length_toList,n17])) hHeld ?_
 simp only [Act.put]
 refine rd1 2 fun K hK=>?_
 simp only [gsb,gsa,Array.toArray_toList]
 rw [if_pos (by rfl)]
 refine wr_st _ _ rfl rfl rfl (by rw [← n17]; exact there_of hHeld.p) n17 n1 ?_
 have hs2:TwoAt na (w.heap.size + 1 + 1 + 1) w.heap.size w _:=⟨setCells_whole hHeld.p (d:=na) rfl,(setCells_other na.toList 0 _ (w.heap.size + 1 + 1 + 1 + 1) (by omega)).trans hHeld.q,setCells_below (b:=w.heap.size + 1 + 1 + 1) (by omega) na.toList 0 w _ hHeld.b⟩
 refine hK.out _ _ hs2 (fun hHeld=>?_)
 clear hK K hs2
 refine rd1 3 fun K hK=>?_
 simp only [gsb]
 rw [if_pos (by rfl)]
 refine wr_st _ _ rfl rfl rfl (by rw [← n17]; exact there_of hHeld.q) n17 n1 ?_
 have hs3:TwoAt na (w.heap.size + 1 + 1 + 1) w.heap.size w _:=⟨(setCells_other na.toList 0 _ (w.heap.size + 1 + 1 + 1) (by omega)).trans hHeld.p,setCells_whole hHeld.q (d:=na) rfl,setCells_below (b:=w.heap.size + 1 + 1 + 1 + 1) (by omega) na.toList 0 w _ hHeld.b⟩
 have HS3:Hid (_):=hs3
 refine hK.out _ _ hs3 (fun hHeld=>?_)
 clear hK K hs3 hHeld
 refine wpAnyH_done (by kernel_rfl) ?_ _
 go_wp2_with fail
 refine bodyPost_ret (results_st2 Tryz.results194 _ _ rfl rfl HS3.out.p n17 HS3.out.q n17) rfl ?_
 exact ⟨by rw [HNA.out]; rfl,by rw [told_nil]; exact HA.out.call HS3.out.b,AKeep.of_below HS3.out.b HA.out.le⟩
theorem cond_no (k:Nat) (tl:TypeId) (ul:Value) (tr:TypeId) (ur:Value) (C:Cx) (π:Par) (T:Tab) (F:Fd) (b:Bool) (w:World) (e:Fin 8→Sp.Cg) (es:List TelT) (h:AnAt C π T F w)
  (hs:SidesAt C π T F b (.iface tl ul) (.iface tr ur) e es none) :
  Calls Tryz.prog 194 #[.agg (wk C b),.agg #[.int .i64 (k:Nat),.iface tl ul,.iface tr ur],.agg (stC (some e))] w (CondPost C π T F b w es none none):=by
 have z0:∀ h:0<(stC (some e)).size,(stC (some e))[0]=.bool true:=fun h=>stC_zero (some e) h
 have hx17:=stC_size (some e)
 have hw0:=wk_zero C b
 have hws:=wk_size C b
 obtain ⟨na,hna⟩:∃ na,na=noneI:=⟨_,rfl⟩
 have n17:na.size=17:=by rw [hna]; rfl
 have n1:na.all (·.oneCell')=true:=by rw [hna]; exact stC_one none
 have HNA:Hid (na=noneI):=hna
 obtain ⟨k0,k1,k2,k3,k4,kb⟩:=laid5 w (.cells (wk C b) 200) (.cells #[.int .i64 (k:Nat),.iface tl ul,.iface tr ur] 285) (.cells (stC (some e)) 203) (.cells #[.bool false,.int .i64 0,.int .i64 0,.int .i64 0,.int .i64 0,.int .i64 0,.int .i64 0,.int .i64 0,.int .i64 0,.int .i64 0,.int .i64 0,.int .i64 0,.int .i64 0,.int .i64 0,.int .i64 0,.int .i64 0,.int .i64 0] 203) (.cells #[.bool false,.int .i64 0,.int .i64 0,.int .i64 0,.int .i64 0,.int .i64 0,.int .i64 0,.int .i64 0,.int .i64 0,.int .i64 0,.int .i64 0,.int .i64 0,.int .i64 0,.int .i64 0,.int .i64 0,.int .i64 0,.int .i64 0] 203)
 have HW:=hs _ (h.call kb)
 generalize wk C b=wa at *
 generalize stC (some e)=xa at *
 have K0:Hid (_=_):=k0
 have K1:Hid (_=_):=k1
 have K2:Hid (_=_):=k2
 have K3:Hid (_=_):=k3
 have K4:Hid (_=_):=k4
 have c1:=cell_of k1 1 (v:=.iface tl ul) rfl
 have c2:=cell_of k1 2 (v:=.iface tr ur) rfl
 have HB:Hid (Below w.heap.size w _):=kb
 have HA:Hid (AnAt C π T F w):=h
 have l1:w.heap.size≤w.heap.size + 1:=by omega
 have l2:w.heap.size≤w.heap.size + 1 + 1:=by omega
 have l3:w.heap.size≤w.heap.size + 1 + 1 + 1:=by omega
 have l4:w.heap.size≤w.heap.size + 1 + 1 + 1 + 1:=by omega
 clear h hs k0 k1 k2 k3 k4 kb hna
 go_enter Tryz.func194,Tryz.ntmps194
 go_wp2_with (first
  | (refine wp_ldW rfl _ rfl rfl K0.out hws ?_)
  | (refine wp_ld rfl _ rfl rfl K2.out hx17 ?_))
 refine HW.mono ?_
 rintro r w1 ⟨⟨i1,i2,i3,i4,rfl⟩,a1,b1⟩
 obtain ⟨_,_,n2⟩:=laid2b (w:=w1) (o1:=.cells #[.int .i64 i1,.int .i64 i2] 126) (o2:=.cells #[.int .i64 i3,.int .i64 i4] 126) (Below.refl _ _)
 have hsz:w.heap.size≤w1.heap.size:=Nat.le_trans HB.out.size b1.below.size
 have H0:Hid (TwoAt na (w.heap.size + 1 + 1 + 1) w.heap.size w1 ((w1.alloc (.cells #[.int .i64 i1,.int .i64 i2] 126)).alloc (.cells #[.int .i64 i3,.int .i64 i4] 126)).drew):=by
  rw [HNA.out]
  exact ⟨(n2.block _ (heap_lt (b1.mine HA.out l3 K3.out))).trans (b1.mine HA.out l3 K3.out),(n2.block _ (heap_lt (b1.mine HA.out l4 K4.out))).trans (b1.mine HA.out l4 K4.out),(n2.mono hsz).drew⟩
 have HA1:Hid (AnAt C π T (told π b F es) w1):=a1
 have HK1:Hid (AKeep C w w1):=(AKeep.of_below HB.out HA.out.le).trans b1
 clear a1 b1 n2 HW
 go_wp2_with fail
 generalize (w1.alloc (.cells #[.int .i64 i1,.int .i64 i2] 126)).alloc (.cells #[.int .i64 i3,.int .i64 i4] 126)=W at *
 refine wp_region_held_drew (S:=fun w':World=>TwoAt na (w.heap.size + 1 + 1 + 1) w.heap.size w1 w') (by kernel_rfl) H0.out (fun hHeld=>?_)
 refine tky 0 rfl (yieldsIf_load_mid (by rfl) _ _ rfl _ _ rfl (na).toList _ (fun w' h=>range_of h.p) Tryz.underlying203 rfl (by rw [infoSt,Array.length_toList,n17])) hHeld ?_
 simp only [Act.put]
 refine tky 1 rfl (yieldsIf_load_mid (by rfl) _ _ rfl _ _ rfl (na).toList _ (fun w' h=>range_of h.q) Tryz.underlying203 rfl (by rw [infoSt,Array.length_toList,n17])) hHeld ?_
 simp only [Act.put]
 refine rd1 2 fun K hK=>?_
 simp only [gsb,gsa,Array.toArray_toList]
 rw [if_pos (by rfl)]
 refine wr_st _ _ rfl rfl rfl (by rw [← n17]; exact there_of hHeld.p) n17 n1 ?_
 have hs2:TwoAt na (w.heap.size + 1 + 1 + 1) w.heap.size w1 _:=⟨setCells_whole hHeld.p (d:=na) rfl,(setCells_other na.toList 0 _ (w.heap.size + 1 + 1 + 1 + 1) (by omega)).trans hHeld.q,setCells_below (b:=w.heap.size + 1 + 1 + 1) (by omega) na.toList 0 w1 _ hHeld.b⟩
 refine hK.out _ _ hs2 (fun hHeld=>?_)
 clear hK K hs2
 refine rd1 3 fun K hK=>?_
 simp only [gsb]
 rw [if_pos (by rfl)]
 refine wr_st _ _ rfl rfl rfl (by rw [← n17]; exact there_of hHeld.q) n17 n1 ?_
 have hs3:TwoAt na (w.heap.size + 1 + 1 + 1) w.heap.size w1 _:=⟨(setCells_other na.toList 0 _ (w.heap.size + 1 + 1 + 1) (by omega)).trans hHeld.p,setCells_whole hHeld.q (d:=na) rfl,setCells_below (b:=w.heap.size + 1 + 1 + 1 + 1) (by omega) na.toList 0 w1 _ hHeld.b⟩
 have HS3:Hid (_):=hs3
 refine hK.out _ _ hs3 (fun hHeld=>?_)
 clear hK K hs3 hHeld
 refine wpAnyH_done (by kernel_rfl) ?_ _
 go_wp2_with fail
 refine bodyPost_ret (results_st2 Tryz.results194 _ _ rfl rfl HS3.out.p n17 HS3.out.q n17) rfl ?_
 exact ⟨by rw [HNA.out]; rfl,HA.out.upon HA1.out HS3.out.b,AKeep.upon HA.out HK1.out HS3.out.b⟩
theorem cond_yes (k:Nat) (hk:k<6) (tl:TypeId) (ul:Value) (tr:TypeId) (ur:Value) (x y:Sp.Sm) (hl:SideIs (.iface tl ul) x) (hy:SideIs (.iface tr ur) y) (a c:Sp.Cg) (ha:Wv a) (hc:Wv c) (C:Cx) (π:Par) (T:Tab) (F:Fd) (b:Bool) (w:World) (e:Fin 8→Sp.Cg) (he:∀ j,Wv (e j)) (es:List TelT) (h:AnAt C π T F w)
  (hs:SidesAt C π T F b (.iface tl ul) (.iface tr ur) e es (some (a,c))) (s1 s2:ST) (h1:Sp.behindV (Dm π) k x y a c e=s1) (h2:Sp.behindV (Dm π) (Sp.opp k) x y a c e=s2) :
  Calls Tryz.prog 194 #[.agg (wk C b),.agg #[.int .i64 (k:Nat),.iface tl ul,.iface tr ur],.agg (stC (some e))] w (CondPost C π T F b w es s1 s2):=by
 have z0:∀ h:0<(stC (some e)).size,(stC (some e))[0]=.bool true:=fun h=>stC_zero (some e) h
 have hx17:=stC_size (some e)
 have hw0:=wk_zero C b
 have hws:=wk_size C b
 obtain ⟨na,hna⟩:∃ na,na=noneI:=⟨_,rfl⟩
 have n17:na.size=17:=by rw [hna]; rfl
 have n1:na.all (·.oneCell')=true:=by rw [hna]; exact stC_one none
 have HNA:Hid (na=noneI):=hna
 obtain ⟨k0,k1,k2,k3,k4,kb⟩:=laid5 w (.cells (wk C b) 200) (.cells #[.int .i64 (k:Nat),.iface tl ul,.iface tr ur] 285) (.cells (stC (some e)) 203) (.cells #[.bool false,.int .i64 0,.int .i64 0,.int .i64 0,.int .i64 0,.int .i64 0,.int .i64 0,.int .i64 0,.int .i64 0,.int .i64 0,.int .i64 0,.int .i64 0,.int .i64 0,.int .i64 0,.int .i64 0,.int .i64 0,.int .i64 0] 203) (.cells #[.bool false,.int .i64 0,.int .i64 0,.int .i64 0,.int .i64 0,.int .i64 0,.int .i64 0,.int .i64 0,.int .i64 0,.int .i64 0,.int .i64 0,.int .i64 0,.int .i64 0,.int .i64 0,.int .i64 0,.int .i64 0,.int .i64 0] 203)
 have HW:=hs _ (h.call kb)
 have ho6:Sp.opp k<6:=by
  rcases (show k=0∨k=1∨k=2∨k=3∨k=4∨k=5 from by omega) with rfl | rfl | rfl | rfl | rfl | rfl <;> decide
 have HC1:Hid (∀ kl kr W,AnAt C π T (told π b F es) W→CatAt (wk C b) (stC (some e)) (.int .i64 (k:Nat)) (.iface tl ul) (.iface tr ur) a c w.heap.size kl kr (w.heap.size + 1) (w.heap.size + 1 + 1) W→Calls _ _ _ W _):=fun kl kr W hW hcat=>behind_calls (B:=C.base) (π:=π) k hk C.dv (wk C b) hw0 hws (.int .i64 (k:Nat)) tl tr ul ur x y hl hy a c ha hc e he w.heap.size kl kr (w.heap.size + 1) (w.heap.size + 1 + 1) W hW.does hW.turns hW.gsize hcat s1 h1
 have HC2:Hid (∀ kl kr W,AnAt C π T (told π b F es) W→CatAt (wk C b) (stC (some e)) (.int .i64 (k:Nat)) (.iface tl ul) (.iface tr ur) a c w.heap.size kl kr (w.heap.size + 1) (w.heap.size + 1 + 1) W→Calls _ _ _ W _):=fun kl kr W hW hcat=>behind_calls (B:=C.base) (π:=π) (Sp.opp k) ho6 C.dv (wk C b) hw0 hws (.int .i64 (k:Nat)) tl tr ul ur x y hl hy a c ha hc e he w.heap.size kl kr (w.heap.size + 1) (w.heap.size + 1 + 1) W hW.does hW.turns hW.gsize hcat s2 h2
 have a17:=stC_size s1
 have a1o:=stC_one s1
 have b17:=stC_size s2
 have b1o:=stC_one s2
 generalize wk C b=wa at *
 generalize stC (some e)=xa at *
 have K0:Hid (_=_):=k0
 have K1:Hid (_=_):=k1
 have K2:Hid (_=_):=k2
 have K3:Hid (_=_):=k3
 have K4:Hid (_=_):=k4
 have c1:=cell_of k1 1 (v:=.iface tl ul) rfl
 have c2:=cell_of k1 2 (v:=.iface tr ur) rfl
 have HB:Hid (Below w.heap.size w _):=kb
 have HA:Hid (AnAt C π T F w):=h
 have l1:w.heap.size≤w.heap.size + 1:=by omega
 have l2:w.heap.size≤w.heap.size + 1 + 1:=by omega
 have l3:w.heap.size≤w.heap.size + 1 + 1 + 1:=by omega
 have l4:w.heap.size≤w.heap.size + 1 + 1 + 1 + 1:=by omega
 clear h hs k0 k1 k2 k3 k4 kb hna
 go_enter Tryz.func194,Tryz.ntmps194
 go_wp2_with (first
  | (refine wp_ldW rfl _ rfl rfl K0.out hws ?_)
  | (refine wp_ld rfl _ rfl rfl K2.out hx17 ?_))
 refine HW.mono ?_
 rintro r w1 ⟨rfl,a1,b1⟩
 obtain ⟨nl,nr,n2⟩:=laid2b (w:=w1) (o1:=.cells #[.int .i64 ((a.m:Nat):Int),.int .i64 a.r] 126) (o2:=.cells #[.int .i64 ((c.m:Nat):Int),.int .i64 c.r] 126) (Below.refl _ _)
 have hsz:w.heap.size≤w1.heap.size:=Nat.le_trans HB.out.size b1.below.size
 have H0:Hid (CatAt wa xa (.int .i64 (k:Nat)) (.iface tl ul) (.iface tr ur) a c w.heap.size w1.heap.size (w1.heap.size + 1) (w.heap.size + 1) (w.heap.size + 1 + 1) ((w1.alloc (.cells #[.int .i64 ((a.m:Nat):Int),.int .i64 a.r] 126)).alloc (.cells #[.int .i64 ((c.m:Nat):Int),.int .i64 c.r] 126)).drew∧((w1.alloc (.cells #[.int .i64 ((a.m:Nat):Int),.int .i64 a.r] 126)).alloc (.cells #[.int .i64 ((c.m:Nat):Int),.int .i64 c.r] 126)).drew.heap[w.heap.size + 1 + 1 + 1]?=some (.cells #[.bool false,.int .i64 0,.int .i64 0,.int .i64 0,.int .i64 0,.int .i64 0,.int .i64 0,.int .i64 0,.int .i64 0,.int .i64 0,.int .i64 0,.int .i64 0,.int .i64 0,.int .i64 0,.int .i64 0,.int .i64 0,.int .i64 0] 203)∧((w1.alloc (.cells #[.int .i64 ((a.m:Nat):Int),.int .i64 a.r] 126)).alloc (.cells #[.int .i64 ((c.m:Nat):Int),.int .i64 c.r] 126)).drew.heap[w.heap.size + 1 + 1 + 1 + 1]?=some (.cells #[.bool false,.int .i64 0,.int .i64 0,.int .i64 0,.int .i64 0,.int .i64 0,.int .i64 0,.int .i64 0,.int .i64 0,.int .i64 0,.int .i64 0,.int .i64 0,.int .i64 0,.int .i64 0,.int .i64 0,.int .i64 0,.int .i64 0] 203)∧Below w.heap.size w1 ((w1.alloc (.cells #[.int .i64 ((a.m:Nat):Int),.int .i64 a.r] 126)).alloc (.cells #[.int .i64 ((c.m:Nat):Int),.int .i64 c.r] 126)).drew) :=
  ⟨⟨(n2.block _ (heap_lt (b1.mine HA.out (Nat.le_refl _) K0.out))).trans (b1.mine HA.out (Nat.le_refl _) K0.out),nl,nr,(n2.block _ (heap_lt (b1.mine HA.out l1 K1.out))).trans (b1.mine HA.out l1 K1.out),(n2.block _ (heap_lt (b1.mine HA.out l2 K2.out))).trans (b1.mine HA.out l2 K2.out)⟩,
   (n2.block _ (heap_lt (b1.mine HA.out l3 K3.out))).trans (b1.mine HA.out l3 K3.out),(n2.block _ (heap_lt (b1.mine HA.out l4 K4.out))).trans (b1.mine HA.out l4 K4.out),(n2.mono hsz).drew⟩
 have hk34:w.heap.size + 1 + 1 + 1 + 1<w1.heap.size:=Nat.lt_of_lt_of_le (heap_lt K4.out) b1.below.size
 have HA1:Hid (AnAt C π T (told π b F es) w1):=a1
 have HK1:Hid (AKeep C w w1):=(AKeep.of_below HB.out HA.out.le).trans b1
 clear a1 b1 n2 HW nl nr
 go_wp2_with fail
 generalize (w1.alloc (.cells #[.int .i64 ((a.m:Nat):Int),.int .i64 a.r] 126)).alloc (.cells #[.int .i64 ((c.m:Nat):Int),.int .i64 c.r] 126)=W at *
 refine wp_region_held_drew (S:=fun w':World=>CatAt wa xa (.int .i64 (k:Nat)) (.iface tl ul) (.iface tr ur) a c w.heap.size w1.heap.size (w1.heap.size + 1) (w.heap.size + 1) (w.heap.size + 1 + 1) w'∧(∃ d,d.size=17∧w'.heap[w.heap.size + 1 + 1 + 1]?=some (.cells d 203))∧(∃ d,d.size=17∧w'.heap[w.heap.size + 1 + 1 + 1 + 1]?=some (.cells d 203))∧Below w.heap.size w1 w') (by kernel_rfl) ⟨H0.out.1,⟨_,rfl,H0.out.2.1⟩,⟨_,rfl,H0.out.2.2.1⟩,H0.out.2.2.2⟩ (fun hHeld=>?_)
 refine tk 0 (.func (Fn.func 219) #[] #[.pointer (some ⟨w.heap.size,0,none⟩),.pointer (some ⟨w1.heap.size,0,none⟩),.pointer (some ⟨w1.heap.size + 1,0,none⟩),.pointer (some ⟨w.heap.size + 1,0,none⟩),.pointer (some ⟨w.heap.size + 1 + 1,0,none⟩)]) rfl (fun w' h=>by go_simp) hHeld ?_
 simp only [Act.put]
 refine tk 1 (.pointer (some ⟨w.heap.size + 1,0,none⟩)) rfl (fun w' h=>by go_simp) hHeld ?_
 simp only [Act.put]
 refine tk 2 (.int .i64 (k:Nat)) rfl (fun w' h=>by have d:=cell_of h.1.c 0 (v:=.int .i64 (k:Nat)) rfl; go_simp) hHeld ?_
 simp only [Act.put]
 refine tk 4 (.func (Fn.func 219) #[] #[.pointer (some ⟨w.heap.size,0,none⟩),.pointer (some ⟨w1.heap.size,0,none⟩),.pointer (some ⟨w1.heap.size + 1,0,none⟩),.pointer (some ⟨w.heap.size + 1,0,none⟩),.pointer (some ⟨w.heap.size + 1 + 1,0,none⟩)]) rfl (fun w' h=>by go_simp) hHeld ?_
 simp only [Act.put]
 refine tk 5 (.pointer (some ⟨w.heap.size + 1,0,none⟩)) rfl (fun w' h=>by go_simp) hHeld ?_
 simp only [Act.put]
 refine tk 6 (.int .i64 (k:Nat)) rfl (fun w' h=>by have d:=cell_of h.1.c 0 (v:=.int .i64 (k:Nat)) rfl; go_simp) hHeld ?_
 simp only [Act.put]
 refine rd1 3 fun K hK=>?_
 simp only [gsb,gsa]
 go_simp
 refine (HC1.out _ _ _ (HA.out.upon HA1.out hHeld.2.2.2) hHeld.1).mono ?_
 rintro q w3 ⟨rfl,b3⟩
 go_wp2_with fail
 obtain ⟨c3,hc3,hz3⟩:=hHeld.2.1
 obtain ⟨c4,hc4,hz4⟩:=hHeld.2.2.1
 have hs3:CatAt wa xa (.int .i64 (k:Nat)) (.iface tl ul) (.iface tr ur) a c w.heap.size w1.heap.size (w1.heap.size + 1) (w.heap.size + 1) (w.heap.size + 1 + 1) w3∧(∃ d,d.size=17∧w3.heap[w.heap.size + 1 + 1 + 1]?=some (.cells d 203))∧(∃ d,d.size=17∧w3.heap[w.heap.size + 1 + 1 + 1 + 1]?=some (.cells d 203))∧Below w.heap.size w1 w3:=⟨hHeld.1.call b3,⟨c3,hc3,(b3.block _ (heap_lt hz3)).trans hz3⟩,⟨c4,hc4,(b3.block _ (heap_lt hz4)).trans hz4⟩,hHeld.2.2.2.trans (b3.mono (Nat.le_trans hsz hHeld.2.2.2.size))⟩
 refine hK.out _ _ hs3 (fun hHeld=>?_)
 clear hK K hs3 b3 hz3 hz4
 refine rd1 7 fun K hK=>?_
 simp only [gsb]
 go_simp
 refine (opposite_calls k hk _ (HA.out.upon HA1.out hHeld.2.2.2).turns).mono ?_
 rintro q w4 ⟨rfl,rfl⟩
 go_wp2_with fail
 refine hK.out _ _ hHeld (fun hHeld=>?_)
 clear hK K
 refine rd1 8 fun K hK=>?_
 simp only [gsb]
 go_simp
 refine (HC2.out _ _ _ (HA.out.upon HA1.out hHeld.2.2.2) hHeld.1).mono ?_
 rintro q w5 ⟨rfl,b5⟩
 go_wp2_with fail
 obtain ⟨c5,hc5,hz5⟩:=hHeld.2.1
 obtain ⟨c6,hc6,hz6⟩:=hHeld.2.2.1
 have hz7:=(b5.block _ (heap_lt hz5)).trans hz5
 have hz8:=(b5.block _ (heap_lt hz6)).trans hz6
 have hs5:CatAt wa xa (.int .i64 (k:Nat)) (.iface tl ul) (.iface tr ur) a c w.heap.size w1.heap.size (w1.heap.size + 1) (w.heap.size + 1) (w.heap.size + 1 + 1) w5∧(∃ d,d.size=17∧w5.heap[w.heap.size + 1 + 1 + 1]?=some (.cells d 203))∧(∃ d,d.size=17∧w5.heap[w.heap.size + 1 + 1 + 1 + 1]?=some (.cells d 203))∧Below w.heap.size w1 w5:=⟨hHeld.1.call b5,⟨c5,hc5,hz7⟩,⟨c6,hc6,hz8⟩,hHeld.2.2.2.trans (b5.mono (Nat.le_trans hsz hHeld.2.2.2.size))⟩
 refine hK.out _ _ hs5 (fun hHeld=>?_)
 clear hK K hs5 b5 hz5 hz6
 generalize hu1:stC s1=u1 at *
 generalize hu2:stC s2=u2 at *
 have HU1:Hid (_=u1):=hu1
 have HU2:Hid (_=u2):=hu2
 clear hu1 hu2
 have hne:∀ i,i<w.heap.size + 1 + 1 + 1∨w1.heap.size≤i→i ≠ w.heap.size + 1 + 1 + 1:=fun i hi=>by have:=hk34; omega
 have hne':∀ i,i<w.heap.size + 1 + 1 + 1∨w1.heap.size≤i→i ≠ w.heap.size + 1 + 1 + 1 + 1:=fun i hi=>by have:=hk34; omega
 have hp9:=setCells_whole hz7 (d:=u1) (by omega)
 have hq9:=(setCells_other u1.toList 0 w5 (w.heap.size + 1 + 1 + 1 + 1) (show w.heap.size + 1 + 1 + 1 + 1 ≠ w.heap.size + 1 + 1 + 1 by omega)).trans hz8
 have hb9:=setCells_below (b:=w.heap.size + 1 + 1 + 1) l3 u1.toList 0 w1 _ hHeld.2.2.2
 have hc9:CatAt wa xa (.int .i64 (k:Nat)) (.iface tl ul) (.iface tr ur) a c w.heap.size w1.heap.size (w1.heap.size + 1) (w.heap.size + 1) (w.heap.size + 1 + 1) (w5.setCells (w.heap.size + 1 + 1 + 1) 0 u1.toList) :=
  ⟨(setCells_other _ _ _ _ (hne _ (.inl (by omega)))).trans hHeld.1.o,(setCells_other _ _ _ _ (hne _ (.inr (by omega)))).trans hHeld.1.l,(setCells_other _ _ _ _ (hne _ (.inr (by omega)))).trans hHeld.1.r,(setCells_other _ _ _ _ (hne _ (.inl (by omega)))).trans hHeld.1.c,(setCells_other _ _ _ _ (hne _ (.inl (by omega)))).trans hHeld.1.x⟩
 refine rd1 9 fun K hK=>?_
 simp only [gsb]
 rw [if_pos (by rfl)]
 refine wr_st _ _ rfl rfl rfl (by rw [← hc5]; exact there_of hz7) a17 a1o ?_
 refine hK.out _ _ ⟨hc9,⟨u1,a17,hp9⟩,⟨c6,hc6,hq9⟩,hb9⟩ (fun hHeld=>?_)
 clear hK K
 have hp10:=(setCells_other u2.toList 0 (w5.setCells (w.heap.size + 1 + 1 + 1) 0 u1.toList) (w.heap.size + 1 + 1 + 1) (show w.heap.size + 1 + 1 + 1 ≠ w.heap.size + 1 + 1 + 1 + 1 by omega)).trans hp9
 have hq10:=setCells_whole hq9 (d:=u2) (by omega)
 have hb10:=setCells_below (b:=w.heap.size + 1 + 1 + 1 + 1) l4 u2.toList 0 w1 _ hb9
 have HP:Hid (_=_):=hp10
 have HQ:Hid (_=_):=hq10
 have HBf:Hid (Below w.heap.size w1 _):=hb10
 refine rd1 10 fun K hK=>?_
 simp only [gsb]
 rw [if_pos (by rfl)]
 refine wr_st _ _ rfl rfl rfl (by rw [← hc6]; exact there_of hq9) b17 b1o ?_
 refine hK.out _ _ ⟨⟨(setCells_other _ _ _ _ (hne' _ (.inl (by omega)))).trans hHeld.1.o,(setCells_other _ _ _ _ (hne' _ (.inr (by omega)))).trans hHeld.1.l,(setCells_other _ _ _ _ (hne' _ (.inr (by omega)))).trans hHeld.1.r,(setCells_other _ _ _ _ (hne' _ (.inl (by omega)))).trans hHeld.1.c,(setCells_other _ _ _ _ (hne' _ (.inl (by omega)))).trans hHeld.1.x⟩,⟨u1,a17,HP.out⟩,⟨u2,b17,HQ.out⟩,HBf.out⟩ (fun _=>?_)
 clear hK K hHeld hc9 hp9 hq9 hb9 hp10 hq10 hb10 hz7 hz8
 refine wpAnyH_done (by kernel_rfl) ?_ _
 go_wp2_with fail
 refine bodyPost_ret (results_st2 Tryz.results194 _ _ rfl rfl HP.out a17 HQ.out b17) rfl ?_
 exact ⟨by rw [← HU1.out,← HU2.out],HA.out.upon HA1.out HBf.out,AKeep.upon HA.out HK1.out HBf.out⟩
end WC
end Go.Proofs.YtiopfihjmkfdmaaGreatDoor
namespace Go.Proofs.YtiopfihjmkfdmaaGreatDoor
namespace WC
open Go.RowKit
set_option maxRecDepth 100000
set_option maxHeartbeats 1000000
def CondsAt (C:Cx) (π:Par) (T:Tab) (F:Fd) (b:Bool) (k:Nat) (vl vr:Value) (s:ST) (es:List TelT) (s1 s2:ST):Prop :=
 ∀ W,AnAt C π T F W→Calls Tryz.prog 194 #[.agg (wk C b),.agg #[.int .i64 (k:Nat),vl,vr],.agg (stC s)] W (CondPost C π T F b W es s1 s2)
theorem two_new (w:World) (u1 u2:Array Value) (h1:u1.size=17) (h2:u2.size=17) :
  ((w.alloc (.cells #[.bool false,.int .i64 0,.int .i64 0,.int .i64 0,.int .i64 0,.int .i64 0,.int .i64 0,.int .i64 0,.int .i64 0,.int .i64 0,.int .i64 0,.int .i64 0,.int .i64 0,.int .i64 0,.int .i64 0,.int .i64 0,.int .i64 0] 203)).alloc (.cells #[.bool false,.int .i64 0,.int .i64 0,.int .i64 0,.int .i64 0,.int .i64 0,.int .i64 0,.int .i64 0,.int .i64 0,.int .i64 0,.int .i64 0,.int .i64 0,.int .i64 0,.int .i64 0,.int .i64 0,.int .i64 0,.int .i64 0] 203)).heap[w.heap.size]?=some (.cells #[.bool false,.int .i64 0,.int .i64 0,.int .i64 0,.int .i64 0,.int .i64 0,.int .i64 0,.int .i64 0,.int .i64 0,.int .i64 0,.int .i64 0,.int .i64 0,.int .i64 0,.int .i64 0,.int .i64 0,.int .i64 0,.int .i64 0] 203) ∧
  (((w.alloc (.cells #[.bool false,.int .i64 0,.int .i64 0,.int .i64 0,.int .i64 0,.int .i64 0,.int .i64 0,.int .i64 0,.int .i64 0,.int .i64 0,.int .i64 0,.int .i64 0,.int .i64 0,.int .i64 0,.int .i64 0,.int .i64 0,.int .i64 0] 203)).alloc (.cells #[.bool false,.int .i64 0,.int .i64 0,.int .i64 0,.int .i64 0,.int .i64 0,.int .i64 0,.int .i64 0,.int .i64 0,.int .i64 0,.int .i64 0,.int .i64 0,.int .i64 0,.int .i64 0,.int .i64 0,.int .i64 0,.int .i64 0] 203)).setCells w.heap.size 0 u1.toList).heap[w.heap.size + 1]?=some (.cells #[.bool false,.int .i64 0,.int .i64 0,.int .i64 0,.int .i64 0,.int .i64 0,.int .i64 0,.int .i64 0,.int .i64 0,.int .i64 0,.int .i64 0,.int .i64 0,.int .i64 0,.int .i64 0,.int .i64 0,.int .i64 0,.int .i64 0] 203) ∧
  ((((w.alloc (.cells #[.bool false,.int .i64 0,.int .i64 0,.int .i64 0,.int .i64 0,.int .i64 0,.int .i64 0,.int .i64 0,.int .i64 0,.int .i64 0,.int .i64 0,.int .i64 0,.int .i64 0,.int .i64 0,.int .i64 0,.int .i64 0,.int .i64 0] 203)).alloc (.cells #[.bool false,.int .i64 0,.int .i64 0,.int .i64 0,.int .i64 0,.int .i64 0,.int .i64 0,.int .i64 0,.int .i64 0,.int .i64 0,.int .i64 0,.int .i64 0,.int .i64 0,.int .i64 0,.int .i64 0,.int .i64 0,.int .i64 0] 203)).setCells w.heap.size 0 u1.toList).setCells (w.heap.size + 1) 0 u2.toList).heap[w.heap.size]?=some (.cells u1 203) ∧
  ((((w.alloc (.cells #[.bool false,.int .i64 0,.int .i64 0,.int .i64 0,.int .i64 0,.int .i64 0,.int .i64 0,.int .i64 0,.int .i64 0,.int .i64 0,.int .i64 0,.int .i64 0,.int .i64 0,.int .i64 0,.int .i64 0,.int .i64 0,.int .i64 0] 203)).alloc (.cells #[.bool false,.int .i64 0,.int .i64 0,.int .i64 0,.int .i64 0,.int .i64 0,.int .i64 0,.int .i64 0,.int .i64 0,.int .i64 0,.int .i64 0,.int .i64 0,.int .i64 0,.int .i64 0,.int .i64 0,.int .i64 0,.int .i64 0] 203)).setCells w.heap.size 0 u1.toList).setCells (w.heap.size + 1) 0 u2.toList).heap[w.heap.size + 1]?=some (.cells u2 203) ∧
  Below w.heap.size w ((((w.alloc (.cells #[.bool false,.int .i64 0,.int .i64 0,.int .i64 0,.int .i64 0,.int .i64 0,.int .i64 0,.int .i64 0,.int .i64 0,.int .i64 0,.int .i64 0,.int .i64 0,.int .i64 0,.int .i64 0,.int .i64 0,.int .i64 0,.int .i64 0] 203)).alloc (.cells #[.bool false,.int .i64 0,.int .i64 0,.int .i64 0,.int .i64 0,.int .i64 0,.int .i64 0,.int .i64 0,.int .i64 0,.int .i64 0,.int .i64 0,.int .i64 0,.int .i64 0,.int .i64 0,.int .i64 0,.int .i64 0,.int .i64 0] 203)).setCells w.heap.size 0 u1.toList).setCells (w.heap.size + 1) 0 u2.toList):=by
 obtain ⟨a1,a2,a3⟩:=laid2b (w:=w) (o1:=.cells #[.bool false,.int .i64 0,.int .i64 0,.int .i64 0,.int .i64 0,.int .i64 0,.int .i64 0,.int .i64 0,.int .i64 0,.int .i64 0,.int .i64 0,.int .i64 0,.int .i64 0,.int .i64 0,.int .i64 0,.int .i64 0,.int .i64 0] 203) (o2:=.cells #[.bool false,.int .i64 0,.int .i64 0,.int .i64 0,.int .i64 0,.int .i64 0,.int .i64 0,.int .i64 0,.int .i64 0,.int .i64 0,.int .i64 0,.int .i64 0,.int .i64 0,.int .i64 0,.int .i64 0,.int .i64 0,.int .i64 0] 203) (Below.refl _ _)
 have b1:=setCells_whole a1 (d:=u1) (by rw [h1]; rfl)
 have b2:=(setCells_other u1.toList 0 ((w.alloc (.cells #[.bool false,.int .i64 0,.int .i64 0,.int .i64 0,.int .i64 0,.int .i64 0,.int .i64 0,.int .i64 0,.int .i64 0,.int .i64 0,.int .i64 0,.int .i64 0,.int .i64 0,.int .i64 0,.int .i64 0,.int .i64 0,.int .i64 0] 203)).alloc (.cells #[.bool false,.int .i64 0,.int .i64 0,.int .i64 0,.int .i64 0,.int .i64 0,.int .i64 0,.int .i64 0,.int .i64 0,.int .i64 0,.int .i64 0,.int .i64 0,.int .i64 0,.int .i64 0,.int .i64 0,.int .i64 0,.int .i64 0] 203)) (w.heap.size + 1) (show w.heap.size + 1 ≠ w.heap.size by omega)).trans a2
 exact ⟨a1,b2,(setCells_other u2.toList 0 _ w.heap.size (by omega)).trans b1,setCells_whole b2 (d:=u2) (by rw [h2]; rfl),setCells_below (b:=w.heap.size + 1) (by omega) u2.toList 0 w _ (setCells_below (b:=w.heap.size) (Nat.le_refl _) u1.toList 0 w _ a3)⟩
theorem assert_calls (p q:Int) (k:Nat) (tl:TypeId) (ul:Value) (tr:TypeId) (ur:Value) (C:Cx) (π:Par) (T:Tab) (F:Fd) (b:Bool) (w:World) (e:Fin 8→Sp.Cg) (es:List TelT) (s1 s2:ST) (h:AnAt C π T F w)
  (hs:CondsAt C π T F b k (.iface tl ul) (.iface tr ur) (some e) es s1 s2) (hr:Rng b (told π b F es) [.site q s2.isSome]) :
  Calls Tryz.prog 154 #[.agg (wk C b),.agg #[.int .i64 p,.int .i64 q,.int .i64 (k:Nat),.iface tl ul,.iface tr ur],.agg (stC (some e))] w (Post C π T F b w (es ++ [.site q s2.isSome]) s1):=by
 obtain ⟨k0,k1,k2,k3,kb⟩:=laid4b (w:=w) (o1:=.cells (wk C b) 200) (o2:=.cells #[.int .i64 p,.int .i64 q,.int .i64 (k:Nat),.iface tl ul,.iface tr ur] 287) (o3:=.cells (stC (some e)) 203) (o4:=.cells #[.bool false,.int .i64 0,.int .i64 0,.int .i64 0,.int .i64 0,.int .i64 0,.int .i64 0,.int .i64 0,.int .i64 0,.int .i64 0,.int .i64 0,.int .i64 0,.int .i64 0,.int .i64 0,.int .i64 0,.int .i64 0,.int .i64 0] 203) (Below.refl _ _)
 have HW:=hs _ (h.call kb)
 have HSi:Hid (∀ W,AnAt C π T (told π b F es) W→Calls _ _ _ W _):=fun W hW=>site_calls C π T (told π b F es) b W hW q s2.isSome hr
 have hws:=wk_size C b
 have hx17:=stC_size (some e)
 have a17:=stC_size s1
 have a1o:=stC_one s1
 have b17:=stC_size s2
 have b1o:=stC_one s2
 have z2:(stC s2)[0]?=some (.bool s2.isSome):=by rw [Array.getElem?_eq_getElem (by omega),stC_zero s2]
 unfold CondPost at HW
 generalize wk C b=wa at *
 generalize stC (some e)=xa at *
 generalize s2.isSome=rb at *
 generalize hu1:stC s1=u1 at *
 generalize stC s2=u2 at *
 have HU1:Hid (_=u1):=hu1
 have K0:Hid (_=_):=k0
 have K1:Hid (_=_):=k1
 have K2:Hid (_=_):=k2
 have K3:Hid (_=_):=k3
 have c2:=cell_of k1 2 (v:=.int .i64 (k:Nat)) rfl
 have c3:=cell_of k1 3 (v:=.iface tl ul) rfl
 have c4:=cell_of k1 4 (v:=.iface tr ur) rfl
 have HB:Hid (Below w.heap.size w _):=kb
 have HA:Hid (AnAt C π T F w):=h
 have l1:w.heap.size≤w.heap.size + 1:=by omega
 have l3:w.heap.size≤w.heap.size + 1 + 1 + 1:=by omega
 clear h hs k0 k1 k2 k3 kb hu1 hr
 go_enter Tryz.func154,Tryz.ntmps154
 go_wp2_with (first
  | (refine wp_ldW rfl _ rfl rfl K0.out hws ?_)
  | (refine wp_ld rfl _ rfl rfl K2.out hx17 ?_))
 refine HW.mono ?_
 rintro r w1 ⟨rfl,a1,b1⟩
 have hsz:w.heap.size≤w1.heap.size:=Nat.le_trans HB.out.size b1.below.size
 obtain ⟨t1,t2,t3,t4,tb⟩:=two_new w1 u1 u2 a17 b17
 have HT1:Hid (_=_):=t1
 have HT2:Hid (_=_):=t2
 have HT3:Hid (_=_):=t3
 have ho4:=(tb.block _ (heap_lt (b1.mine HA.out (Nat.le_refl _) K0.out))).trans (b1.mine HA.out (Nat.le_refl _) K0.out)
 have hc4:=(tb.block _ (heap_lt (b1.mine HA.out l1 K1.out))).trans (b1.mine HA.out l1 K1.out)
 have hz4:=(tb.block _ (heap_lt (b1.mine HA.out l3 K3.out))).trans (b1.mine HA.out l3 K3.out)
 have HO4:Hid (_=_):=ho4
 have HZ4:Hid (_=_):=hz4
 have g1:=cell_of hc4 1 (v:=.int .i64 q) rfl
 have g0:=cell_of t4 0 z2
 have HA4:Hid (AnAt C π T (told π b F es) _):=HA.out.upon a1 (tb.mono hsz)
 have HK4:Hid (AKeep C w _):=AKeep.upon HA.out ((AKeep.of_below HB.out HA.out.le).trans b1) (tb.mono hsz)
 clear t1 t2 t3 t4 tb a1 b1 HW ho4 hc4 hz4
 go_wp2_with (first
  | (refine wp_st rfl _ _ rfl rfl (c:=#[.bool false,.int .i64 0,.int .i64 0,.int .i64 0,.int .i64 0,.int .i64 0,.int .i64 0,.int .i64 0,.int .i64 0,.int .i64 0,.int .i64 0,.int .i64 0,.int .i64 0,.int .i64 0,.int .i64 0,.int .i64 0,.int .i64 0]) (d:=u1) rfl (by exact HT1.out) rfl a17 a1o ?_)
  | (refine wp_st rfl _ _ rfl rfl (c:=#[.bool false,.int .i64 0,.int .i64 0,.int .i64 0,.int .i64 0,.int .i64 0,.int .i64 0,.int .i64 0,.int .i64 0,.int .i64 0,.int .i64 0,.int .i64 0,.int .i64 0,.int .i64 0,.int .i64 0,.int .i64 0,.int .i64 0]) (d:=u2) rfl (by exact HT2.out) rfl b17 b1o ?_)
  | (refine wp_ldW rfl _ rfl rfl (c:=wa) (by exact HO4.out) hws ?_))
 generalize ((((w1.alloc (.cells #[.bool false,.int .i64 0,.int .i64 0,.int .i64 0,.int .i64 0,.int .i64 0,.int .i64 0,.int .i64 0,.int .i64 0,.int .i64 0,.int .i64 0,.int .i64 0,.int .i64 0,.int .i64 0,.int .i64 0,.int .i64 0,.int .i64 0] 203)).alloc (.cells #[.bool false,.int .i64 0,.int .i64 0,.int .i64 0,.int .i64 0,.int .i64 0,.int .i64 0,.int .i64 0,.int .i64 0,.int .i64 0,.int .i64 0,.int .i64 0,.int .i64 0,.int .i64 0,.int .i64 0,.int .i64 0,.int .i64 0] 203)).setCells w1.heap.size 0 u1.toList).setCells (w1.heap.size + 1) 0 u2.toList)=w4 at *
 refine (HSi.out _ HA4.out).mono ?_
 rintro r w5 ⟨rfl,a5,b5⟩
 have hx5:=b5.mine HA.out hsz HT3.out
 have hz5:=b5.mine HA.out l3 HZ4.out
 have HX5:Hid (_=_):=hx5
 have HZ5:Hid (_=_):=hz5
 have hr0:Hid (_=_):=setCells_whole hz5 (d:=u1) (by rw [a17]; rfl)
 have HBf:Hid (Below w.heap.size w5 _):=setCells_below (b:=w.heap.size + 1 + 1 + 1) l3 u1.toList 0 w5 _ (Below.refl _ _)
 have HA5:Hid (AnAt C π T (told π b (told π b F es) [.site q rb]) w5):=a5
 have HK5:Hid (AKeep C w w5):=HK4.out.trans b5
 clear a5 b5 hx5 hz5 g0 g1
 go_wp2_with (first
  | (refine wp_ld rfl _ rfl rfl HX5.out a17 ?_)
  | (refine wp_st rfl _ _ rfl rfl rfl HZ5.out rfl a17 a1o ?_))
 refine bodyPost_ret (results_st Tryz.results154 _ _ rfl hr0.out a17) rfl ⟨by rw [HU1.out],by rw [told_append]; exact HA.out.upon HA5.out HBf.out,AKeep.upon HA.out HK5.out HBf.out⟩
end WC
end Go.Proofs.YtiopfihjmkfdmaaGreatDoor
