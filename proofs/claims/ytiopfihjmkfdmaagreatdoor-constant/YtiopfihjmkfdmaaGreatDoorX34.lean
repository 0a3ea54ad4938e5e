import Derived.Test.YtiopfihjmkfdmaaGreatDoorX33
namespace Go.Proofs.YtiopfihjmkfdmaaGreatDoor
namespace WC
open Go.RowKit
set_option maxRecDepth 100000
set_option maxHeartbeats 1000000
def SidesAt (C:Cx) (π:Par) (T:Tab) (F:Fd) (b:Bool) (vl vr:Value) (e:Fin 8→Sp.Cg) (es:List TelT) (o:Option (Sp.Cg × Sp.Cg)):Prop :=
 ∀ W,AnAt C π T F W→Calls Tryz.prog 218 #[.agg (wk C b),vl,vr,.agg (stC (some e))] W (SidesPost C π T F b W es o)
structure BinAt (wa:Array Value) (c0 c1 c2 c3:Value) (x y:Sp.Cg) (k n:Nat) (W:World):Prop where
 o:W.heap[k]?=some (.cells wa 200)
 c:W.heap[k + 1]?=some (.cells #[c0,c1,c2,c3] 334)
 z:W.heap[k + 1 + 1 + 1]?=some (.cells #[.int .i64 0,.int .i64 0] 126)
 x:W.heap[n]?=some (.cells #[.int .i64 ((x.m:Nat):Int),.int .i64 x.r] 126)
 y:W.heap[n + 1]?=some (.cells #[.int .i64 ((y.m:Nat):Int),.int .i64 y.r] 126)
theorem BinAt.call {wa:Array Value} {c0 c1 c2 c3:Value} {x y:Sp.Cg} {k n:Nat} {W W':World} (h:BinAt wa c0 c1 c2 c3 x y k n W) (b:Below W.heap.size W W'):BinAt wa c0 c1 c2 c3 x y k n W' :=
 ⟨(b.block _ (heap_lt h.o)).trans h.o,(b.block _ (heap_lt h.c)).trans h.c,(b.block _ (heap_lt h.z)).trans h.z,(b.block _ (heap_lt h.x)).trans h.x,(b.block _ (heap_lt h.y)).trans h.y⟩
theorem BinAt.keep {wa:Array Value} {c0 c1 c2 c3:Value} {x y:Sp.Cg} {n:Nat} {C:Cx} {π:Par} {T:Tab} {F:Fd} {w W W':World} (h:BinAt wa c0 c1 c2 c3 x y w.heap.size n W) (h0:AnAt C π T F w) (b:AKeep C W W') (h1:w.heap.size≤w.heap.size + 1) (h3:w.heap.size≤w.heap.size + 1 + 1 + 1) (hn:w.heap.size≤n) (hn1:w.heap.size≤n + 1):BinAt wa c0 c1 c2 c3 x y w.heap.size n W' :=
 ⟨b.mine h0 (Nat.le_refl _) h.o,b.mine h0 h1 h.c,b.mine h0 h3 h.z,b.mine h0 hn h.x,b.mine h0 hn1 h.y⟩
theorem binary_no (k:Nat) (q:Int) (tl:TypeId) (ul:Value) (tr:TypeId) (ur:Value) (C:Cx) (π:Par) (T:Tab) (F:Fd) (b:Bool) (w:World) (e:Fin 8→Sp.Cg) (es:List TelT) (h:AnAt C π T F w)
  (hs:SidesAt C π T F b (.iface tl ul) (.iface tr ur) e es none) :
  Calls Tryz.prog 217 #[.agg (wk C b),.agg #[.int .i64 (k:Nat),.int .i64 q,.iface tl ul,.iface tr ur],.agg (stC (some e))] w (SumPost C π T F b w es none):=by
 obtain ⟨k0,k1,k2,k3,kb⟩:=laid4b (w:=w) (o1:=.cells (wk C b) 200) (o2:=.cells #[.int .i64 (k:Nat),.int .i64 q,.iface tl ul,.iface tr ur] 334) (o3:=.cells (stC (some e)) 203) (o4:=.cells #[.int .i64 0,.int .i64 0] 126) (Below.refl _ _)
 have HW:=hs _ (h.call kb)
 have hws:=wk_size C b
 have hx17:=stC_size (some e)
 generalize wk C b=wa at *
 generalize stC (some e)=xa at *
 have K0:Hid (_=_):=k0
 have K2:Hid (_=_):=k2
 have K3:Hid (_=_):=k3
 have c2:=cell_of k1 2 (v:=.iface tl ul) rfl
 have c3:=cell_of k1 3 (v:=.iface tr ur) rfl
 have HB:Hid (Below w.heap.size w _):=kb
 have HA:Hid (AnAt C π T F w):=h
 have hle3:w.heap.size≤w.heap.size + 1 + 1 + 1:=by omega
 clear h k0 k1 k2 k3 kb hs
 go_enter Tryz.func217,Tryz.ntmps217
 go_wp2_with (first
  | (refine wp_ldW rfl _ rfl rfl K0.out hws ?_)
  | (refine wp_ld rfl _ rfl rfl K2.out hx17 ?_))
 refine HW.mono ?_
 rintro r w1 ⟨⟨i1,i2,i3,i4,rfl⟩,a1,b1⟩
 obtain ⟨_,_,n2⟩:=laid2b (w:=w1) (o1:=.cells #[.int .i64 i1,.int .i64 i2] 126) (o2:=.cells #[.int .i64 i3,.int .i64 i4] 126) (Below.refl _ _)
 have hsz:w.heap.size≤w1.heap.size:=Nat.le_trans HB.out.size b1.below.size
 have hz1:=(n2.block _ (heap_lt (b1.mine HA.out hle3 K3.out))).trans (b1.mine HA.out hle3 K3.out)
 obtain ⟨m0,m1,mf0,mf1,_⟩:=res2 hz1
 have H2:Hid (_=_):=two_set hz1 (.int .i64 0) (.int .i64 0)
 have HB2:Hid (Below w.heap.size w1 _):=Below.two (n2.mono hsz) hle3 (.int .i64 0) (.int .i64 0)
 have HA1:Hid (AnAt C π T (told π b F es) w1):=a1
 have HK1:Hid (AKeep C w w1):=(AKeep.of_below HB.out HA.out.le).trans b1
 clear a1 b1 HW hz1 n2
 go_wp2_with fail
 have Q0:=cell_of H2.out 0 (v:=.int .i64 0) rfl
 have Q1:=cell_of H2.out 1 (v:=.int .i64 0) rfl
 refine bodyPost_ret (v:=.tuple #[.agg #[.int .i64 0,.int .i64 0],.bool false]) (by simp [results,Tryz.results217,go_sem,Q0,Q1]) rfl ?_
 exact ⟨rfl,HA.out.upon HA1.out HB2.out,AKeep.upon HA.out HK1.out HB2.out⟩
theorem binary_plain (k:Nat) (hk:k<5) (hk3:¬ 3≤k) (q:Int) (tl:TypeId) (ul:Value) (tr:TypeId) (ur:Value) (C:Cx) (π:Par) (T:Tab) (F:Fd) (b:Bool) (w:World) (e:Fin 8→Sp.Cg) (es:List TelT) (x y:Sp.Cg) (hx:Wv x) (hy:Wv y) (h:AnAt C π T F w)
  (hs:SidesAt C π T F b (.iface tl ul) (.iface tr ur) e es (some (x,y))) :
  Calls Tryz.prog 217 #[.agg (wk C b),.agg #[.int .i64 (k:Nat),.int .i64 q,.iface tl ul,.iface tr ur],.agg (stC (some e))] w (SumPost C π T F b w es (vWork k x y)):=by
 obtain ⟨k0,k1,k2,k3,kb⟩:=laid4b (w:=w) (o1:=.cells (wk C b) 200) (o2:=.cells #[.int .i64 (k:Nat),.int .i64 q,.iface tl ul,.iface tr ur] 334) (o3:=.cells (stC (some e)) 203) (o4:=.cells #[.int .i64 0,.int .i64 0] 126) (Below.refl _ _)
 have HW:=hs _ (h.call kb)
 have hw0:=wk_zero C b
 have hws:=wk_size C b
 have hx17:=stC_size (some e)
 generalize wk C b=wa at *
 generalize stC (some e)=xa at *
 have K0:Hid (_=_):=k0
 have K1:Hid (_=_):=k1
 have K2:Hid (_=_):=k2
 have K3:Hid (_=_):=k3
 have c2:=cell_of k1 2 (v:=.iface tl ul) rfl
 have c3:=cell_of k1 3 (v:=.iface tr ur) rfl
 have HB:Hid (Below w.heap.size w _):=kb
 have HA:Hid (AnAt C π T F w):=h
 have hle1:w.heap.size≤w.heap.size + 1:=by omega
 have hle3:w.heap.size≤w.heap.size + 1 + 1 + 1:=by omega
 clear h k0 k1 k2 k3 kb hs
 go_enter Tryz.func217,Tryz.ntmps217
 go_wp2_with (first
  | (refine wp_ldW rfl _ rfl rfl K0.out hws ?_)
  | (refine wp_ld rfl _ rfl rfl K2.out hx17 ?_))
 refine HW.mono ?_
 rintro r w1 ⟨rfl,a1,b1⟩
 obtain ⟨nx,ny,n2⟩:=laid2b (w:=w1) (o1:=.cells #[.int .i64 ((x.m:Nat):Int),.int .i64 x.r] 126) (o2:=.cells #[.int .i64 ((y.m:Nat):Int),.int .i64 y.r] 126) (Below.refl _ _)
 have hsz:w.heap.size≤w1.heap.size:=Nat.le_trans HB.out.size b1.below.size
 have hz2:=(n2.block _ (heap_lt (b1.mine HA.out hle3 K3.out))).trans (b1.mine HA.out hle3 K3.out)
 have ho2:=(n2.block _ (heap_lt (b1.mine HA.out (Nat.le_refl _) K0.out))).trans (b1.mine HA.out (Nat.le_refl _) K0.out)
 have hb2:=(n2.block _ (heap_lt (b1.mine HA.out hle1 K1.out))).trans (b1.mine HA.out hle1 K1.out)
 have HZ2:Hid (_=_):=hz2
 have HO2:Hid (_=_):=ho2
 have HB2:Hid (_=_):=hb2
 have NX:Hid (_=_):=nx
 have NY:Hid (_=_):=ny
 have N2:Hid (Below w.heap.size w1 _):=n2.mono hsz
 have HA2:Hid (AnAt C π T (told π b F es) _):=HA.out.upon a1 N2.out
 have HK2:Hid (AKeep C w _):=AKeep.upon HA.out ((AKeep.of_below HB.out HA.out.le).trans b1) N2.out
 have e0:=cell_of hb2 0 (v:=.int .i64 (k:Nat)) rfl
 clear a1 b1 HW hz2 ho2 hb2 n2 nx ny
 go_wp2_with fail
 refine (has_site k hk _).mono ?_
 rintro r w' ⟨rfl,rfl⟩
 generalize (w1.alloc (.cells #[.int .i64 ((x.m:Nat):Int),.int .i64 x.r] 126)).alloc (.cells #[.int .i64 ((y.m:Nat):Int),.int .i64 y.r] 126)=w2 at *
 rw [decide_eq_false hk3]
 have HOn:=HO2
 have HBn:=HB2
 have NXn:=NX
 have NYn:=NY
 have HZn:=HZ2
 have HAn:=HA2
 have HKn:=HK2
 have hszn:w.heap.size≤w2.heap.size:=Nat.le_trans hsz N2.out.size
 have d0:=cell_of HOn.out 0 hw0
 have g0:=cell_of HBn.out 0 (v:=.int .i64 (k:Nat)) rfl
 obtain ⟨x0,x1,_,_,_⟩:=res2 NXn.out
 obtain ⟨y0,y1,_,_,_⟩:=res2 NYn.out
 have HD:=dWork HAn.out.does hk hx hy
 cases ho:vWork k x y with
 | none =>
  have HE:Hid (_=_):=ho
  rw [ho] at HD
  clear ho
  go_wp2_with fail
  refine HD.mono ?_
  rintro r w4 ⟨rfl,b4⟩
  have h4:=(b4.block _ (heap_lt HZn.out)).trans HZn.out
  obtain ⟨p0,p1,pf0,pf1,_⟩:=res2 h4
  have H5:Hid (_=_):=two_set h4 (.int .i64 0) (.int .i64 0)
  have HB5:Hid (Below w.heap.size w2 _):=Below.two (b4.mono (Nat.le_trans (Nat.le_refl _) hszn)) hle3 (.int .i64 0) (.int .i64 0)
  clear b4 h4 HD
  simp only [opV]
  go_wp2_with fail
  have Q0:=cell_of H5.out 0 (v:=.int .i64 0) rfl
  have Q1:=cell_of H5.out 1 (v:=.int .i64 0) rfl
  refine bodyPost_ret (v:=.tuple #[.agg #[.int .i64 0,.int .i64 0],.bool false]) (by simp [results,Tryz.results217,go_sem,Q0,Q1]) rfl ?_
  exact ⟨by rw [HE.out]; rfl,HA.out.upon HAn.out HB5.out,AKeep.upon HA.out HKn.out HB5.out⟩
 | some z =>
  have HE:Hid (_=_):=ho
  rw [ho] at HD
  clear ho
  go_wp2_with fail
  refine HD.mono ?_
  rintro r w4 ⟨rfl,b4⟩
  have h4:=(b4.block _ (heap_lt HZn.out)).trans HZn.out
  obtain ⟨p0,p1,pf0,pf1,_⟩:=res2 h4
  have H5:Hid (_=_):=two_set h4 (.int .i64 ((z.m:Nat):Int)) (.int .i64 z.r)
  have HB5:Hid (Below w.heap.size w2 _):=Below.two (b4.mono (Nat.le_trans (Nat.le_refl _) hszn)) hle3 (.int .i64 ((z.m:Nat):Int)) (.int .i64 z.r)
  clear b4 h4 HD
  simp only [opV]
  go_wp2_with fail
  have Q0:=cell_of H5.out 0 (v:=.int .i64 ((z.m:Nat):Int)) rfl
  have Q1:=cell_of H5.out 1 (v:=.int .i64 z.r) rfl
  refine bodyPost_ret (v:=.tuple #[.agg #[.int .i64 ((z.m:Nat):Int),.int .i64 z.r],.bool true]) (by simp [results,Tryz.results217,go_sem,Q0,Q1]) rfl ?_
  exact ⟨by rw [HE.out]; rfl,HA.out.upon HAn.out HB5.out,AKeep.upon HA.out HKn.out HB5.out⟩
theorem binary_site (k:Nat) (hk:k<5) (hk3:3≤k) (q:Int) (tl:TypeId) (ul:Value) (tr:TypeId) (ur:Value) (C:Cx) (π:Par) (T:Tab) (F:Fd) (b:Bool) (w:World) (e:Fin 8→Sp.Cg) (es:List TelT) (x y:Sp.Cg) (hx:Wv x) (hy:Wv y) (h:AnAt C π T F w)
  (hs:SidesAt C π T F b (.iface tl ul) (.iface tr ur) e es (some (x,y))) (hr:Rng b (told π b F es) [.site q (vNought y)]) :
  Calls Tryz.prog 217 #[.agg (wk C b),.agg #[.int .i64 (k:Nat),.int .i64 q,.iface tl ul,.iface tr ur],.agg (stC (some e))] w (SumPost C π T F b w (es ++ [.site q (vNought y)]) (vWork k x y)):=by
 obtain ⟨k0,k1,k2,k3,kb⟩:=laid4b (w:=w) (o1:=.cells (wk C b) 200) (o2:=.cells #[.int .i64 (k:Nat),.int .i64 q,.iface tl ul,.iface tr ur] 334) (o3:=.cells (stC (some e)) 203) (o4:=.cells #[.int .i64 0,.int .i64 0] 126) (Below.refl _ _)
 have HW:=hs _ (h.call kb)
 have hw0:=wk_zero C b
 have hws:=wk_size C b
 have hx17:=stC_size (some e)
 have HSi:Hid (∀ W,AnAt C π T (told π b F es) W→Calls _ _ _ W _):=fun W hW=>site_calls C π T (told π b F es) b W hW q (vNought y) hr
 generalize wk C b=wa at *
 generalize stC (some e)=xa at *
 have K0:Hid (_=_):=k0
 have K1:Hid (_=_):=k1
 have K2:Hid (_=_):=k2
 have K3:Hid (_=_):=k3
 have c2:=cell_of k1 2 (v:=.iface tl ul) rfl
 have c3:=cell_of k1 3 (v:=.iface tr ur) rfl
 have HB:Hid (Below w.heap.size w _):=kb
 have HA:Hid (AnAt C π T F w):=h
 have hle1:w.heap.size≤w.heap.size + 1:=by omega
 have hle3:w.heap.size≤w.heap.size + 1 + 1 + 1:=by omega
 clear h k0 k1 k2 k3 kb hs
 go_enter Tryz.func217,Tryz.ntmps217
 go_wp2_with (first
  | (refine wp_ldW rfl _ rfl rfl K0.out hws ?_)
  | (refine wp_ld rfl _ rfl rfl K2.out hx17 ?_))
 refine HW.mono ?_
 rintro r w1 ⟨rfl,a1,b1⟩
 obtain ⟨nx,ny,n2⟩:=laid2b (w:=w1) (o1:=.cells #[.int .i64 ((x.m:Nat):Int),.int .i64 x.r] 126) (o2:=.cells #[.int .i64 ((y.m:Nat):Int),.int .i64 y.r] 126) (Below.refl _ _)
 have hsz:w.heap.size≤w1.heap.size:=Nat.le_trans HB.out.size b1.below.size
 have hz2:=(n2.block _ (heap_lt (b1.mine HA.out hle3 K3.out))).trans (b1.mine HA.out hle3 K3.out)
 have ho2:=(n2.block _ (heap_lt (b1.mine HA.out (Nat.le_refl _) K0.out))).trans (b1.mine HA.out (Nat.le_refl _) K0.out)
 have hb2:=(n2.block _ (heap_lt (b1.mine HA.out hle1 K1.out))).trans (b1.mine HA.out hle1 K1.out)
 have HZ2:Hid (_=_):=hz2
 have HO2:Hid (_=_):=ho2
 have HB2:Hid (_=_):=hb2
 have NX:Hid (_=_):=nx
 have NY:Hid (_=_):=ny
 have N2:Hid (Below w.heap.size w1 _):=n2.mono hsz
 have HA2:Hid (AnAt C π T (told π b F es) _):=HA.out.upon a1 N2.out
 have HK2:Hid (AKeep C w _):=AKeep.upon HA.out ((AKeep.of_below HB.out HA.out.le).trans b1) N2.out
 have e0:=cell_of hb2 0 (v:=.int .i64 (k:Nat)) rfl
 clear a1 b1 HW hz2 ho2 hb2 n2 nx ny
 go_wp2_with fail
 refine (has_site k hk _).mono ?_
 rintro r w' ⟨rfl,rfl⟩
 generalize (w1.alloc (.cells #[.int .i64 ((x.m:Nat):Int),.int .i64 x.r] 126)).alloc (.cells #[.int .i64 ((y.m:Nat):Int),.int .i64 y.r] 126)=w2 at *
 rw [decide_eq_true hk3]
 have hyk:w.heap.size≤w1.heap.size + 1:=by omega
 have hxk:w.heap.size≤w1.heap.size:=hsz
 have b0:Below w.heap.size w2 w2.drew:=(Below.refl _ _).drew
 have HAd:Hid (AnAt C π T (told π b F es) w2.drew):=HA.out.upon HA2.out b0
 have HKd:Hid (AKeep C w w2.drew):=AKeep.upon HA.out HK2.out b0
 have H0:Hid (BinAt wa (.int .i64 (k:Nat)) (.int .i64 q) (.iface tl ul) (.iface tr ur) x y w.heap.size w1.heap.size w2.drew):=⟨HO2.out,HB2.out,HZ2.out,NX.out,NY.out⟩
 go_wp2_with fail
 refine wp_region_held_drew (S:=fun w':World=>BinAt wa (.int .i64 (k:Nat)) (.int .i64 q) (.iface tl ul) (.iface tr ur) x y w.heap.size w1.heap.size w') (by kernel_rfl) H0.out (fun hHeld=>?_)
 refine tky 0 rfl (yieldsIf_load_mid (by rfl) _ _ rfl _ _ rfl (wa).toList _ (fun w' h=>range_of h.o) Tryz.underlying200 rfl (by rw [infoWk,Array.length_toList,hws])) hHeld ?_
 simp only [Act.put]
 refine tk 1 (.pointer (some ⟨w.heap.size + 1,1,none⟩)) rfl (fun w' h=>by go_simp) hHeld ?_
 simp only [Act.put]
 refine tk 2 (.int .i64 q) rfl (fun w' h=>by have d:=cell_of h.c 1 (v:=.int .i64 q) rfl; go_simp) hHeld ?_
 simp only [Act.put]
 refine tk 3 (.pointer (some ⟨w.heap.size,0,none⟩)) rfl (fun w' h=>by go_simp) hHeld ?_
 simp only [Act.put]
 refine tk 4 (.iface 128 C.dv) rfl (fun w' h=>by have d:=cell_of h.o 0 hw0; go_simp) hHeld ?_
 simp only [Act.put]
 refine tk 5 (.agg #[.int .i64 ((y.m:Nat):Int),.int .i64 y.r]) rfl (fun w' h=>by (have d0:=cell_of h.y 0 (v:=.int .i64 ((y.m:Nat):Int)) rfl); have d1:=cell_of h.y 1 (v:=.int .i64 y.r) rfl; go_simp) hHeld ?_
 simp only [Act.put]
 refine rd1 6 fun K hK=>?_
 simp only [gsb,gsa,Array.toArray_toList]
 go_simp
 refine (dNought HAd.out.does hy).mono ?_
 rintro r w5 ⟨rfl,b5⟩
 go_wp2_with fail
 have HA5:Hid (AnAt C π T (told π b F es) w5):=HAd.out.call b5
 have HK5:Hid (AKeep C w w5):=HKd.out.more b5 HA.out.le
 have hs5:=hHeld.call b5
 refine hK.out _ _ hs5 (fun hHeld=>?_)
 clear hK K hs5 b5
 refine rd1 7 fun K hK=>?_
 simp only [gsb]
 go_simp
 refine (HSi.out _ HA5.out).mono ?_
 rintro r w3 ⟨rfl,a3,b3⟩
 go_wp2_with fail
 have hs3:=hHeld.keep HA.out b3 hle1 hle3 hxk hyk
 have HAn:Hid (AnAt C π T (told π b (told π b F es) [.site q (vNought y)]) w3):=a3
 have HKn:Hid (AKeep C w w3):=HK5.out.trans b3
 have hszn:w.heap.size≤w3.heap.size:=HKn.out.below.size
 have HOn:Hid (_=_):=hs3.o
 have HBn:Hid (_=_):=hs3.c
 have HZn:Hid (_=_):=hs3.z
 have NXn:Hid (_=_):=hs3.x
 have NYn:Hid (_=_):=hs3.y
 refine hK.out _ _ hs3 (fun _=>?_)
 clear hK K hs3 a3 b3
 refine wpAnyH_done (by kernel_rfl) ?_ _
 have d0:=cell_of HOn.out 0 hw0
 have g0:=cell_of HBn.out 0 (v:=.int .i64 (k:Nat)) rfl
 obtain ⟨x0,x1,_,_,_⟩:=res2 NXn.out
 obtain ⟨y0,y1,_,_,_⟩:=res2 NYn.out
 have HD:=dWork HAn.out.does hk hx hy
 cases ho:vWork k x y with
 | none =>
  have HE:Hid (_=_):=ho
  rw [ho] at HD
  clear ho
  go_wp2_with fail
  refine HD.mono ?_
  rintro r w4 ⟨rfl,b4⟩
  have h4:=(b4.block _ (heap_lt HZn.out)).trans HZn.out
  obtain ⟨p0,p1,pf0,pf1,_⟩:=res2 h4
  have H5:Hid (_=_):=two_set h4 (.int .i64 0) (.int .i64 0)
  have HB5:Hid (Below w.heap.size w3 _):=Below.two (b4.mono (Nat.le_trans (Nat.le_refl _) hszn)) hle3 (.int .i64 0) (.int .i64 0)
  clear b4 h4 HD
  simp only [opV]
  go_wp2_with fail
  have Q0:=cell_of H5.out 0 (v:=.int .i64 0) rfl
  have Q1:=cell_of H5.out 1 (v:=.int .i64 0) rfl
  refine bodyPost_ret (v:=.tuple #[.agg #[.int .i64 0,.int .i64 0],.bool false]) (by simp [results,Tryz.results217,go_sem,Q0,Q1]) rfl ?_
  exact ⟨by rw [HE.out]; rfl,by rw [told_append]; exact HA.out.upon HAn.out HB5.out,AKeep.upon HA.out HKn.out HB5.out⟩
 | some z =>
  have HE:Hid (_=_):=ho
  rw [ho] at HD
  clear ho
  go_wp2_with fail
  refine HD.mono ?_
  rintro r w4 ⟨rfl,b4⟩
  have h4:=(b4.block _ (heap_lt HZn.out)).trans HZn.out
  obtain ⟨p0,p1,pf0,pf1,_⟩:=res2 h4
  have H5:Hid (_=_):=two_set h4 (.int .i64 ((z.m:Nat):Int)) (.int .i64 z.r)
  have HB5:Hid (Below w.heap.size w3 _):=Below.two (b4.mono (Nat.le_trans (Nat.le_refl _) hszn)) hle3 (.int .i64 ((z.m:Nat):Int)) (.int .i64 z.r)
  clear b4 h4 HD
  simp only [opV]
  go_wp2_with fail
  have Q0:=cell_of H5.out 0 (v:=.int .i64 ((z.m:Nat):Int)) rfl
  have Q1:=cell_of H5.out 1 (v:=.int .i64 z.r) rfl
  refine bodyPost_ret (v:=.tuple #[.agg #[.int .i64 ((z.m:Nat):Int),.int .i64 z.r],.bool true]) (by simp [results,Tryz.results217,go_sem,Q0,Q1]) rfl ?_
  exact ⟨by rw [HE.out]; rfl,by rw [told_append]; exact HA.out.upon HAn.out HB5.out,AKeep.upon HA.out HKn.out HB5.out⟩
end WC
end Go.Proofs.YtiopfihjmkfdmaaGreatDoor
