import Derived.Test.YtiopfihjmkfdmaaGreatDoorX31
namespace Go.Proofs.YtiopfihjmkfdmaaGreatDoor
namespace WC
open Go.RowKit
set_option maxRecDepth 100000
set_option maxHeartbeats 1000000
def SumsAt (C:Cx) (π:Par) (T:Tab) (F:Fd) (b:Bool) (v:Value) (e:Fin 8→Sp.Cg) (es:List TelT) (o:Option Sp.Cg):Prop :=
 ∀ W,AnAt C π T F W→Calls Tryz.prog 193 #[.agg (wk C b),v,.agg (stC (some e))] W (SumPost C π T F b W es o)
theorem negation_calls (tv:TypeId) (uv:Value) (C:Cx) (π:Par) (T:Tab) (F:Fd) (b:Bool) (w:World) (e:Fin 8→Sp.Cg) (es:List TelT) (o:Option Sp.Cg) (h:AnAt C π T F w)
  (hs:SumsAt C π T F b (.iface tv uv) e es o) (hwf:∀ a,o=some a→Wv a) :
  Calls Tryz.prog 216 #[.agg (wk C b),.agg #[.iface tv uv],.agg (stC (some e))] w (SumPost C π T F b w es (o.map vNeg)):=by
 obtain ⟨k0,k1,k2,k3,kb⟩:=laid4b (w:=w) (o1:=.cells (wk C b) 200) (o2:=.cells #[.iface tv uv] 330) (o3:=.cells (stC (some e)) 203) (o4:=.cells #[.int .i64 0,.int .i64 0] 126) (Below.refl _ _)
 have HW:=hs _ (h.call kb)
 have hw0:=wk_zero C b
 have hws:=wk_size C b
 have hx17:=stC_size (some e)
 generalize wk C b=wa at *
 generalize stC (some e)=xa at *
 have K0:Hid (_=_):=k0
 have K2:Hid (_=_):=k2
 have K3:Hid (_=_):=k3
 have c1:=cell_of k1 0 (v:=.iface tv uv) rfl
 have HB:Hid (Below w.heap.size w _):=kb
 have HA:Hid (AnAt C π T F w):=h
 have hle:w.heap.size≤w.heap.size + 1 + 1 + 1:=by omega
 clear h k0 k1 k2 k3 kb hs
 cases o with
 | none =>
  go_enter Tryz.func216,Tryz.ntmps216
  go_wp2_with (first
   | (refine wp_ldW rfl _ rfl rfl K0.out hws ?_)
   | (refine wp_ld rfl _ rfl rfl K2.out hx17 ?_))
  refine HW.mono ?_
  rintro r w1 ⟨rfl,a1,b1⟩
  have hz1:=b1.mine HA.out hle K3.out
  obtain ⟨m0,m1,mf0,mf1,mq⟩:=res2 hz1
  have h2:=two_set hz1 (.int .i64 0) (.int .i64 0)
  obtain ⟨q0,q1,qf0,qf1,_⟩:=res2 h2
  have H4:Hid (_=_):=two_set h2 (.int .i64 0) (.int .i64 0)
  have HB4:Hid (Below w.heap.size w1 _):=Below.two (Below.two (Below.refl w.heap.size w1) hle (.int .i64 0) (.int .i64 0)) hle (.int .i64 0) (.int .i64 0)
  have HA1:Hid (AnAt C π T (told π b F es) w1):=a1
  have HK1:Hid (AKeep C w w1):=(AKeep.of_below HB.out HA.out.le).trans b1
  clear mq hz1 a1 b1 HW h2
  simp only [opV]
  go_wp2_with fail
  have Q0:=cell_of H4.out 0 (v:=.int .i64 0) rfl
  have Q1:=cell_of H4.out 1 (v:=.int .i64 0) rfl
  refine bodyPost_ret (v:=.tuple #[.agg #[.int .i64 0,.int .i64 0],.bool false]) (by simp [results,Tryz.results216,go_sem,Q0,Q1]) rfl ?_
  exact ⟨rfl,HA.out.upon HA1.out HB4.out,AKeep.upon HA.out HK1.out HB4.out⟩
 | some a =>
  have wa':=hwf a rfl
  go_enter Tryz.func216,Tryz.ntmps216
  go_wp2_with (first
   | (refine wp_ldW rfl _ rfl rfl K0.out hws ?_)
   | (refine wp_ld rfl _ rfl rfl K2.out hx17 ?_))
  refine HW.mono ?_
  rintro r w1 ⟨rfl,a1,b1⟩
  have hz1:=b1.mine HA.out hle K3.out
  have ho1:=b1.mine HA.out (Nat.le_refl _) K0.out
  obtain ⟨m0,m1,mf0,mf1,mq⟩:=res2 hz1
  have h2:=two_set hz1 (.int .i64 ((a.m:Nat):Int)) (.int .i64 a.r)
  have HB2:Hid (Below w.heap.size w1 _):=Below.two (Below.refl w.heap.size w1) hle (.int .i64 ((a.m:Nat):Int)) (.int .i64 a.r)
  obtain ⟨q0,q1,qf0,qf1,_⟩:=res2 h2
  have hne:w.heap.size ≠ w.heap.size + 1 + 1 + 1:=by omega
  have d0:=cell_of (two_other hne ho1 (.int .i64 ((a.m:Nat):Int)) (.int .i64 a.r)) 0 hw0
  have HA1:Hid (AnAt C π T (told π b F es) w1):=a1
  have HK1:Hid (AKeep C w w1):=(AKeep.of_below HB.out HA.out.le).trans b1
  have H2:Hid (_=_):=h2
  have b1s:=b1.below.size
  have HD:=dNegate (HA.out.upon a1 HB2.out).does wa'
  clear mq hz1 a1 b1 HW h2 ho1 hne
  simp only [opV]
  go_wp2_with fail
  refine HD.mono ?_
  rintro r w2 ⟨rfl,b2⟩
  have hsz:=Nat.le_trans (Nat.le_trans HB.out.size b1s) HB2.out.size
  have h3:=(b2.block _ (heap_lt H2.out)).trans H2.out
  obtain ⟨p0,p1,pf0,pf1,_⟩:=res2 h3
  have h4:=two_set h3 (.int .i64 (((vNeg a).m:Nat):Int)) (.int .i64 (vNeg a).r)
  obtain ⟨s0,s1,sf0,sf1,_⟩:=res2 h4
  have H5:Hid (_=_):=two_set h4 (.int .i64 (((vNeg a).m:Nat):Int)) (.int .i64 (vNeg a).r)
  have HB5:Hid (Below w.heap.size w1 _):=Below.two (Below.two (HB2.out.trans (b2.mono hsz)) hle (.int .i64 (((vNeg a).m:Nat):Int)) (.int .i64 (vNeg a).r)) hle (.int .i64 (((vNeg a).m:Nat):Int)) (.int .i64 (vNeg a).r)
  clear b2 h3 h4 HD q0 q1 qf0 qf1 m0 m1 mf0 mf1 d0
  go_wp2_with fail
  have Q0:=cell_of H5.out 0 (v:=.int .i64 (((vNeg a).m:Nat):Int)) rfl
  have Q1:=cell_of H5.out 1 (v:=.int .i64 (vNeg a).r) rfl
  refine bodyPost_ret (v:=.tuple #[.agg #[.int .i64 (((vNeg a).m:Nat):Int),.int .i64 (vNeg a).r],.bool true]) (by simp [results,Tryz.results216,go_sem,Q0,Q1]) rfl ?_
  exact ⟨rfl,HA.out.upon HA1.out HB5.out,AKeep.upon HA.out HK1.out HB5.out⟩
end WC
end Go.Proofs.YtiopfihjmkfdmaaGreatDoor
namespace Go.Proofs.YtiopfihjmkfdmaaGreatDoor
namespace WC
open Go.RowKit
set_option maxRecDepth 100000
set_option maxHeartbeats 1000000
def SidesPost (C:Cx) (π:Par) (T:Tab) (F:Fd) (b:Bool) (w:World) (es:List TelT) (o:Option (Sp.Cg × Sp.Cg)) (r:Ending) (w':World):Prop :=
 (match o with
   | some (x,y)=>r=.returned (.tuple #[.agg #[.int .i64 ((x.m:Nat):Int),.int .i64 x.r],.agg #[.int .i64 ((y.m:Nat):Int),.int .i64 y.r],.bool true])
   | none=>∃ i j k l:Int,r=.returned (.tuple #[.agg #[.int .i64 i,.int .i64 j],.agg #[.int .i64 k,.int .i64 l],.bool false]))∧AnAt C π T (told π b F es) w'∧AKeep C w w'
theorem sides_no (tl:TypeId) (ul:Value) (tr:TypeId) (ur:Value) (C:Cx) (π:Par) (T:Tab) (F:Fd) (b:Bool) (w:World) (e:Fin 8→Sp.Cg) (es:List TelT) (h:AnAt C π T F w)
  (hs:SumsAt C π T F b (.iface tl ul) e es none) :
  Calls Tryz.prog 218 #[.agg (wk C b),.iface tl ul,.iface tr ur,.agg (stC (some e))] w (SidesPost C π T F b w es none):=by
 obtain ⟨k0,k1,k2,k3,kb⟩:=laid4b (w:=w) (o1:=.cells (wk C b) 200) (o2:=.cells (stC (some e)) 203) (o3:=.cells #[.int .i64 0,.int .i64 0] 126) (o4:=.cells #[.int .i64 0,.int .i64 0] 126) (Below.refl _ _)
 have HW:=hs _ (h.call kb)
 have hws:=wk_size C b
 have hx17:=stC_size (some e)
 generalize wk C b=wa at *
 generalize stC (some e)=xa at *
 have K0:Hid (_=_):=k0
 have K1:Hid (_=_):=k1
 have K2:Hid (_=_):=k2
 have K3:Hid (_=_):=k3
 have HB:Hid (Below w.heap.size w _):=kb
 have HA:Hid (AnAt C π T F w):=h
 have hle2:w.heap.size≤w.heap.size + 1 + 1:=by omega
 have hle3:w.heap.size≤w.heap.size + 1 + 1 + 1:=by omega
 have h32:w.heap.size + 1 + 1 + 1 ≠ w.heap.size + 1 + 1:=by omega
 have h23:w.heap.size + 1 + 1 ≠ w.heap.size + 1 + 1 + 1:=by omega
 clear h k0 k1 k2 k3 kb hs
 go_enter Tryz.func218,Tryz.ntmps218
 go_wp2_with (first
  | (refine wp_ldW rfl _ rfl rfl K0.out hws ?_)
  | (refine wp_ld rfl _ rfl rfl K1.out hx17 ?_))
 refine HW.mono ?_
 rintro r w1 ⟨rfl,a1,b1⟩
 have hx1:=b1.mine HA.out hle2 K2.out
 have hy1:=b1.mine HA.out hle3 K3.out
 obtain ⟨m0,m1,mf0,mf1,_⟩:=res2 hx1
 have hx2:=two_set hx1 (.int .i64 0) (.int .i64 0)
 have hy2:=two_other h32 hy1 (.int .i64 0) (.int .i64 0)
 have HK1:Hid (AKeep C w w1):=(AKeep.of_below HB.out HA.out.le).trans b1
 have HB2:Hid (Below w.heap.size w1 _):=Below.two (Below.refl w.heap.size w1) hle2 (.int .i64 0) (.int .i64 0)
 obtain ⟨q0,q1,qf0,qf1,_⟩:=res2 hx2
 obtain ⟨p0,p1,pf0,pf1,_⟩:=res2 hy2
 have HA1:Hid (AnAt C π T (told π b F es) w1):=a1
 have HX2:Hid (_=_):=hx2
 have HY2:Hid (_=_):=hy2
 clear a1 b1 HW hx1 hy1 hx2 hy2
 simp only [opV]
 go_wp2_with fail
 generalize (w1.setCell ⟨w.heap.size + 1 + 1,0,none⟩ (.int .i64 0)).setCell ⟨w.heap.size + 1 + 1,1,none⟩ (.int .i64 0)=w2 at *
 have HX3:Hid (((((w2.setCell ⟨w.heap.size + 1 + 1,0,none⟩ (.int .i64 0)).setCell ⟨w.heap.size + 1 + 1,1,none⟩ (.int .i64 0)).setCell ⟨w.heap.size + 1 + 1 + 1,0,none⟩ (.int .i64 0)).setCell ⟨w.heap.size + 1 + 1 + 1,1,none⟩ (.int .i64 0)).drew.heap[w.heap.size + 1 + 1]?=some (.cells #[.int .i64 0,.int .i64 0] 126)):=two_other h23 (two_set HX2.out (.int .i64 0) (.int .i64 0)) (.int .i64 0) (.int .i64 0)
 have HY3:Hid (((((w2.setCell ⟨w.heap.size + 1 + 1,0,none⟩ (.int .i64 0)).setCell ⟨w.heap.size + 1 + 1,1,none⟩ (.int .i64 0)).setCell ⟨w.heap.size + 1 + 1 + 1,0,none⟩ (.int .i64 0)).setCell ⟨w.heap.size + 1 + 1 + 1,1,none⟩ (.int .i64 0)).drew.heap[w.heap.size + 1 + 1 + 1]?=some (.cells #[.int .i64 0,.int .i64 0] 126)):=two_set (two_other h32 HY2.out (.int .i64 0) (.int .i64 0)) (.int .i64 0) (.int .i64 0)
 have HB3:Hid (Below w.heap.size w1 ((((w2.setCell ⟨w.heap.size + 1 + 1,0,none⟩ (.int .i64 0)).setCell ⟨w.heap.size + 1 + 1,1,none⟩ (.int .i64 0)).setCell ⟨w.heap.size + 1 + 1 + 1,0,none⟩ (.int .i64 0)).setCell ⟨w.heap.size + 1 + 1 + 1,1,none⟩ (.int .i64 0)).drew):=(Below.two (Below.two HB2.out hle2 (.int .i64 0) (.int .i64 0)) hle3 (.int .i64 0) (.int .i64 0)).drew
 go_region_with (fail)
 all_goals
  go_wp2_with fail
  have Q0:=cell_of HX3.out 0 (v:=.int .i64 0) rfl
  have Q1:=cell_of HX3.out 1 (v:=.int .i64 0) rfl
  have Q2:=cell_of HY3.out 0 (v:=.int .i64 0) rfl
  have Q3:=cell_of HY3.out 1 (v:=.int .i64 0) rfl
  simp only [World.cell?_drew] at Q0 Q1 Q2 Q3
  refine bodyPost_ret (v:=.tuple #[.agg #[.int .i64 0,.int .i64 0],.agg #[.int .i64 0,.int .i64 0],.bool false]) (by simp [results,Tryz.results218,go_sem,Q0,Q1,Q2,Q3]) rfl ?_
  exact ⟨⟨_,_,_,_,rfl⟩,HA.out.upon HA1.out HB3.out,AKeep.upon HA.out HK1.out HB3.out⟩
theorem sides_half (tl:TypeId) (ul:Value) (tr:TypeId) (ur:Value) (C:Cx) (π:Par) (T:Tab) (F:Fd) (b:Bool) (w:World) (e:Fin 8→Sp.Cg) (es:List TelT) (es2:List TelT) (a:Sp.Cg) (h:AnAt C π T F w)
  (hs:SumsAt C π T F b (.iface tl ul) e es (some a))
  (hs2:SumsAt C π T (told π b F es) b (.iface tr ur) e es2 none) :
  Calls Tryz.prog 218 #[.agg (wk C b),.iface tl ul,.iface tr ur,.agg (stC (some e))] w (SidesPost C π T F b w (es ++ es2) none):=by
 obtain ⟨k0,k1,k2,k3,kb⟩:=laid4b (w:=w) (o1:=.cells (wk C b) 200) (o2:=.cells (stC (some e)) 203) (o3:=.cells #[.int .i64 0,.int .i64 0] 126) (o4:=.cells #[.int .i64 0,.int .i64 0] 126) (Below.refl _ _)
 have HW:=hs _ (h.call kb)
 have hws:=wk_size C b
 have hx17:=stC_size (some e)
 have HS2:Hid (_):=hs2
 unfold SumsAt at HS2
 clear hs2
 generalize wk C b=wa at *
 generalize stC (some e)=xa at *
 have K0:Hid (_=_):=k0
 have K1:Hid (_=_):=k1
 have K2:Hid (_=_):=k2
 have K3:Hid (_=_):=k3
 have HB:Hid (Below w.heap.size w _):=kb
 have HA:Hid (AnAt C π T F w):=h
 have hle2:w.heap.size≤w.heap.size + 1 + 1:=by omega
 have hle3:w.heap.size≤w.heap.size + 1 + 1 + 1:=by omega
 have h32:w.heap.size + 1 + 1 + 1 ≠ w.heap.size + 1 + 1:=by omega
 have h23:w.heap.size + 1 + 1 ≠ w.heap.size + 1 + 1 + 1:=by omega
 clear h k0 k1 k2 k3 kb hs
 go_enter Tryz.func218,Tryz.ntmps218
 go_wp2_with (first
  | (refine wp_ldW rfl _ rfl rfl K0.out hws ?_)
  | (refine wp_ld rfl _ rfl rfl K1.out hx17 ?_))
 refine HW.mono ?_
 rintro r w1 ⟨rfl,a1,b1⟩
 have hx1:=b1.mine HA.out hle2 K2.out
 have hy1:=b1.mine HA.out hle3 K3.out
 obtain ⟨m0,m1,mf0,mf1,_⟩:=res2 hx1
 have hx2:=two_set hx1 (.int .i64 ((a.m:Nat):Int)) (.int .i64 a.r)
 have hy2:=two_other h32 hy1 (.int .i64 ((a.m:Nat):Int)) (.int .i64 a.r)
 have HK1:Hid (AKeep C w w1):=(AKeep.of_below HB.out HA.out.le).trans b1
 have HB2:Hid (Below w.heap.size w1 _):=Below.two (Below.refl w.heap.size w1) hle2 (.int .i64 ((a.m:Nat):Int)) (.int .i64 a.r)
 obtain ⟨q0,q1,qf0,qf1,_⟩:=res2 hx2
 have HA1:Hid (AnAt C π T (told π b F es) w1):=a1
 have ho1:=two_other (show w.heap.size ≠ w.heap.size + 1 + 1 by omega) (b1.mine HA.out (Nat.le_refl _) K0.out) (.int .i64 ((a.m:Nat):Int)) (.int .i64 a.r)
 have hs1:=two_other (show w.heap.size + 1 ≠ w.heap.size + 1 + 1 by omega) (b1.mine HA.out (Nat.le_succ _) K1.out) (.int .i64 ((a.m:Nat):Int)) (.int .i64 a.r)
 have HO1:Hid (_=_):=ho1
 have HS1:Hid (_=_):=hs1
 have HX2:Hid (_=_):=hx2
 have HY2:Hid (_=_):=hy2
 have HW2:=HS2.out _ (HA.out.upon a1 HB2.out)
 clear a1 b1 HW hx1 hy1 hx2 hy2 ho1 hs1 HS2
 simp only [opV]
 go_wp2_with (first
  | (refine wp_ldW rfl _ rfl rfl HO1.out hws ?_)
  | (refine wp_ld rfl _ rfl rfl HS1.out hx17 ?_))
 refine HW2.mono ?_
 rintro r w3 ⟨rfl,a3,b3⟩
 have hx3:=b3.mine HA.out hle2 HX2.out
 have hy3:=b3.mine HA.out hle3 HY2.out
 obtain ⟨n0,n1,nf0,nf1,_⟩:=res2 hy3
 have hx4:=two_other h23 hx3 (.int .i64 0) (.int .i64 0)
 have hy4:=two_set hy3 (.int .i64 0) (.int .i64 0)
 obtain ⟨r0,r1,rf0,rf1,_⟩:=res2 hx4
 obtain ⟨p0,p1,pf0,pf1,_⟩:=res2 hy4
 have HA3:Hid (AnAt C π T (told π b (told π b F es) es2) w3):=a3
 have HK3:Hid (AKeep C w w3):=(AKeep.upon HA.out HK1.out HB2.out).trans b3
 have HB4:Hid (Below w.heap.size w3 _):=Below.two (Below.refl w.heap.size w3) hle3 (.int .i64 0) (.int .i64 0)
 clear HX2 HY2
 have HX2:Hid (_=_):=hx4
 have HY2:Hid (_=_):=hy4
 clear a3 b3 HW2 hx3 hy3 hx4 hy4 q0 q1 qf0 qf1 m0 m1 mf0 mf1
 try simp only [opV]
 go_wp2_with fail
 generalize (w3.setCell ⟨w.heap.size + 1 + 1 + 1,0,none⟩ (.int .i64 0)).setCell ⟨w.heap.size + 1 + 1 + 1,1,none⟩ (.int .i64 0)=w4 at *
 have HX3:Hid (((((w4.setCell ⟨w.heap.size + 1 + 1,0,none⟩ (.int .i64 ((a.m:Nat):Int))).setCell ⟨w.heap.size + 1 + 1,1,none⟩ (.int .i64 a.r)).setCell ⟨w.heap.size + 1 + 1 + 1,0,none⟩ (.int .i64 0)).setCell ⟨w.heap.size + 1 + 1 + 1,1,none⟩ (.int .i64 0)).drew.heap[w.heap.size + 1 + 1]?=some (.cells #[.int .i64 ((a.m:Nat):Int),.int .i64 a.r] 126)):=two_other h23 (two_set HX2.out (.int .i64 ((a.m:Nat):Int)) (.int .i64 a.r)) (.int .i64 0) (.int .i64 0)
 have HY3:Hid (((((w4.setCell ⟨w.heap.size + 1 + 1,0,none⟩ (.int .i64 ((a.m:Nat):Int))).setCell ⟨w.heap.size + 1 + 1,1,none⟩ (.int .i64 a.r)).setCell ⟨w.heap.size + 1 + 1 + 1,0,none⟩ (.int .i64 0)).setCell ⟨w.heap.size + 1 + 1 + 1,1,none⟩ (.int .i64 0)).drew.heap[w.heap.size + 1 + 1 + 1]?=some (.cells #[.int .i64 0,.int .i64 0] 126)):=two_set (two_other h32 HY2.out (.int .i64 ((a.m:Nat):Int)) (.int .i64 a.r)) (.int .i64 0) (.int .i64 0)
 have HB3:Hid (Below w.heap.size w3 ((((w4.setCell ⟨w.heap.size + 1 + 1,0,none⟩ (.int .i64 ((a.m:Nat):Int))).setCell ⟨w.heap.size + 1 + 1,1,none⟩ (.int .i64 a.r)).setCell ⟨w.heap.size + 1 + 1 + 1,0,none⟩ (.int .i64 0)).setCell ⟨w.heap.size + 1 + 1 + 1,1,none⟩ (.int .i64 0)).drew):=(Below.two (Below.two HB4.out hle2 (.int .i64 ((a.m:Nat):Int)) (.int .i64 a.r)) hle3 (.int .i64 0) (.int .i64 0)).drew
 go_region_with (fail)
 all_goals
  go_wp2_with fail
  have Q0:=cell_of HX3.out 0 (v:=.int .i64 ((a.m:Nat):Int)) rfl
  have Q1:=cell_of HX3.out 1 (v:=.int .i64 a.r) rfl
  have Q2:=cell_of HY3.out 0 (v:=.int .i64 0) rfl
  have Q3:=cell_of HY3.out 1 (v:=.int .i64 0) rfl
  simp only [World.cell?_drew] at Q0 Q1 Q2 Q3
  refine bodyPost_ret (v:=.tuple #[.agg #[.int .i64 ((a.m:Nat):Int),.int .i64 a.r],.agg #[.int .i64 0,.int .i64 0],.bool false]) (by simp [results,Tryz.results218,go_sem,Q0,Q1,Q2,Q3]) rfl ?_
  exact ⟨⟨_,_,_,_,rfl⟩,by rw [told_append]; exact HA.out.upon HA3.out HB3.out,AKeep.upon HA.out HK3.out HB3.out⟩
theorem sides_both (tl:TypeId) (ul:Value) (tr:TypeId) (ur:Value) (C:Cx) (π:Par) (T:Tab) (F:Fd) (b:Bool) (w:World) (e:Fin 8→Sp.Cg) (es:List TelT) (es2:List TelT) (a c:Sp.Cg) (h:AnAt C π T F w)
  (hs:SumsAt C π T F b (.iface tl ul) e es (some a))
  (hs2:SumsAt C π T (told π b F es) b (.iface tr ur) e es2 (some c)) :
  Calls Tryz.prog 218 #[.agg (wk C b),.iface tl ul,.iface tr ur,.agg (stC (some e))] w (SidesPost C π T F b w (es ++ es2) (some (a,c))):=by
 obtain ⟨k0,k1,k2,k3,kb⟩:=laid4b (w:=w) (o1:=.cells (wk C b) 200) (o2:=.cells (stC (some e)) 203) (o3:=.cells #[.int .i64 0,.int .i64 0] 126) (o4:=.cells #[.int .i64 0,.int .i64 0] 126) (Below.refl _ _)
 have HW:=hs _ (h.call kb)
 have hws:=wk_size C b
 have hx17:=stC_size (some e)
 have HS2:Hid (_):=hs2
 unfold SumsAt at HS2
 clear hs2
 generalize wk C b=wa at *
 generalize stC (some e)=xa at *
 have K0:Hid (_=_):=k0
 have K1:Hid (_=_):=k1
 have K2:Hid (_=_):=k2
 have K3:Hid (_=_):=k3
 have HB:Hid (Below w.heap.size w _):=kb
 have HA:Hid (AnAt C π T F w):=h
 have hle2:w.heap.size≤w.heap.size + 1 + 1:=by omega
 have hle3:w.heap.size≤w.heap.size + 1 + 1 + 1:=by omega
 have h32:w.heap.size + 1 + 1 + 1 ≠ w.heap.size + 1 + 1:=by omega
 have h23:w.heap.size + 1 + 1 ≠ w.heap.size + 1 + 1 + 1:=by omega
 clear h k0 k1 k2 k3 kb hs
 go_enter Tryz.func218,Tryz.ntmps218
 go_wp2_with (first
  | (refine wp_ldW rfl _ rfl rfl K0.out hws ?_)
  | (refine wp_ld rfl _ rfl rfl K1.out hx17 ?_))
 refine HW.mono ?_
 rintro r w1 ⟨rfl,a1,b1⟩
 have hx1:=b1.mine HA.out hle2 K2.out
 have hy1:=b1.mine HA.out hle3 K3.out
 obtain ⟨m0,m1,mf0,mf1,_⟩:=res2 hx1
 have hx2:=two_set hx1 (.int .i64 ((a.m:Nat):Int)) (.int .i64 a.r)
 have hy2:=two_other h32 hy1 (.int .i64 ((a.m:Nat):Int)) (.int .i64 a.r)
 have HK1:Hid (AKeep C w w1):=(AKeep.of_below HB.out HA.out.le).trans b1
 have HB2:Hid (Below w.heap.size w1 _):=Below.two (Below.refl w.heap.size w1) hle2 (.int .i64 ((a.m:Nat):Int)) (.int .i64 a.r)
 obtain ⟨q0,q1,qf0,qf1,_⟩:=res2 hx2
 have HA1:Hid (AnAt C π T (told π b F es) w1):=a1
 have ho1:=two_other (show w.heap.size ≠ w.heap.size + 1 + 1 by omega) (b1.mine HA.out (Nat.le_refl _) K0.out) (.int .i64 ((a.m:Nat):Int)) (.int .i64 a.r)
 have hs1:=two_other (show w.heap.size + 1 ≠ w.heap.size + 1 + 1 by omega) (b1.mine HA.out (Nat.le_succ _) K1.out) (.int .i64 ((a.m:Nat):Int)) (.int .i64 a.r)
 have HO1:Hid (_=_):=ho1
 have HS1:Hid (_=_):=hs1
 have HX2:Hid (_=_):=hx2
 have HY2:Hid (_=_):=hy2
 have HW2:=HS2.out _ (HA.out.upon a1 HB2.out)
 clear a1 b1 HW hx1 hy1 hx2 hy2 ho1 hs1 HS2
 simp only [opV]
 go_wp2_with (first
  | (refine wp_ldW rfl _ rfl rfl HO1.out hws ?_)
  | (refine wp_ld rfl _ rfl rfl HS1.out hx17 ?_))
 refine HW2.mono ?_
 rintro r w3 ⟨rfl,a3,b3⟩
 have hx3:=b3.mine HA.out hle2 HX2.out
 have hy3:=b3.mine HA.out hle3 HY2.out
 obtain ⟨n0,n1,nf0,nf1,_⟩:=res2 hy3
 have hx4:=two_other h23 hx3 (.int .i64 ((c.m:Nat):Int)) (.int .i64 c.r)
 have hy4:=two_set hy3 (.int .i64 ((c.m:Nat):Int)) (.int .i64 c.r)
 obtain ⟨r0,r1,rf0,rf1,_⟩:=res2 hx4
 obtain ⟨p0,p1,pf0,pf1,_⟩:=res2 hy4
 have HA3:Hid (AnAt C π T (told π b (told π b F es) es2) w3):=a3
 have HK3:Hid (AKeep C w w3):=(AKeep.upon HA.out HK1.out HB2.out).trans b3
 have HB4:Hid (Below w.heap.size w3 _):=Below.two (Below.refl w.heap.size w3) hle3 (.int .i64 ((c.m:Nat):Int)) (.int .i64 c.r)
 clear HX2 HY2
 have HX2:Hid (_=_):=hx4
 have HY2:Hid (_=_):=hy4
 clear a3 b3 HW2 hx3 hy3 hx4 hy4 q0 q1 qf0 qf1 m0 m1 mf0 mf1
 try simp only [opV]
 go_wp2_with fail
 generalize (w3.setCell ⟨w.heap.size + 1 + 1 + 1,0,none⟩ (.int .i64 ((c.m:Nat):Int))).setCell ⟨w.heap.size + 1 + 1 + 1,1,none⟩ (.int .i64 c.r)=w4 at *
 have HX3:Hid (((((w4.setCell ⟨w.heap.size + 1 + 1,0,none⟩ (.int .i64 ((a.m:Nat):Int))).setCell ⟨w.heap.size + 1 + 1,1,none⟩ (.int .i64 a.r)).setCell ⟨w.heap.size + 1 + 1 + 1,0,none⟩ (.int .i64 ((c.m:Nat):Int))).setCell ⟨w.heap.size + 1 + 1 + 1,1,none⟩ (.int .i64 c.r)).drew.heap[w.heap.size + 1 + 1]?=some (.cells #[.int .i64 ((a.m:Nat):Int),.int .i64 a.r] 126)):=two_other h23 (two_set HX2.out (.int .i64 ((a.m:Nat):Int)) (.int .i64 a.r)) (.int .i64 ((c.m:Nat):Int)) (.int .i64 c.r)
 have HY3:Hid (((((w4.setCell ⟨w.heap.size + 1 + 1,0,none⟩ (.int .i64 ((a.m:Nat):Int))).setCell ⟨w.heap.size + 1 + 1,1,none⟩ (.int .i64 a.r)).setCell ⟨w.heap.size + 1 + 1 + 1,0,none⟩ (.int .i64 ((c.m:Nat):Int))).setCell ⟨w.heap.size + 1 + 1 + 1,1,none⟩ (.int .i64 c.r)).drew.heap[w.heap.size + 1 + 1 + 1]?=some (.cells #[.int .i64 ((c.m:Nat):Int),.int .i64 c.r] 126)):=two_set (two_other h32 HY2.out (.int .i64 ((a.m:Nat):Int)) (.int .i64 a.r)) (.int .i64 ((c.m:Nat):Int)) (.int .i64 c.r)
 have HB3:Hid (Below w.heap.size w3 ((((w4.setCell ⟨w.heap.size + 1 + 1,0,none⟩ (.int .i64 ((a.m:Nat):Int))).setCell ⟨w.heap.size + 1 + 1,1,none⟩ (.int .i64 a.r)).setCell ⟨w.heap.size + 1 + 1 + 1,0,none⟩ (.int .i64 ((c.m:Nat):Int))).setCell ⟨w.heap.size + 1 + 1 + 1,1,none⟩ (.int .i64 c.r)).drew):=(Below.two (Below.two HB4.out hle2 (.int .i64 ((a.m:Nat):Int)) (.int .i64 a.r)) hle3 (.int .i64 ((c.m:Nat):Int)) (.int .i64 c.r)).drew
 go_region_with (fail)
 all_goals
  go_wp2_with fail
  have Q0:=cell_of HX3.out 0 (v:=.int .i64 ((a.m:Nat):Int)) rfl
  have Q1:=cell_of HX3.out 1 (v:=.int .i64 a.r) rfl
  have Q2:=cell_of HY3.out 0 (v:=.int .i64 ((c.m:Nat):Int)) rfl
  have Q3:=cell_of HY3.out 1 (v:=.int .i64 c.r) rfl
  simp only [World.cell?_drew] at Q0 Q1 Q2 Q3
  refine bodyPost_ret (v:=.tuple #[.agg #[.int .i64 ((a.m:Nat):Int),.int .i64 a.r],.agg #[.int .i64 ((c.m:Nat):Int),.int .i64 c.r],.bool true]) (by simp [results,Tryz.results218,go_sem,Q0,Q1,Q2,Q3]) rfl ?_
  exact ⟨rfl,by rw [told_append]; exact HA.out.upon HA3.out HB3.out,AKeep.upon HA.out HK3.out HB3.out⟩
end WC
end Go.Proofs.YtiopfihjmkfdmaaGreatDoor
namespace Go.Proofs.YtiopfihjmkfdmaaGreatDoor
namespace WC
open Go.RowKit
set_option maxRecDepth 100000
set_option maxHeartbeats 1000000
structure SiteAt (C:Cx) (F:Fd) (wa:Array Value) (k:Nat) (W:World):Prop where
 o:W.heap[k]?=some (.cells wa 200)
 f:W.heap[C.fb]?=some (.cells #[.slice (some ⟨C.gf,0,none⟩) F.1.length C.cf,.slice (some ⟨C.gs,0,none⟩) F.2.length C.cs] 198)
theorem site_told (C:Cx) (π:Par) (T:Tab) (F:Fd) (w:World) (h:AnAt C π T F w) (q n:Nat) (hq:F.2[q]?=some n) (bad:Bool) :
  Calls Tryz.prog 195 #[.agg (wk C true),.int .i64 (q:Nat),.bool bad] w fun e w'=>e=.returned (.tuple #[])∧AnAt C π T (Sp.tell1 (Dm π) F (.site (q:Int) bad)) w'∧AKeep C w w':=by
 have hql:q<F.2.length:=(List.getElem?_eq_some_iff.1 hq).1
 have hql':((q:Nat):Int)<((F.2.length:Nat):Int):=by omega
 have hw7:(wk C true)[7]?=some (.pointer (some ⟨C.fb,0,none⟩)):=rfl
 generalize wk C true=wa at *
 have b0:Below w.heap.size w (w.alloc (.cells wa 200)).drew:=(below_alloc1 w _).drew
 have HA:Hid (AnAt C π T F (w.alloc (.cells wa 200)).drew):=h.call b0
 have HK:Hid (AKeep C w (w.alloc (.cells wa 200)).drew):=AKeep.of_below b0 h.le
 have ho:(w.alloc (.cells wa 200)).drew.heap[w.heap.size]?=some (.cells wa 200):=heap_alloc_new w _
 have H0:Hid (SiteAt C F wa w.heap.size (w.alloc (.cells wa 200)).drew):=⟨ho,HA.out.hfb⟩
 have HC:Hid (_=_):=siteCells_get hq
 have HQ:Hid (F.2[q]?=some n):=hq
 have d7:=cell_of (heap_alloc_new w (.cells wa 200)) 7 hw7
 have c1:(w.alloc (.cells wa 200)).cell? ⟨C.gs,q,none⟩=some (.int .i64 (n:Nat)):=cell_of HA.out.hgs q HC.out
 have f1:(w.alloc (.cells wa 200)).frozen? ⟨C.gs,q,none⟩=false:=frozen_of HA.out.hgs q
 have hne:w.heap.size ≠ C.gs:=by have:=h.lt.2.2.1; omega
 have hne2:C.fb ≠ C.gs:=h.ne.2.1
 have hle:((n:Nat):Int)=(n:Int):=rfl
 clear h hq b0 ho hle
 cases bad with
 | true =>
  go_enter Tryz.func195,Tryz.ntmps195
  go_wp2_with fail
  generalize w.alloc (.cells wa 200)=W at *
  refine wp_region_held_drew (S:=fun w':World=>SiteAt C F wa w.heap.size w') (by kernel_rfl) H0.out (fun hHeld=>?_)
  refine tk 0 (.pointer (some ⟨w.heap.size,7,none⟩)) rfl (fun w' h=>by go_simp) hHeld ?_
  simp only [Act.put]
  refine tk 1 (.pointer (some ⟨C.fb,0,none⟩)) rfl (fun w' h=>by have d:=cell_of h.o 7 hw7; go_simp) hHeld ?_
  simp only [Act.put]
  refine tk 2 (.pointer (some ⟨C.fb,0,none⟩)) rfl (fun w' h=>by go_simp) hHeld ?_
  simp only [Act.put]
  refine tk 3 (.pointer (some ⟨C.fb,1,none⟩)) rfl (fun w' h=>by go_simp) hHeld ?_
  simp only [Act.put]
  refine tk 4 (.slice (some ⟨C.gs,0,none⟩) F.2.length C.cs) rfl (fun w' h=>by have d:=cell_of h.f 1 rfl; go_simp) hHeld ?_
  simp only [Act.put]
  refine tk 5 (.int .i64 (q:Nat)) rfl (fun w' h=>by go_simp) hHeld ?_
  simp only [Act.put]
  refine tk 6 (.pointer (some ⟨w.heap.size,7,none⟩)) rfl (fun w' h=>by go_simp) hHeld ?_
  simp only [Act.put]
  refine tk 7 (.pointer (some ⟨C.fb,0,none⟩)) rfl (fun w' h=>by have d:=cell_of h.o 7 hw7; go_simp) hHeld ?_
  simp only [Act.put]
  refine tk 8 (.pointer (some ⟨C.fb,0,none⟩)) rfl (fun w' h=>by go_simp) hHeld ?_
  simp only [Act.put]
  refine tk 9 (.pointer (some ⟨C.fb,1,none⟩)) rfl (fun w' h=>by go_simp) hHeld ?_
  simp only [Act.put]
  refine tk 10 (.slice (some ⟨C.gs,0,none⟩) F.2.length C.cs) rfl (fun w' h=>by have d:=cell_of h.f 1 rfl; go_simp) hHeld ?_
  simp only [Act.put]
  refine tk 11 (.int .i64 (q:Nat)) rfl (fun w' h=>by go_simp) hHeld ?_
  simp only [Act.put]
  refine tk 12 (.pointer (some ⟨C.gs,q,none⟩)) rfl (fun w' h=>by go_simp) hHeld ?_
  simp only [Act.put]
  refine tk 14 (.int .i64 2) rfl (fun w' h=>by go_simp) hHeld ?_
  simp only [Act.put]
  refine rd1 13 fun K hK=>?_
  simp only [gsb,gsa]
  go_simp
  refine hK.out _ _ hHeld (fun hHeld=>?_)
  clear hK K
  refine tk 15 (.int .i64 (max ((n:Nat):Int) 2)) rfl (fun w' h=>by go_simp <;> split <;> omega) hHeld ?_
  simp only [Act.put]
  refine tk 16 (.pointer (some ⟨C.gs,q,none⟩)) rfl (fun w' h=>by go_simp) hHeld ?_
  simp only [Act.put]
  refine rd1 17 fun K hK=>?_
  simp only [gsb,gsa]
  go_simp
  refine hK.out _ _ ⟨(Below.heap_setCell _ _ _ _ hne).trans hHeld.o,(Below.heap_setCell _ _ _ _ hne2).trans hHeld.f⟩ (fun _=>?_)
  clear hK K
  refine wpAnyH_done (by kernel_rfl) ?_ _
  go_wp2_with fail
  have R:Hid (_∧_):=HA.out.site HQ.out true
  rw [show ((max n (if true=true then 2 else 1):Nat):Int)=max ((n:Nat):Int) 2 by simp; omega] at R
  go_returns
  exact ⟨rfl,R.out.1,HK.out.trans R.out.2⟩
 | false =>
  go_enter Tryz.func195,Tryz.ntmps195
  go_wp2_with fail
  generalize w.alloc (.cells wa 200)=W at *
  refine wp_region_held_drew (S:=fun w':World=>SiteAt C F wa w.heap.size w') (by kernel_rfl) H0.out (fun hHeld=>?_)
  refine tk 0 (.pointer (some ⟨w.heap.size,7,none⟩)) rfl (fun w' h=>by go_simp) hHeld ?_
  simp only [Act.put]
  refine tk 1 (.pointer (some ⟨C.fb,0,none⟩)) rfl (fun w' h=>by have d:=cell_of h.o 7 hw7; go_simp) hHeld ?_
  simp only [Act.put]
  refine tk 2 (.pointer (some ⟨C.fb,0,none⟩)) rfl (fun w' h=>by go_simp) hHeld ?_
  simp only [Act.put]
  refine tk 3 (.pointer (some ⟨C.fb,1,none⟩)) rfl (fun w' h=>by go_simp) hHeld ?_
  simp only [Act.put]
  refine tk 4 (.slice (some ⟨C.gs,0,none⟩) F.2.length C.cs) rfl (fun w' h=>by have d:=cell_of h.f 1 rfl; go_simp) hHeld ?_
  simp only [Act.put]
  refine tk 5 (.int .i64 (q:Nat)) rfl (fun w' h=>by go_simp) hHeld ?_
  simp only [Act.put]
  refine tk 6 (.pointer (some ⟨w.heap.size,7,none⟩)) rfl (fun w' h=>by go_simp) hHeld ?_
  simp only [Act.put]
  refine tk 7 (.pointer (some ⟨C.fb,0,none⟩)) rfl (fun w' h=>by have d:=cell_of h.o 7 hw7; go_simp) hHeld ?_
  simp only [Act.put]
  refine tk 8 (.pointer (some ⟨C.fb,0,none⟩)) rfl (fun w' h=>by go_simp) hHeld ?_
  simp only [Act.put]
  refine tk 9 (.pointer (some ⟨C.fb,1,none⟩)) rfl (fun w' h=>by go_simp) hHeld ?_
  simp only [Act.put]
  refine tk 10 (.slice (some ⟨C.gs,0,none⟩) F.2.length C.cs) rfl (fun w' h=>by have d:=cell_of h.f 1 rfl; go_simp) hHeld ?_
  simp only [Act.put]
  refine tk 11 (.int .i64 (q:Nat)) rfl (fun w' h=>by go_simp) hHeld ?_
  simp only [Act.put]
  refine tk 12 (.pointer (some ⟨C.gs,q,none⟩)) rfl (fun w' h=>by go_simp) hHeld ?_
  simp only [Act.put]
  refine tk 14 (.int .i64 1) rfl (fun w' h=>by go_simp) hHeld ?_
  simp only [Act.put]
  refine rd1 13 fun K hK=>?_
  simp only [gsb,gsa]
  go_simp
  refine hK.out _ _ hHeld (fun hHeld=>?_)
  clear hK K
  refine tk 15 (.int .i64 (max ((n:Nat):Int) 1)) rfl (fun w' h=>by go_simp <;> split <;> omega) hHeld ?_
  simp only [Act.put]
  refine tk 16 (.pointer (some ⟨C.gs,q,none⟩)) rfl (fun w' h=>by go_simp) hHeld ?_
  simp only [Act.put]
  refine rd1 17 fun K hK=>?_
  simp only [gsb,gsa]
  go_simp
  refine hK.out _ _ ⟨(Below.heap_setCell _ _ _ _ hne).trans hHeld.o,(Below.heap_setCell _ _ _ _ hne2).trans hHeld.f⟩ (fun _=>?_)
  clear hK K
  refine wpAnyH_done (by kernel_rfl) ?_ _
  go_wp2_with fail
  have R:Hid (_∧_):=HA.out.site HQ.out false
  rw [show ((max n (if false=true then 2 else 1):Nat):Int)=max ((n:Nat):Int) 1 by simp; omega] at R
  go_returns
  exact ⟨rfl,R.out.1,HK.out.trans R.out.2⟩
theorem site_quiet (C:Cx) (q:Int) (bad:Bool) (w:World) :
  Calls Tryz.prog 195 #[.agg (wk C false),.int .i64 q,.bool bad] w fun e w'=>e=.returned (.tuple #[])∧Below w.heap.size w w':=by
 have hw7:(wk C false)[7]?=some (.pointer none):=rfl
 generalize wk C false=wa at *
 have d7:=cell_of (heap_alloc_new w (.cells wa 200)) 7 hw7
 go_enter Tryz.func195,Tryz.ntmps195
 go_wp2_with fail
 go_returns
 exact ⟨rfl,by go_grown⟩
theorem site_calls (C:Cx) (π:Par) (T:Tab) (F:Fd) (b:Bool) (w:World) (h:AnAt C π T F w) (q:Int) (bad:Bool) (hr:Rng b F [.site q bad]) :
  Calls Tryz.prog 195 #[.agg (wk C b),.int .i64 q,.bool bad] w fun e w'=>e=.returned (.tuple #[])∧AnAt C π T (told π b F [.site q bad]) w'∧AKeep C w w':=by
 cases b with
 | false =>
  refine (site_quiet C q bad w).mono ?_
  rintro e w' ⟨rfl,k⟩
  exact ⟨rfl,h.call k,AKeep.of_below k h.le⟩
 | true =>
  obtain ⟨h1,h2⟩:=hr rfl _ (List.mem_singleton.2 rfl)
  obtain ⟨n,rfl⟩:∃ n:Nat,q=(n:Int):=⟨q.toNat,by omega⟩
  exact site_told C π T F w h n _ (List.getElem?_eq_getElem (by simpa using h2)) bad
end WC
end Go.Proofs.YtiopfihjmkfdmaaGreatDoor
namespace Go.Proofs.YtiopfihjmkfdmaaGreatDoor
open Go.RowKit
set_option maxRecDepth 100000
set_option maxHeartbeats 400000
theorem has_site (k:Nat) (hk:k<5) (w:World) :
  Calls Tryz.prog 240 #[.int .i64 k] w fun e w'=>e=.returned (.bool (decide (3≤k)))∧w'=w:=by
 have hk':k=3∨k=4∨(k<3∧¬ ((k:Int)=3)∧¬ ((k:Int)=4)):=by omega
 rcases hk' with rfl | rfl | ⟨h2,h0,h1⟩
 ·go_enter Tryz.func240,Tryz.ntmps240
  go_wp2_with fail
  go_ret
  exact ⟨rfl,rfl⟩
 ·go_enter Tryz.func240,Tryz.ntmps240
  go_wp2_with fail
  go_ret
  exact ⟨rfl,rfl⟩
 ·have hl:Hid (decide (3≤k)=false):=by unfold Hid; simp; omega
  clear h2 hk
  go_enter Tryz.func240,Tryz.ntmps240
  go_wp2_with fail
  go_ret
  refine ⟨ret_bool ?_,rfl⟩
  rw [hl.out]
  simp [h0,h1]
def WhereAt (t:TypeId) (u:Value) (p:Int):Prop:=∀ w,(method 587 t u "Where").run Tryz.prog w=.ok (72,.int .i64 p) w
theorem anwhere_calls (p:Int) (w:World):Calls Tryz.prog 72 #[.int .i64 p] w fun e w'=>e=.returned (.int .i64 p)∧w'=w:=by
 go_enter Tryz.func72,Tryz.ntmps72
 go_wp2_with fail
 go_ret
 exact ⟨rfl,rfl⟩
end Go.Proofs.YtiopfihjmkfdmaaGreatDoor
