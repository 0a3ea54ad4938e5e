import Derived.Test.YtiopfihjmkfdmaaGreatDoorX31
import Derived.DeepKeys3
namespace Go.Proofs.YtiopfihjmkfdmaaGreatDoor
namespace WC
open Go.RowKit
set_option maxRecDepth 100000
set_option maxHeartbeats 4000000
theorem quiet_calls (C:Cx) (b:Bool) (w:World) :
  Calls Tryz.prog 241 #[.agg (wk C b)] w fun e w'=>e=.returned (.agg (wk C false))∧Below w.heap.size w w':=by
 unfold wk wkA
 simp only [Bool.false_eq_true,if_false]
 generalize (if b=true then some (⟨C.fb,0,none⟩:Addr) else none)=f
 go_enter Tryz.func241,Tryz.ntmps241
 go_wp2_with fail
 go_returns
 exact ⟨rfl,by go_grown⟩
theorem stmt_assign (p:Int) (k:Nat) (tv:TypeId) (uv:Value) (C:Cx) (π:Par) (T:Tab) (F:Fd) (b:Bool) (w:World) (e:Fin 8→Sp.Cg) (es:List TelT) (u:ST) (h:AnAt C π T F w)
  (hs:∀ W,AKeep C w W→AnAt C π T F W→Calls Tryz.prog 153 #[.agg (wk C b),.agg #[.int .i64 p,.int .i64 (k:Nat),.iface tv uv],.agg (stC (some e))] W (Post C π T F b W es u)) :
  Calls Tryz.prog 112 #[.agg (wk C b),.iface 279 (.agg #[.int .i64 p,.int .i64 (k:Nat),.iface tv uv]),.agg (stC (some e))] w (Post C π T F b w es u):=by
 have h1:=ts_1_1 (.agg #[.int .i64 p,.int .i64 (k:Nat),.iface tv uv])
 obtain ⟨k0,k1,k2,k3,kb⟩:=laid4b (w:=w) (o1:=.cells (wk C b) 200) (o2:=.cells (stC (some e)) 203) (o3:=.cells #[.bool false,.int .i64 0,.int .i64 0,.int .i64 0,.int .i64 0,.int .i64 0,.int .i64 0,.int .i64 0,.int .i64 0,.int .i64 0,.int .i64 0,.int .i64 0,.int .i64 0,.int .i64 0,.int .i64 0,.int .i64 0,.int .i64 0] 203) (o4:=.cells #[.int .i64 p,.int .i64 (k:Nat),.iface tv uv] 279) (Below.refl _ _)
 have HW:=hs _ (AKeep.of_below kb h.le) (h.call kb)
 have hws:=wk_size C b
 have hx17:=stC_size (some e)
 have u17:=stC_size u
 have u1o:=stC_one u
 unfold Post at HW
 generalize wk C b=wa at *
 generalize stC (some e)=xa at *
 generalize huu:stC u=uu at *
 have HUU:Hid (_=uu):=huu
 have K0:Hid (_=_):=k0
 have K1:Hid (_=_):=k1
 have K2:Hid (_=_):=k2
 have HB:Hid (Below w.heap.size w _):=kb
 have HA:Hid (AnAt C π T F w):=h
 have l2:w.heap.size≤w.heap.size + 1 + 1:=by omega
 clear h hs k0 k1 k2 k3 kb huu
 go_enter Tryz.func112,Tryz.ntmps112
 go_wp2_with (first
  | (refine wp_ldW rfl _ rfl rfl (c:=wa) (by exact K0.out) hws ?_)
  | (refine wp_ld rfl _ rfl rfl (c:=xa) (by exact K1.out) hx17 ?_))
 refine HW.mono ?_
 rintro r w1 ⟨rfl,a1,b1⟩
 have hz1:=b1.mine HA.out l2 K2.out
 have HZ1:Hid (_=_):=hz1
 have hr0:Hid (_=_):=setCells_whole hz1 (d:=uu) (by rw [u17]; rfl)
 have HBf:Hid (Below w.heap.size w1 _):=setCells_below (b:=w.heap.size + 1 + 1) l2 uu.toList 0 w1 _ (Below.refl _ _)
 have HA1:Hid (AnAt C π T (told π b F es) w1):=a1
 have HK1:Hid (AKeep C w w1):=(AKeep.of_below HB.out HA.out.le).trans b1
 clear a1 b1 HW hz1
 go_wp2_with (first
  | (refine wp_st rfl _ _ rfl rfl rfl HZ1.out rfl u17 u1o ?_))
 refine bodyPost_ret (results_st Tryz.results112 _ _ rfl hr0.out u17) rfl ⟨by rw [HUU.out],HA.out.upon HA1.out HBf.out,AKeep.upon HA.out HK1.out HBf.out⟩
theorem stmt_assert (p q:Int) (k:Nat) (tl:TypeId) (ul:Value) (tr:TypeId) (ur:Value) (C:Cx) (π:Par) (T:Tab) (F:Fd) (b:Bool) (w:World) (e:Fin 8→Sp.Cg) (es:List TelT) (u:ST) (h:AnAt C π T F w)
  (hs:∀ W,AKeep C w W→AnAt C π T F W→Calls Tryz.prog 154 #[.agg (wk C b),.agg #[.int .i64 p,.int .i64 q,.int .i64 (k:Nat),.iface tl ul,.iface tr ur],.agg (stC (some e))] W (Post C π T F b W es u)) :
  Calls Tryz.prog 112 #[.agg (wk C b),.iface 287 (.agg #[.int .i64 p,.int .i64 q,.int .i64 (k:Nat),.iface tl ul,.iface tr ur]),.agg (stC (some e))] w (Post C π T F b w es u):=by
 have h1:=ts_3_1 (.agg #[.int .i64 p,.int .i64 q,.int .i64 (k:Nat),.iface tl ul,.iface tr ur])
 have h2:=ts_3_2 (.agg #[.int .i64 p,.int .i64 q,.int .i64 (k:Nat),.iface tl ul,.iface tr ur])
 have h3:=ts_3_3 (.agg #[.int .i64 p,.int .i64 q,.int .i64 (k:Nat),.iface tl ul,.iface tr ur])
 obtain ⟨k0,k1,k2,k3,kb⟩:=laid4b (w:=w) (o1:=.cells (wk C b) 200) (o2:=.cells (stC (some e)) 203) (o3:=.cells #[.bool false,.int .i64 0,.int .i64 0,.int .i64 0,.int .i64 0,.int .i64 0,.int .i64 0,.int .i64 0,.int .i64 0,.int .i64 0,.int .i64 0,.int .i64 0,.int .i64 0,.int .i64 0,.int .i64 0,.int .i64 0,.int .i64 0] 203) (o4:=.cells #[.int .i64 p,.int .i64 q,.int .i64 (k:Nat),.iface tl ul,.iface tr ur] 287) (Below.refl _ _)
 have HW:=hs _ (AKeep.of_below kb h.le) (h.call kb)
 have hws:=wk_size C b
 have hx17:=stC_size (some e)
 have u17:=stC_size u
 have u1o:=stC_one u
 unfold Post at HW
 generalize wk C b=wa at *
 generalize stC (some e)=xa at *
 generalize huu:stC u=uu at *
 have HUU:Hid (_=uu):=huu
 have K0:Hid (_=_):=k0
 have K1:Hid (_=_):=k1
 have K2:Hid (_=_):=k2
 have HB:Hid (Below w.heap.size w _):=kb
 have HA:Hid (AnAt C π T F w):=h
 have l2:w.heap.size≤w.heap.size + 1 + 1:=by omega
 clear h hs k0 k1 k2 k3 kb huu
 go_enter Tryz.func112,Tryz.ntmps112
 go_wp2_with (first
  | (refine wp_ldW rfl _ rfl rfl (c:=wa) (by exact K0.out) hws ?_)
  | (refine wp_ld rfl _ rfl rfl (c:=xa) (by exact K1.out) hx17 ?_))
 refine HW.mono ?_
 rintro r w1 ⟨rfl,a1,b1⟩
 have hz1:=b1.mine HA.out l2 K2.out
 have HZ1:Hid (_=_):=hz1
 have hr0:Hid (_=_):=setCells_whole hz1 (d:=uu) (by rw [u17]; rfl)
 have HBf:Hid (Below w.heap.size w1 _):=setCells_below (b:=w.heap.size + 1 + 1) l2 uu.toList 0 w1 _ (Below.refl _ _)
 have HA1:Hid (AnAt C π T (told π b F es) w1):=a1
 have HK1:Hid (AKeep C w w1):=(AKeep.of_below HB.out HA.out.le).trans b1
 clear a1 b1 HW hz1
 go_wp2_with (first
  | (refine wp_st rfl _ _ rfl rfl rfl HZ1.out rfl u17 u1o ?_))
 refine bodyPost_ret (results_st Tryz.results112 _ _ rfl hr0.out u17) rfl ⟨by rw [HUU.out],HA.out.upon HA1.out HBf.out,AKeep.upon HA.out HK1.out HBf.out⟩
theorem stmt_if (p:Int) (k:Nat) (tl:TypeId) (ul:Value) (tr:TypeId) (ur:Value) (av:Option Addr) (nv cv:Nat) (ae:Option Addr) (ne ce:Nat) (hb:Bool) (C:Cx) (π:Par) (T:Tab) (F:Fd) (b:Bool) (w:World) (e:Fin 8→Sp.Cg) (es:List TelT) (u:ST) (h:AnAt C π T F w)
  (hs:∀ W,AKeep C w W→AnAt C π T F W→Calls Tryz.prog 155 #[.agg (wk C b),.agg #[.int .i64 p,.int .i64 (k:Nat),.iface tl ul,.iface tr ur,.slice av nv cv,.slice ae ne ce,.bool hb],.agg (stC (some e))] W (Post C π T F b W es u)) :
  Calls Tryz.prog 112 #[.agg (wk C b),.iface 290 (.agg #[.int .i64 p,.int .i64 (k:Nat),.iface tl ul,.iface tr ur,.slice av nv cv,.slice ae ne ce,.bool hb]),.agg (stC (some e))] w (Post C π T F b w es u):=by
 have h1:=ts_4_1 (.agg #[.int .i64 p,.int .i64 (k:Nat),.iface tl ul,.iface tr ur,.slice av nv cv,.slice ae ne ce,.bool hb])
 have h2:=ts_4_2 (.agg #[.int .i64 p,.int .i64 (k:Nat),.iface tl ul,.iface tr ur,.slice av nv cv,.slice ae ne ce,.bool hb])
 have h3:=ts_4_3 (.agg #[.int .i64 p,.int .i64 (k:Nat),.iface tl ul,.iface tr ur,.slice av nv cv,.slice ae ne ce,.bool hb])
 have h4:=ts_4_4 (.agg #[.int .i64 p,.int .i64 (k:Nat),.iface tl ul,.iface tr ur,.slice av nv cv,.slice ae ne ce,.bool hb])
 obtain ⟨k0,k1,k2,k3,kb⟩:=laid4b (w:=w) (o1:=.cells (wk C b) 200) (o2:=.cells (stC (some e)) 203) (o3:=.cells #[.bool false,.int .i64 0,.int .i64 0,.int .i64 0,.int .i64 0,.int .i64 0,.int .i64 0,.int .i64 0,.int .i64 0,.int .i64 0,.int .i64 0,.int .i64 0,.int .i64 0,.int .i64 0,.int .i64 0,.int .i64 0,.int .i64 0] 203) (o4:=.cells #[.int .i64 p,.int .i64 (k:Nat),.iface tl ul,.iface tr ur,.slice av nv cv,.slice ae ne ce,.bool hb] 290) (Below.refl _ _)
 have HW:=hs _ (AKeep.of_below kb h.le) (h.call kb)
 have hws:=wk_size C b
 have hx17:=stC_size (some e)
 have u17:=stC_size u
 have u1o:=stC_one u
 unfold Post at HW
 generalize wk C b=wa at *
 generalize stC (some e)=xa at *
 generalize huu:stC u=uu at *
 have HUU:Hid (_=uu):=huu
 have K0:Hid (_=_):=k0
 have K1:Hid (_=_):=k1
 have K2:Hid (_=_):=k2
 have HB:Hid (Below w.heap.size w _):=kb
 have HA:Hid (AnAt C π T F w):=h
 have l2:w.heap.size≤w.heap.size + 1 + 1:=by omega
 clear h hs k0 k1 k2 k3 kb huu
 go_enter Tryz.func112,Tryz.ntmps112
 go_wp2_with (first
  | (refine wp_ldW rfl _ rfl rfl (c:=wa) (by exact K0.out) hws ?_)
  | (refine wp_ld rfl _ rfl rfl (c:=xa) (by exact K1.out) hx17 ?_))
 refine HW.mono ?_
 rintro r w1 ⟨rfl,a1,b1⟩
 have hz1:=b1.mine HA.out l2 K2.out
 have HZ1:Hid (_=_):=hz1
 have hr0:Hid (_=_):=setCells_whole hz1 (d:=uu) (by rw [u17]; rfl)
 have HBf:Hid (Below w.heap.size w1 _):=setCells_below (b:=w.heap.size + 1 + 1) l2 uu.toList 0 w1 _ (Below.refl _ _)
 have HA1:Hid (AnAt C π T (told π b F es) w1):=a1
 have HK1:Hid (AKeep C w w1):=(AKeep.of_below HB.out HA.out.le).trans b1
 clear a1 b1 HW hz1
 go_wp2_with (first
  | (refine wp_st rfl _ _ rfl rfl rfl HZ1.out rfl u17 u1o ?_))
 refine bodyPost_ret (results_st Tryz.results112 _ _ rfl hr0.out u17) rfl ⟨by rw [HUU.out],HA.out.upon HA1.out HBf.out,AKeep.upon HA.out HK1.out HBf.out⟩
theorem stmt_while (p:Int) (k:Nat) (tl:TypeId) (ul:Value) (tr:TypeId) (ur:Value) (av:Option Addr) (nv cv:Nat) (C:Cx) (π:Par) (T:Tab) (F:Fd) (b:Bool) (w:World) (e:Fin 8→Sp.Cg) (es:List TelT) (u:ST) (h:AnAt C π T F w)
  (hs:∀ W,AKeep C w W→AnAt C π T F W→Calls Tryz.prog 156 #[.agg (wk C b),.agg #[.int .i64 p,.int .i64 (k:Nat),.iface tl ul,.iface tr ur,.slice av nv cv],.agg (stC (some e))] W (Post C π T F b W es u)) :
  Calls Tryz.prog 112 #[.agg (wk C b),.iface 293 (.agg #[.int .i64 p,.int .i64 (k:Nat),.iface tl ul,.iface tr ur,.slice av nv cv]),.agg (stC (some e))] w (Post C π T F b w es u):=by
 have h1:=ts_5_1 (.agg #[.int .i64 p,.int .i64 (k:Nat),.iface tl ul,.iface tr ur,.slice av nv cv])
 have h2:=ts_5_2 (.agg #[.int .i64 p,.int .i64 (k:Nat),.iface tl ul,.iface tr ur,.slice av nv cv])
 have h3:=ts_5_3 (.agg #[.int .i64 p,.int .i64 (k:Nat),.iface tl ul,.iface tr ur,.slice av nv cv])
 have h4:=ts_5_4 (.agg #[.int .i64 p,.int .i64 (k:Nat),.iface tl ul,.iface tr ur,.slice av nv cv])
 have h5:=ts_5_5 (.agg #[.int .i64 p,.int .i64 (k:Nat),.iface tl ul,.iface tr ur,.slice av nv cv])
 obtain ⟨k0,k1,k2,k3,kb⟩:=laid4b (w:=w) (o1:=.cells (wk C b) 200) (o2:=.cells (stC (some e)) 203) (o3:=.cells #[.bool false,.int .i64 0,.int .i64 0,.int .i64 0,.int .i64 0,.int .i64 0,.int .i64 0,.int .i64 0,.int .i64 0,.int .i64 0,.int .i64 0,.int .i64 0,.int .i64 0,.int .i64 0,.int .i64 0,.int .i64 0,.int .i64 0] 203) (o4:=.cells #[.int .i64 p,.int .i64 (k:Nat),.iface tl ul,.iface tr ur,.slice av nv cv] 293) (Below.refl _ _)
 have HW:=hs _ (AKeep.of_below kb h.le) (h.call kb)
 have hws:=wk_size C b
 have hx17:=stC_size (some e)
 have u17:=stC_size u
 have u1o:=stC_one u
 unfold Post at HW
 generalize wk C b=wa at *
 generalize stC (some e)=xa at *
 generalize huu:stC u=uu at *
 have HUU:Hid (_=uu):=huu
 have K0:Hid (_=_):=k0
 have K1:Hid (_=_):=k1
 have K2:Hid (_=_):=k2
 have HB:Hid (Below w.heap.size w _):=kb
 have HA:Hid (AnAt C π T F w):=h
 have l2:w.heap.size≤w.heap.size + 1 + 1:=by omega
 clear h hs k0 k1 k2 k3 kb huu
 go_enter Tryz.func112,Tryz.ntmps112
 go_wp2_with (first
  | (refine wp_ldW rfl _ rfl rfl (c:=wa) (by exact K0.out) hws ?_)
  | (refine wp_ld rfl _ rfl rfl (c:=xa) (by exact K1.out) hx17 ?_))
 refine HW.mono ?_
 rintro r w1 ⟨rfl,a1,b1⟩
 have hz1:=b1.mine HA.out l2 K2.out
 have HZ1:Hid (_=_):=hz1
 have hr0:Hid (_=_):=setCells_whole hz1 (d:=uu) (by rw [u17]; rfl)
 have HBf:Hid (Below w.heap.size w1 _):=setCells_below (b:=w.heap.size + 1 + 1) l2 uu.toList 0 w1 _ (Below.refl _ _)
 have HA1:Hid (AnAt C π T (told π b F es) w1):=a1
 have HK1:Hid (AKeep C w w1):=(AKeep.of_below HB.out HA.out.le).trans b1
 clear a1 b1 HW hz1
 go_wp2_with (first
  | (refine wp_st rfl _ _ rfl rfl rfl HZ1.out rfl u17 u1o ?_))
 refine bodyPost_ret (results_st Tryz.results112 _ _ rfl hr0.out u17) rfl ⟨by rw [HUU.out],HA.out.upon HA1.out HBf.out,AKeep.upon HA.out HK1.out HBf.out⟩
end WC
end Go.Proofs.YtiopfihjmkfdmaaGreatDoor
namespace Go.Proofs.YtiopfihjmkfdmaaGreatDoor
namespace WC
open Go.RowKit
set_option maxRecDepth 100000
set_option maxHeartbeats 1000000
theorem each_widen (uD:Value) (g:Sp.Cg→Sp.Cg→Sp.Cg) (xs ys:List Sp.Cg) (w:World) (hx:xs.length=8) (hy:ys.length=8) (hwx:∀ x ∈ xs,Wv x) (hwy:∀ y ∈ ys,Wv y)
  (hput:∀ W x y,Below w.heap.size w W→Wv x→Wv y→Calls Tryz.prog 304 #[uD,.agg #[.int .i64 ((x.m:Nat):Int),.int .i64 x.r],.agg #[.int .i64 ((y.m:Nat):Int),.int .i64 y.r]] W fun e w'=>e=.returned (.agg #[.int .i64 (((g x y).m:Nat):Int),.int .i64 (g x y).r])∧Below W.heap.size W w') :
  Calls Tryz.prog 157 #[.agg (stI true xs),.agg (stI true ys),.func (Fn.method "Widen") #[.iface 128 uD] #[]] w fun e w'=>e=.returned (.agg (stI true (List.zipWith g xs ys)))∧Below w.heap.size w w':=by
 have HP:Hid (_):=hput
 have zx:=stI_zero true xs
 have zy:=stI_zero true ys
 have H0:Hid (EachAt w xs ys (((w.alloc (.cells (stI true xs) 203)).alloc (.cells (stI true ys) 203)).alloc (.cells #[.bool false,.int .i64 0,.int .i64 0,.int .i64 0,.int .i64 0,.int .i64 0,.int .i64 0,.int .i64 0,.int .i64 0,.int .i64 0,.int .i64 0,.int .i64 0,.int .i64 0,.int .i64 0,.int .i64 0,.int .i64 0,.int .i64 0] 203))):=by
  obtain ⟨k0,k1,k2,kb⟩:=laid3b (w:=w) (o1:=.cells (stI true xs) 203) (o2:=.cells (stI true ys) 203) (o3:=.cells noneI 203) (Below.refl _ _)
  exact ⟨k0,k1,k2,kb⟩
 have sx:(stI true xs).size=17:=stI_size hx
 have sy:(stI true ys).size=17:=stI_size hy
 clear hput
 go_enter Tryz.func157,Tryz.ntmps157
 go_wp2_with fail
 go_loopw [17] (fun v17 wr=>∃ j:Nat,j≤8∧v17=.int .i64 j∧Hid (EachAt w (mixI g xs ys j) ys wr)) (fun v17 _=>8 - (intOf v17).toNat)
 case atStart=>exact ⟨0,Nat.zero_le _,rfl,H0.out⟩
 case round =>
  obtain ⟨j,hj,rfl,hq⟩:=hrel
  clear H0 zx zy sx sy
  by_cases hjlt:j<8
  ·obtain ⟨x,hxj⟩:∃ x,xs[j]?=some x:=⟨_,List.getElem?_eq_getElem (by omega)⟩
   obtain ⟨y,hyj⟩:∃ y,ys[j]?=some y:=⟨_,List.getElem?_eq_getElem (by omega)⟩
   have WX:Hid (Wv x):=hwx x (List.mem_of_getElem? hxj)
   have WY:Hid (Wv y):=hwy y (List.mem_of_getElem? hyj)
   have hmj:(mixI g xs ys j)[j]?=some x:=by
    exact mixI_at hx hy hjlt hxj
   have hml:(mixI g xs ys j).length=8:=by unfold mixI; simp; omega
   have hms:Hid ((mixI g xs ys j).set j (g x y)=mixI g xs ys (j + 1)):=mixI_set hx hy hjlt hxj hyj
   obtain ⟨x0,x1⟩:=stI_get (r:=true) hmj
   obtain ⟨y0,y1⟩:=stI_get (r:=true) hyj
   have cx0:=cell_of hq.out.x _ x0
   have cx1:=cell_of hq.out.x _ x1
   have cy0:=cell_of hq.out.y _ y0
   have cy1:=cell_of hq.out.y _ y1
   have hji:(j:Int)<8:=by omega
   clear x0 x1 y0 y1
   go_wp2_with fail
   go_region_with (go_at_call 304; go_must (refine (HP.out _ x y hq.out.b.drew WX.out WY.out).mono ?_); rintro e w1 ⟨rfl,b1⟩; have A1:Hid (EachAt w (mixI g xs ys j) ys w1):=hq.out.call (W':=w1) ⟨b1.os,b1.tape,b1.output,b1.size,b1.block⟩; obtain ⟨d0,d1,d2,d3⟩:=A1.out.cells hmj)
   all_goals
    have A2:Hid (EachAt w (mixI g xs ys (j + 1)) ys ((w1.setCell ⟨w.heap.size,1 + j * 2,none⟩ (.int .i64 (((g x y).m:Nat):Int))).setCell ⟨w.heap.size,1 + j * 2 + 1,none⟩ (.int .i64 (g x y).r))):=by
     unfold Hid; rw [← hms.out]; exact A1.out.set (by omega) (g x y)
    clear b1
    go_wp2_with fail
    exact ⟨⟨j + 1,by omega,by go_num,A2⟩,by simp [intOf]; omega⟩
  ·obtain rfl:j=8:=by omega
   have A:Hid (EachAt w (List.zipWith g xs ys) ys wr):=by unfold Hid; rw [← mixI_end hx hy]; exact hq.out
   have sz:(stI true (List.zipWith g xs ys)).size=17:=stI_size (by simp; omega)
   have hr:Hid (_=_):=setCells_whole A.out.z (d:=stI true (List.zipWith g xs ys)) (by rw [sz]; rfl)
   have HB:Hid (Below w.heap.size w _):=setCells_below (b:=w.heap.size + 1 + 1) (by omega) (stI true (List.zipWith g xs ys)).toList 0 w _ A.out.b
   clear hq hj hjlt
   go_wp2_with (first
    | (refine wp_ld rfl _ rfl rfl A.out.x sz ?_)
    | (refine wp_st rfl _ _ rfl rfl rfl A.out.z rfl sz (stI_one _ _) ?_))
   refine bodyPost_ret (results_st Tryz.results157 _ _ rfl hr.out sz) rfl ⟨rfl,HB.out⟩
theorem each_narrow (uD:Value) (g:Sp.Cg→Sp.Cg→Sp.Cg) (xs ys:List Sp.Cg) (w:World) (hx:xs.length=8) (hy:ys.length=8) (hwx:∀ x ∈ xs,Wv x) (hwy:∀ y ∈ ys,Wv y)
  (hput:∀ W x y,Below w.heap.size w W→Wv x→Wv y→Calls Tryz.prog 299 #[uD,.agg #[.int .i64 ((x.m:Nat):Int),.int .i64 x.r],.agg #[.int .i64 ((y.m:Nat):Int),.int .i64 y.r]] W fun e w'=>e=.returned (.agg #[.int .i64 (((g x y).m:Nat):Int),.int .i64 (g x y).r])∧Below W.heap.size W w') :
  Calls Tryz.prog 157 #[.agg (stI true xs),.agg (stI true ys),.func (Fn.method "Narrow") #[.iface 128 uD] #[]] w fun e w'=>e=.returned (.agg (stI true (List.zipWith g xs ys)))∧Below w.heap.size w w':=by
 have HP:Hid (_):=hput
 have zx:=stI_zero true xs
 have zy:=stI_zero true ys
 have H0:Hid (EachAt w xs ys (((w.alloc (.cells (stI true xs) 203)).alloc (.cells (stI true ys) 203)).alloc (.cells #[.bool false,.int .i64 0,.int .i64 0,.int .i64 0,.int .i64 0,.int .i64 0,.int .i64 0,.int .i64 0,.int .i64 0,.int .i64 0,.int .i64 0,.int .i64 0,.int .i64 0,.int .i64 0,.int .i64 0,.int .i64 0,.int .i64 0] 203))):=by
  obtain ⟨k0,k1,k2,kb⟩:=laid3b (w:=w) (o1:=.cells (stI true xs) 203) (o2:=.cells (stI true ys) 203) (o3:=.cells noneI 203) (Below.refl _ _)
  exact ⟨k0,k1,k2,kb⟩
 have sx:(stI true xs).size=17:=stI_size hx
 have sy:(stI true ys).size=17:=stI_size hy
 clear hput
 go_enter Tryz.func157,Tryz.ntmps157
 go_wp2_with fail
 go_loopw [17] (fun v17 wr=>∃ j:Nat,j≤8∧v17=.int .i64 j∧Hid (EachAt w (mixI g xs ys j) ys wr)) (fun v17 _=>8 - (intOf v17).toNat)
 case atStart=>exact ⟨0,Nat.zero_le _,rfl,H0.out⟩
 case round =>
  obtain ⟨j,hj,rfl,hq⟩:=hrel
  clear H0 zx zy sx sy
  by_cases hjlt:j<8
  ·obtain ⟨x,hxj⟩:∃ x,xs[j]?=some x:=⟨_,List.getElem?_eq_getElem (by omega)⟩
   obtain ⟨y,hyj⟩:∃ y,ys[j]?=some y:=⟨_,List.getElem?_eq_getElem (by omega)⟩
   have WX:Hid (Wv x):=hwx x (List.mem_of_getElem? hxj)
   have WY:Hid (Wv y):=hwy y (List.mem_of_getElem? hyj)
   have hmj:(mixI g xs ys j)[j]?=some x:=by
    exact mixI_at hx hy hjlt hxj
   have hml:(mixI g xs ys j).length=8:=by unfold mixI; simp; omega
   have hms:Hid ((mixI g xs ys j).set j (g x y)=mixI g xs ys (j + 1)):=mixI_set hx hy hjlt hxj hyj
   obtain ⟨x0,x1⟩:=stI_get (r:=true) hmj
   obtain ⟨y0,y1⟩:=stI_get (r:=true) hyj
   have cx0:=cell_of hq.out.x _ x0
   have cx1:=cell_of hq.out.x _ x1
   have cy0:=cell_of hq.out.y _ y0
   have cy1:=cell_of hq.out.y _ y1
   have hji:(j:Int)<8:=by omega
   clear x0 x1 y0 y1
   go_wp2_with fail
   go_region_with (go_at_call 299; go_must (refine (HP.out _ x y hq.out.b.drew WX.out WY.out).mono ?_); rintro e w1 ⟨rfl,b1⟩; have A1:Hid (EachAt w (mixI g xs ys j) ys w1):=hq.out.call (W':=w1) ⟨b1.os,b1.tape,b1.output,b1.size,b1.block⟩; obtain ⟨d0,d1,d2,d3⟩:=A1.out.cells hmj)
   all_goals
    have A2:Hid (EachAt w (mixI g xs ys (j + 1)) ys ((w1.setCell ⟨w.heap.size,1 + j * 2,none⟩ (.int .i64 (((g x y).m:Nat):Int))).setCell ⟨w.heap.size,1 + j * 2 + 1,none⟩ (.int .i64 (g x y).r))):=by
     unfold Hid; rw [← hms.out]; exact A1.out.set (by omega) (g x y)
    clear b1
    go_wp2_with fail
    exact ⟨⟨j + 1,by omega,by go_num,A2⟩,by simp [intOf]; omega⟩
  ·obtain rfl:j=8:=by omega
   have A:Hid (EachAt w (List.zipWith g xs ys) ys wr):=by unfold Hid; rw [← mixI_end hx hy]; exact hq.out
   have sz:(stI true (List.zipWith g xs ys)).size=17:=stI_size (by simp; omega)
   have hr:Hid (_=_):=setCells_whole A.out.z (d:=stI true (List.zipWith g xs ys)) (by rw [sz]; rfl)
   have HB:Hid (Below w.heap.size w _):=setCells_below (b:=w.heap.size + 1 + 1) (by omega) (stI true (List.zipWith g xs ys)).toList 0 w _ A.out.b
   clear hq hj hjlt
   go_wp2_with (first
    | (refine wp_ld rfl _ rfl rfl A.out.x sz ?_)
    | (refine wp_st rfl _ _ rfl rfl rfl A.out.z rfl sz (stI_one _ _) ?_))
   refine bodyPost_ret (results_st Tryz.results157 _ _ rfl hr.out sz) rfl ⟨rfl,HB.out⟩
end WC
end Go.Proofs.YtiopfihjmkfdmaaGreatDoor
namespace Go.Proofs.YtiopfihjmkfdmaaGreatDoor
namespace WC
open Go.RowKit
set_option maxRecDepth 100000
set_option maxHeartbeats 1000000
theorem each_none (f:Value) (x y:Array Value) (w:World) (h0:x[0]?=some (.bool false)) :
  Calls Tryz.prog 157 #[.agg x,.agg y,f] w fun e w'=>e=.returned (.agg (stC none))∧Below w.heap.size w w':=by
 obtain ⟨k0,k1,k2,kb⟩:=laid3b (w:=w) (o1:=.cells x 203) (o2:=.cells y 203) (o3:=.cells #[.bool false,.int .i64 0,.int .i64 0,.int .i64 0,.int .i64 0,.int .i64 0,.int .i64 0,.int .i64 0,.int .i64 0,.int .i64 0,.int .i64 0,.int .i64 0,.int .i64 0,.int .i64 0,.int .i64 0,.int .i64 0,.int .i64 0] 203) (Below.refl _ _)
 have c0:=cell_of k0 0 h0
 have HZ:Hid (_=_):=k2
 have HBf:Hid (Below w.heap.size w _):=kb
 clear k0 k1 k2 kb
 go_enter Tryz.func157,Tryz.ntmps157
 go_wp2_with fail
 refine bodyPost_ret (results_st Tryz.results157 _ _ rfl HZ.out rfl) rfl ⟨rfl,HBf.out⟩
theorem widen_calls {B:Nat} {π:Par} (dv:Value) (e e':Fin 8→Sp.Cg) (w:World) (hd:Does B π dv w) (he:∀ k,Wv (e k)) (he':∀ k,Wv (e' k)) :
  Calls Tryz.prog 157 #[.agg (stC (some e)),.agg (stC (some e')),.func (Fn.method "Widen") #[.iface 128 dv] #[]] w fun r w'=>r=.returned (.agg (stC (Sp.eachV (Dm π) (Dm π).widen (some e) (some e'))))∧Below w.heap.size w w':=by
 have h:=each_widen dv (vWiden π) (List.ofFn e) (List.ofFn e') w (by simp) (by simp) (fun x hx=>by obtain ⟨k,rfl⟩:=List.mem_ofFn.1 hx; exact he k) (fun x hx=>by obtain ⟨k,rfl⟩:=List.mem_ofFn.1 hx; exact he' k)
  (fun W x y k wx wy=>dWiden (hd.below (k.mono hd.size)) wx wy)
 rw [zip_ofFn] at h
 exact h
theorem narrow_calls {B:Nat} {π:Par} (dv:Value) (e e':Fin 8→Sp.Cg) (w:World) (hd:Does B π dv w) (he:∀ k,Wv (e k)) (he':∀ k,Wv (e' k)) :
  Calls Tryz.prog 157 #[.agg (stC (some e)),.agg (stC (some e')),.func (Fn.method "Narrow") #[.iface 128 dv] #[]] w fun r w'=>r=.returned (.agg (stC (Sp.eachV (Dm π) (Dm π).narrow (some e) (some e'))))∧Below w.heap.size w w':=by
 have h:=each_narrow dv vNarrow (List.ofFn e) (List.ofFn e') w (by simp) (by simp) (fun x hx=>by obtain ⟨k,rfl⟩:=List.mem_ofFn.1 hx; exact he k) (fun x hx=>by obtain ⟨k,rfl⟩:=List.mem_ofFn.1 hx; exact he' k)
  (fun W x y k wx wy=>dNarrow (hd.below (k.mono hd.size)) wx wy)
 rw [zip_ofFn] at h
 exact h
end WC
end Go.Proofs.YtiopfihjmkfdmaaGreatDoor
namespace Go.Proofs.YtiopfihjmkfdmaaGreatDoor
namespace WC
open Go.RowKit
abbrev vA (x:Sp.Cg):Int:=((x.m:Nat):Int)
abbrev vB (x:Sp.Cg):Int:=x.r
theorem v_inj {x y:Sp.Cg} (h:vA x=vA y) (k:vB x=vB y):x=y:=by
 cases x; cases y
 simp only [vA,vB] at h k
 rw [Int.ofNat_inj.1 h,k]
def NumOk (x:Sp.Cg):Prop:=(Lit.int .i64 (vA x)).wf=true∧(Lit.int .i64 (vB x)).wf=true
theorem num_ok {x:Sp.Cg} (h:Wv x):NumOk x:=by
 obtain ⟨h1,h2⟩:=wf_small h
 have e1:IntKind.i64.min=-9223372036854775808:=rfl
 have e2:IntKind.i64.max=9223372036854775807:=rfl
 refine ⟨?_,?_⟩ <;> (simp only [Lit.wf,vA,vB,e1,e2,Bool.and_eq_true,decide_eq_true_eq]; omega)
theorem num_zero:NumOk ⟨0,0⟩:=⟨by rfl,by rfl⟩
end WC
end Go.Proofs.YtiopfihjmkfdmaaGreatDoor
