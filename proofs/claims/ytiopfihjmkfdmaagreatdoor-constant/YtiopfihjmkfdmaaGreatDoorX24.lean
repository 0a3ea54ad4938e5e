import Derived.Test.YtiopfihjmkfdmaaGreatDoorX10
import Derived.Test.YtiopfihjmkfdmaaGreatDoorX15
import Derived.Test.YtiopfihjmkfdmaaGreatDoorX23
namespace Go.Proofs.YtiopfihjmkfdmaaGreatDoor
open Go.RowKit
set_option maxRecDepth 100000
set_option maxHeartbeats 1000000
def optC:Option Sp.Cg→Value
 | some x=>.tuple #[.agg #[.int .i64 (x.m:Nat),.int .i64 x.r],.bool true]
 | none=>.tuple #[.agg #[.int .i64 0,.int .i64 0],.bool false]
theorem optC_some {a:Nat} {b:Int} {r:Option Sp.Cg} (h:r=some ⟨a,b⟩):Ending.returned (.tuple #[.agg #[.int .i64 (a:Nat),.int .i64 b],.bool true])=.returned (optC r):=by rw [h]; rfl
theorem optC_none {r:Option Sp.Cg} (h:r=none):Ending.returned (.tuple #[.agg #[.int .i64 0,.int .i64 0],.bool false])=.returned (optC r):=by rw [h]; rfl
theorem cg_alone (m:Nat) (r:Int) (w:World) :
  Calls Tryz.prog 294 #[.agg #[.int .i64 (m:Nat),.int .i64 r]] w fun e w'=>e=.returned (.bool (decide (m=0)))∧Below w.heap.size w w':=by
 go_enter Tryz.func294,Tryz.ntmps294
 go_wp2_with fail
 go_returns
 exact ⟨ret_bool (by rw [Bool.eq_iff_iff]; simp; try omega),by go_grown⟩
theorem cg_number (n:Int) (w:World) (h1:-32768≤n) (h2:n≤32767) :
  Calls Tryz.prog 301 #[.agg #[],.int .i16 n] w fun e w'=>e=.returned (.agg #[.int .i64 0,.int .i64 n])∧Below w.heap.size w w':=by
 go_enter Tryz.func301,Tryz.ntmps301
 go_wp2_with fail
 go_returns
 exact ⟨rfl,by go_grown⟩
theorem cg_whole (w:World) :
  Calls Tryz.prog 303 #[.agg #[]] w fun e w'=>e=.returned (.agg #[.int .i64 1,.int .i64 0])∧Below w.heap.size w w':=by
 go_enter Tryz.func303,Tryz.ntmps303
 go_wp2_with fail
 go_returns
 exact ⟨rfl,by go_grown⟩
theorem cg_nought (m:Nat) (r:Int) (w:World) :
  Calls Tryz.prog 296 #[.agg #[],.agg #[.int .i64 (m:Nat),.int .i64 r]] w fun e w'=>e=.returned (.bool (decide (r=0)))∧Below w.heap.size w w':=by
 go_enter Tryz.func296,Tryz.ntmps296
 go_wp2_with fail
 go_returns
 exact ⟨ret_bool (by rw [Bool.eq_iff_iff]; simp),by go_grown⟩
theorem cg_widen (a b c d:Int) (w:World) :
  Calls Tryz.prog 304 #[.agg #[],.agg #[.int .i64 a,.int .i64 b],.agg #[.int .i64 c,.int .i64 d]] w fun e w'=>e=.returned (.agg #[.int .i64 c,.int .i64 d])∧Below w.heap.size w w':=by
 go_enter Tryz.func304,Tryz.ntmps304
 go_wp2_with fail
 go_returns
 exact ⟨rfl,by go_grown⟩
theorem cg_narrow (a b c d:Int) (w:World) :
  Calls Tryz.prog 299 #[.agg #[],.agg #[.int .i64 a,.int .i64 b],.agg #[.int .i64 c,.int .i64 d]] w fun e w'=>e=.returned (.agg #[.int .i64 a,.int .i64 b])∧Below w.heap.size w w':=by
 go_enter Tryz.func299,Tryz.ntmps299
 go_wp2_with fail
 go_returns
 exact ⟨rfl,by go_grown⟩
theorem cg_tell (a b:Int) (w:World) :
  Calls Tryz.prog 302 #[.agg #[],.agg #[.int .i64 a,.int .i64 b]] w fun e w'=>e=.returned (.agg #[.int .i64 a,.int .i64 b])∧Below w.heap.size w w':=by
 go_enter Tryz.func302,Tryz.ntmps302
 go_wp2_with fail
 go_returns
 exact ⟨rfl,by go_grown⟩
theorem cg_left (n m:Int) (w:World) (h0:0<m) (h1:m≤17179869184) :
  Calls Tryz.prog 314 #[.int .i64 n,.int .i64 m] w fun e w'=>e=.returned (.int .i64 (n % m))∧w'=w:=by
 have hm:¬ m=0:=by omega
 have t1:-m<n.tmod m:=Int.lt_tmod_of_pos n h0
 have t2:n.tmod m<m:=Int.tmod_lt_of_pos n h0
 have E:Hid ((n.tmod m + m).tmod m=n % m):=Sp.left_eq n h0
 have e3:0≤n % m:=Int.emod_nonneg _ (by omega)
 have e4:n % m<m:=Int.emod_lt_of_pos _ h0
 rw [← E.out] at e3 e4
 have w1:IntKind.i64.wrap (n.tmod m)=n.tmod m:=by rw [IntWalk.i64_in] <;> omega
 have w2:IntKind.i64.wrap (n.tmod m + m)=n.tmod m + m:=by rw [IntWalk.i64_in] <;> omega
 have w3:IntKind.i64.wrap ((n.tmod m + m).tmod m)=(n.tmod m + m).tmod m:=by rw [IntWalk.i64_in] <;> omega
 go_enter Tryz.func314,Tryz.ntmps314
 go_wp2_with fail
 go_ret
 have E2:(n.tmod m + m) % m=n % m:=by rw [← E.out]; exact (Int.tmod_eq_emod_of_nonneg (a:=n.tmod m + m) (by omega)).symm
 exact ⟨by show Ending.returned (.int .i64 ((n.tmod m + m) % m))=_; rw [E2],rfl⟩
theorem cg_class (k:Nat) (n:Int) (w:World) (hk:(k:Int)≤17179869184) :
  Calls Tryz.prog 307 #[.int .i64 (k:Nat),.int .i64 n] w fun e w'=>e=.returned (.agg #[.int .i64 ((Sp.cgClass k n).m:Nat),.int .i64 (Sp.cgClass k n).r])∧Below w.heap.size w w':=by
 unfold Sp.cgClass
 by_cases h0:k=0
 ·rw [if_pos h0]
  subst h0
  go_enter Tryz.func307,Tryz.ntmps307
  go_wp2_with fail
  go_returns
  exact ⟨rfl,by go_grown⟩
 ·rw [if_neg h0]
  simp only [Sp.cgBy]
  have h0':¬ (k:Int)=0:=by omega
  obtain ⟨t,ht⟩:∃ t,Hid (t=n % (k:Int)):=⟨_,rfl⟩
  rw [← ht.out]
  have HC:Hid (∀ W,Calls _ _ _ W _):=fun W=>cg_left n (k:Int) W (by omega) hk
  rw [← ht.out] at HC
  go_enter Tryz.func307,Tryz.ntmps307
  go_wp2_with fail
  refine (HC.out _).mono ?_
  rintro e w1 ⟨rfl,rfl⟩
  go_wp2_with fail
  go_returns
  exact ⟨rfl,by go_grown⟩
end Go.Proofs.YtiopfihjmkfdmaaGreatDoor
namespace Go.Proofs.YtiopfihjmkfdmaaGreatDoor
open Go.RowKit
set_option maxRecDepth 100000
set_option maxHeartbeats 1000000
theorem laid2b {w w1:World} {o1 o2:Obj} (b:Below ((w.alloc o1).alloc o2).heap.size ((w.alloc o1).alloc o2) w1):w1.heap[w.heap.size]?=some o1∧w1.heap[w.heap.size + 1]?=some o2∧Below w.heap.size w w1:=by
 refine ⟨?_,?_,?_⟩
 ·rw [b.block _ (by simp; omega)]; exact heap_alloc_old (heap_alloc_new _ _)
 ·rw [b.block _ (by simp)]
  have:=heap_alloc_new (w.alloc o1) o2
  simpa using this
 ·exact (((Below.refl _ _).alloc (Nat.le_refl _) _).alloc (by simp) _).trans (b.mono (by simp; omega))
theorem below_drop {w w1:World} {o:Obj} (b:Below (w.alloc o).heap.size (w.alloc o) w1):Below w.heap.size w w1∧w1.heap[w.heap.size]?=some o:=by
 refine ⟨((Below.refl _ _).alloc (Nat.le_refl _) _).trans (b.mono (by simp)),?_⟩
 rw [b.block _ (by simp)]
 exact heap_alloc_new _ _
theorem laid3b {w w1:World} {o1 o2 o3:Obj} (b:Below (((w.alloc o1).alloc o2).alloc o3).heap.size (((w.alloc o1).alloc o2).alloc o3) w1):w1.heap[w.heap.size]?=some o1∧w1.heap[w.heap.size + 1]?=some o2∧w1.heap[w.heap.size + 1 + 1]?=some o3∧Below w.heap.size w w1:=by
 obtain ⟨b',h3⟩:=below_drop b
 obtain ⟨h1,h2,hb⟩:=laid2b b'
 exact ⟨h1,h2,by simpa using h3,hb⟩
theorem laid4b {w w1:World} {o1 o2 o3 o4:Obj} (b:Below ((((w.alloc o1).alloc o2).alloc o3).alloc o4).heap.size ((((w.alloc o1).alloc o2).alloc o3).alloc o4) w1):w1.heap[w.heap.size]?=some o1∧w1.heap[w.heap.size + 1]?=some o2∧w1.heap[w.heap.size + 1 + 1]?=some o3∧w1.heap[w.heap.size + 1 + 1 + 1]?=some o4∧Below w.heap.size w w1:=by
 obtain ⟨b',h4⟩:=below_drop b
 obtain ⟨h1,h2,h3,hb⟩:=laid3b b'
 exact ⟨h1,h2,h3,by simpa using h4,hb⟩
end Go.Proofs.YtiopfihjmkfdmaaGreatDoor
namespace Go.Proofs.YtiopfihjmkfdmaaGreatDoor
open Go.RowKit
set_option maxRecDepth 100000
set_option maxHeartbeats 2000000
theorem gcdL_take (zs:List Int) (j:Nat) (z:Int) (h:zs[j]?=some z):Sp.gcdL (zs.take (j + 1))=Nat.gcd (Sp.gcdL (zs.take j)) z.natAbs:=by
 obtain ⟨h1,h2⟩:=List.getElem?_eq_some_iff.1 h
 rw [List.take_succ_eq_append_getElem h1,h2,Sp.gcdL_snoc]
theorem gcdL_le (zs:List Int) (hz:∀ z ∈ zs,z.natAbs≤17179869184):Sp.gcdL zs≤17179869184:=by
 suffices ∀ (zs:List Int) (g:Nat),g≤17179869184→(∀ z ∈ zs,z.natAbs≤17179869184)→zs.foldl (fun g z=>Nat.gcd g z.natAbs) g≤17179869184 from this zs 0 (by omega) hz
 intro zs
 induction zs with
 | nil=>intro g hg _; exact hg
 | cons z zs ih =>
  intro g hg h
  refine ih _ ?_ (fun z hz=>h z (by simp [hz]))
  rcases Nat.eq_zero_or_pos g with rfl | hp
  ·show Nat.gcd 0 z.natAbs≤_
   rw [Nat.gcd_zero_left]; exact h z (by simp)
  ·exact Nat.le_trans (Nat.gcd_le_left _ hp) hg
theorem cg_gcd (g cap:Nat) (zs:List Int) (w:World) (hg:g<w.heap.size) (hn:zs.length≤100) (hz:∀ z ∈ zs,z.natAbs≤17179869184) (hc:∀ (j:Nat) (z:Int),zs[j]?=some z→w.cell? ⟨g,j,none⟩=some (.int .i64 z)) :
  Calls Tryz.prog 308 #[.slice (some ⟨g,0,none⟩) zs.length cap] w fun e w'=>e=.returned (.int .i64 (Sp.gcdL zs:Nat))∧Below w.heap.size w w':=by
 have hlen:(zs.length:Int)≤100:=by omega
 have HC:Hid (∀ (j:Nat) (z:Int),zs[j]?=some z→w.cell? ⟨g,j,none⟩=some (.int .i64 z)):=hc
 have HZ:Hid (∀ z ∈ zs,z.natAbs≤17179869184):=hz
 clear hc hz
 go_enter Tryz.func308,Tryz.ntmps308
 go_wp2_with fail
 go_loopw [3,8] (fun v3 v8 wr=>∃ (j:Nat) (x:Int),j≤zs.length∧v8=.int .i64 j∧v3=.int .i64 x∧Hid (x.natAbs=Sp.gcdL (zs.take j))∧Hid (Below w.heap.size w wr)) (fun _ v8 _=>zs.length - (intOf v8).toNat)
 case atStart=>exact ⟨0,0,Nat.zero_le _,rfl,rfl,rfl,Below.refl _ _⟩
 case round =>
  obtain ⟨j,x,hj,rfl,rfl,hx,hb⟩:=hrel
  by_cases hjlt:j<zs.length
  ·have hji:((j:Nat):Int)<((zs.length:Nat):Int):=by omega
   obtain ⟨z,hzj⟩:∃ z,zs[j]?=some z:=⟨_,List.getElem?_eq_getElem hjlt⟩
   have hcz:wr.cell? ⟨g,j,none⟩=some (.int .i64 z):=by
    rw [hb.out.cell (p:=⟨g,j,none⟩) hg]; exact HC.out j z hzj
   have hzb:=HZ.out z (List.mem_of_getElem? hzj)
   have hxb:x.natAbs≤17179869184:=by rw [hx.out]; exact gcdL_le _ (fun z hz=>HZ.out z (List.mem_of_mem_take hz))
   have HT:=gcdL_take zs j z hzj
   rw [← hx.out] at HT
   have HG:Hid (Sp.gcdL (zs.take (j + 1))=Nat.gcd x.natAbs z.natAbs):=HT
   clear HT hzj hx
   go_wp2_with fail
   go_loopw [3,5] (fun v3 v5 ws=>∃ a b:Int,v3=.int .i64 a∧v5=.int .i64 b∧a.natAbs≤17179869184∧b.natAbs≤17179869184∧Hid (Sp.gcdL (zs.take (j + 1))=Nat.gcd a.natAbs b.natAbs)∧Hid (Below w.heap.size w ws)) (fun _ v5 _=>(intOf v5).natAbs)
   case atStart=>exact ⟨x,z,rfl,rfl,hxb,hzb,HG,hb⟩
   case round =>
    obtain ⟨a,b,rfl,rfl,ha,hbb,hgcd,hq⟩:=hrel
    by_cases hb0:b=0
    ·subst hb0
     have hgn:Hid (a.natAbs=Sp.gcdL (zs.take (j + 1))):=by unfold Hid; rw [hgcd.out]; simp
     go_wp2_with fail
     exact ⟨⟨j + 1,a,by omega,by go_num,rfl,hgn,hq⟩,by simp [intOf]; omega⟩
    ·have hl:=Sp.round_less a hb0
     have hgn:Hid (Sp.gcdL (zs.take (j + 1))=Nat.gcd b.natAbs (a.tmod b).natAbs):=by unfold Hid; rw [hgcd.out,Sp.gcd_round]
     have hwr:IntKind.i64.wrap (a.tmod b)=a.tmod b:=by rw [IntWalk.i64_in] <;> omega
     go_wp2_with fail
     go_region_with (fail)
     all_goals
      go_wp2_with fail
      exact ⟨⟨_,_,_,_,_,_,_,_,⟨b,a.tmod b,rfl,rfl,hbb,by omega,hgn,hq.out.drew⟩,rfl⟩,hl⟩
  ·obtain rfl:j=zs.length:=by omega
   have hxe:x.natAbs=Sp.gcdL zs:=by have:=hx.out; rwa [List.take_length] at this
   have HX:Hid (x.natAbs=Sp.gcdL zs):=hxe
   have hxb:x.natAbs≤17179869184:=by rw [hxe]; exact gcdL_le _ HZ.out
   clear hxe hx
   go_wp2_with fail
   all_goals
    go_ret
    rw [← HX.out]
    first
     | exact ⟨congrArg (fun z:Int=>Ending.returned (.int .i64 z)) (show -x=(x.natAbs:Int) by omega),hb.out⟩
     | exact ⟨congrArg (fun z:Int=>Ending.returned (.int .i64 z)) (show x=(x.natAbs:Int) by omega),hb.out⟩
     | exact ⟨congrArg (fun z:Int=>Ending.returned (.int .i64 z)) (show max x (-x)=(x.natAbs:Int) by omega),hb.out⟩
theorem gcd_new2 (a b:Int) (W:World) (ha:a.natAbs≤17179869184) (hb:b.natAbs≤17179869184) :
  Calls Tryz.prog 308 #[.slice (some ⟨W.heap.size,0,none⟩) 2 2] (W.alloc (.cells #[.int .i64 a,.int .i64 b] 2)) fun e w'=>e=.returned (.int .i64 (Nat.gcd a.natAbs b.natAbs:Nat))∧Below W.heap.size W w':=by
 have hn:=heap_alloc_new W (.cells #[.int .i64 a,.int .i64 b] 2)
 have h:=cg_gcd W.heap.size 2 [a,b] (W.alloc (.cells #[.int .i64 a,.int .i64 b] 2)) (by simp) (by simp) (by
  intro z hz
  simp at hz
  rcases hz with rfl | rfl
  ·exact ha
  ·exact hb) (fun j z hz=>by
  match j,hz with
  | 0,hz=>cases hz; exact cell_of hn 0 rfl
  | 1,hz=>cases hz; exact cell_of hn 1 rfl)
 rw [Sp.gcdL_two] at h
 refine h.mono ?_
 rintro e w' ⟨rfl,b⟩
 exact ⟨rfl,(below_drop b).1⟩
theorem gcd_new3 (a b c:Int) (W:World) (ha:a.natAbs≤17179869184) (hb:b.natAbs≤17179869184) (hcc:c.natAbs≤17179869184) :
  Calls Tryz.prog 308 #[.slice (some ⟨W.heap.size,0,none⟩) 3 3] (W.alloc (.cells #[.int .i64 a,.int .i64 b,.int .i64 c] 2)) fun e w'=>e=.returned (.int .i64 (Nat.gcd (Nat.gcd a.natAbs b.natAbs) c.natAbs:Nat))∧Below W.heap.size W w':=by
 have hn:=heap_alloc_new W (.cells #[.int .i64 a,.int .i64 b,.int .i64 c] 2)
 have h:=cg_gcd W.heap.size 3 [a,b,c] (W.alloc (.cells #[.int .i64 a,.int .i64 b,.int .i64 c] 2)) (by simp) (by simp) (by
  intro z hz
  simp at hz
  rcases hz with rfl | rfl | rfl
  ·exact ha
  ·exact hb
  ·exact hcc) (fun j z hz=>by
  match j,hz with
  | 0,hz=>cases hz; exact cell_of hn 0 rfl
  | 1,hz=>cases hz; exact cell_of hn 1 rfl
  | 2,hz=>cases hz; exact cell_of hn 2 rfl)
 rw [Sp.gcdL_three] at h
 refine h.mono ?_
 rintro e w' ⟨rfl,b⟩
 exact ⟨rfl,(below_drop b).1⟩
end Go.Proofs.YtiopfihjmkfdmaaGreatDoor
namespace Go.Proofs.YtiopfihjmkfdmaaGreatDoor
open Go.RowKit
set_option maxRecDepth 100000
set_option maxHeartbeats 1000000
theorem meet_none {a b c d:Int} (h:min b d<max a c):Sp.ivMeet ⟨a,b⟩ ⟨c,d⟩=none:=by
 unfold Sp.ivMeet
 rw [if_neg (by simp only; omega)]
theorem res2 {w:World} {B:Nat} {x y:Value} {t:TypeId} (h:w.heap[B]?=some (.cells #[x,y] t)):w.cell? ⟨B,0,none⟩=some x∧w.cell? ⟨B,1,none⟩=some y∧w.frozen? ⟨B,0,none⟩=false∧w.frozen? ⟨B,1,none⟩=false ∧
  ∀ u v,((w.setCell ⟨B,0,none⟩ u).setCell ⟨B,1,none⟩ v).cell? ⟨B,0,none⟩=some u∧((w.setCell ⟨B,0,none⟩ u).setCell ⟨B,1,none⟩ v).cell? ⟨B,1,none⟩=some v:=by
 refine ⟨cell_of h 0 rfl,cell_of h 1 rfl,frozen_of h 0,frozen_of h 1,fun u v=>?_⟩
 have h2:=heap_setCell_at (heap_setCell_at h 0 u) 1 v
 exact ⟨cell_of h2 0 rfl,cell_of h2 1 rfl⟩
end Go.Proofs.YtiopfihjmkfdmaaGreatDoor
namespace Go.Proofs.YtiopfihjmkfdmaaGreatDoor
open Go.RowKit
set_option maxRecDepth 100000
set_option maxHeartbeats 4000000
structure CgAt (w:World) (kx ky kr:Nat) (a b c d:Int) (W:World):Prop where
 x:W.heap[kx]?=some (.cells #[.int .i64 a,.int .i64 b] 126)
 y:W.heap[ky]?=some (.cells #[.int .i64 c,.int .i64 d] 126)
 r:∃ u v,W.heap[kr]?=some (.cells #[u,v] 126)
 b:Below w.heap.size w W
theorem CgAt.call {w:World} {kx ky kr:Nat} {a b c d:Int} {W W':World} (h:CgAt w kx ky kr a b c d W) (k:Below W.heap.size W W'):CgAt w kx ky kr a b c d W' :=
 ⟨(k.block _ (heap_lt h.x)).trans h.x,(k.block _ (heap_lt h.y)).trans h.y,by obtain ⟨u,v,h⟩:=h.r; exact ⟨u,v,(k.block _ (heap_lt h)).trans h⟩,h.b.trans (k.mono h.b.size)⟩
theorem CgAt.cells {w:World} {kx ky kr:Nat} {a b c d:Int} {W:World} (h:CgAt w kx ky kr a b c d W):W.cell? ⟨kx,0,none⟩=some (.int .i64 a)∧W.cell? ⟨kx,1,none⟩=some (.int .i64 b)∧W.cell? ⟨ky,0,none⟩=some (.int .i64 c)∧W.cell? ⟨ky,1,none⟩=some (.int .i64 d) :=
 ⟨cell_of h.x 0 rfl,cell_of h.x 1 rfl,cell_of h.y 0 rfl,cell_of h.y 1 rfl⟩
theorem CgAt.put {w:World} {kx ky kr:Nat} {a b c d:Int} {W:World} (h:CgAt w kx ky kr a b c d W) (h1:kx ≠ kr) (h2:ky ≠ kr) (h3:w.heap.size≤kr) (p q:Value):CgAt w kx ky kr a b c d ((W.setCell ⟨kr,0,none⟩ p).setCell ⟨kr,1,none⟩ q):=by
 obtain ⟨u,v,hr⟩:=h.r
 have e1:=heap_setCell_at (heap_setCell_at hr 0 p) 1 q
 exact ⟨by rw [Below.heap_setCell _ _ _ _ h1,Below.heap_setCell _ _ _ _ h1]; exact h.x,by rw [Below.heap_setCell _ _ _ _ h2,Below.heap_setCell _ _ _ _ h2]; exact h.y,⟨_,_,e1⟩,(h.b.setCell (p:=⟨kr,0,none⟩) h3 _).setCell (p:=⟨kr,1,none⟩) h3 _⟩
theorem CgAt.there {w:World} {kx ky kr:Nat} {a b c d:Int} {W:World} (h:CgAt w kx ky kr a b c d W) (p q:Value):((W.setCell ⟨kr,0,none⟩ p).setCell ⟨kr,1,none⟩ q).cell? ⟨kr,0,none⟩=some p∧((W.setCell ⟨kr,0,none⟩ p).setCell ⟨kr,1,none⟩ q).cell? ⟨kr,1,none⟩=some q:=by
 obtain ⟨u,v,hr⟩:=h.r
 exact (res2 hr).2.2.2.2 p q
theorem cg_wrapped (m:Nat) (n:Int) (w:World) (hm:m≤17179869184) :
  Calls Tryz.prog 309 #[.int .i64 (m:Nat),.int .i64 n] w fun e w'=>e=.returned (.agg #[.int .i64 ((Sp.cgTwo m n).m:Nat),.int .i64 (Sp.cgTwo m n).r])∧Below w.heap.size w w':=by
 obtain ⟨gg,hgg⟩:∃ gg,Hid (gg=Nat.gcd m 65536):=⟨_,rfl⟩
 obtain ⟨t,ht⟩:∃ t,Hid (t=Sp.cgTwo m n):=⟨_,rfl⟩
 have HG:Hid (∀ (W:World) (k:Nat),k=W.heap.size→Calls Tryz.prog 308 #[.slice (some ⟨k,0,none⟩) 2 2] (W.alloc (.cells #[.int .i64 (m:Nat),.int .i64 65536] 2)) fun e w'=>e=.returned (.int .i64 (gg:Nat))∧Below W.heap.size W w'):=fun W k hk=>by
  rw [hgg.out,hk]
  exact gcd_new2 (m:Nat) 65536 W (by omega) (by omega)
 have HC:Hid (∀ W:World,Calls Tryz.prog 307 #[.int .i64 (gg:Nat),.int .i64 n] W fun e w'=>e=.returned (.agg #[.int .i64 (t.m:Nat),.int .i64 t.r])∧Below W.heap.size W w'):=fun W=>by
  rw [ht.out,← Sp.class_two m n,hgg.out]
  exact cg_class (Nat.gcd m 65536) n W (by have:=Nat.gcd_le_right (n:=65536) m (by omega); omega)
 rw [← ht.out]
 clear hgg ht
 go_enter Tryz.func309,Tryz.ntmps309
 go_wp2_with fail
 refine (HG.out _ _ (by first | rfl | simp)).mono ?_
 rintro e w1 ⟨rfl,b1⟩
 obtain ⟨bw,hz⟩:=below_drop b1
 have HZ:Hid (_=_):=hz
 have BW:Hid (_):=bw
 clear b1 bw hz HG
 go_wp2_with fail
 refine (HC.out _).mono ?_
 rintro e w2 ⟨rfl,b2⟩
 have hz2:=(b2.block _ (heap_lt HZ.out)).trans HZ.out
 have B2:Hid (Below w.heap.size w w2):=BW.out.trans (b2.mono BW.out.size)
 obtain ⟨m0,m1,mf0,mf1,mq⟩:=res2 hz2
 have MQ:Hid (_∧_):=mq (.int .i64 (t.m:Nat)) (.int .i64 t.r)
 clear mq hz2 b2 HC HZ BW
 go_wp2_with fail
 exact bodyPost_ret (v:=.agg #[.int .i64 (t.m:Nat),.int .i64 t.r]) (by simp [results,Tryz.results309,go_sem,MQ.out.1,MQ.out.2]) rfl ⟨rfl,(B2.out.setCell (p:=⟨w.heap.size,0,none⟩) (Nat.le_refl _) _).setCell (p:=⟨w.heap.size,1,none⟩) (Nat.le_refl _) _⟩
theorem cg_remainder (x y:Sp.Cg) (w:World) (hx1:x.m≤65536) (hy1:y.m≤65536) (hy2:y.r.natAbs≤65536) :
  Calls Tryz.prog 311 #[.agg #[.int .i64 (x.m:Nat),.int .i64 x.r],.agg #[.int .i64 (y.m:Nat),.int .i64 y.r]] w fun e w'=>e=.returned (.agg #[.int .i64 ((Sp.cgClass (Nat.gcd (Nat.gcd x.m y.m) y.r.natAbs) x.r).m:Nat),.int .i64 (Sp.cgClass (Nat.gcd (Nat.gcd x.m y.m) y.r.natAbs) x.r).r])∧Below w.heap.size w w':=by
 have hgl:=gcdL_le [(x.m:Int),(y.m:Int),y.r] (by intro z hz; simp at hz; omega)
 rw [Sp.gcdL_three] at hgl
 simp only [Int.natAbs_natCast] at hgl
 obtain ⟨gg,hgg⟩:∃ gg,Hid (gg=Nat.gcd (Nat.gcd x.m y.m) y.r.natAbs):=⟨_,rfl⟩
 obtain ⟨t,ht⟩:∃ t,Hid (t=Sp.cgClass gg x.r):=⟨_,rfl⟩
 have HG:Hid (∀ (W:World) (k:Nat),k=W.heap.size→Calls Tryz.prog 308 #[.slice (some ⟨k,0,none⟩) 3 3] (W.alloc (.cells #[.int .i64 (x.m:Nat),.int .i64 (y.m:Nat),.int .i64 y.r] 2)) fun e w'=>e=.returned (.int .i64 (gg:Nat))∧Below W.heap.size W w'):=fun W k hk=>by
  rw [hgg.out,hk]
  exact gcd_new3 (x.m:Nat) (y.m:Nat) y.r W (by omega) (by omega) (by omega)
 have HC:Hid (∀ W:World,Calls Tryz.prog 307 #[.int .i64 (gg:Nat),.int .i64 x.r] W fun e w'=>e=.returned (.agg #[.int .i64 (t.m:Nat),.int .i64 t.r])∧Below W.heap.size W w'):=fun W=>by
  rw [ht.out]
  exact cg_class gg x.r W (by rw [hgg.out]; omega)
 rw [← hgg.out,← ht.out]
 clear hgg ht
 generalize x.r=b at *
 generalize y.r=d at *
 generalize ((x.m:Nat):Int)=a at *
 generalize ((y.m:Nat):Int)=c at *
 clear hgl hx1 hy1 hy2
 have h0:CgAt w (w.heap.size) (w.heap.size + 1) (w.heap.size + 1 + 1) a b c d (((w.alloc (.cells #[.int .i64 a,.int .i64 b] 126)).alloc (.cells #[.int .i64 c,.int .i64 d] 126)).alloc (.cells #[.int .i64 0,.int .i64 0] 126)):=by
  obtain ⟨h1,h2,h3,hb⟩:=laid3b (w:=w) (o1:=.cells #[.int .i64 a,.int .i64 b] 126) (o2:=.cells #[.int .i64 c,.int .i64 d] 126) (o3:=.cells #[.int .i64 0,.int .i64 0] 126) (Below.refl _ _)
  exact ⟨h1,h2,⟨_,_,h3⟩,hb⟩
 go_enter Tryz.func311,Tryz.ntmps311
 go_wp2_with fail
 generalize (((w.alloc (.cells #[.int .i64 a,.int .i64 b] 126)).alloc (.cells #[.int .i64 c,.int .i64 d] 126)).alloc (.cells #[.int .i64 0,.int .i64 0] 126))=W at *
 obtain ⟨kx,hkx⟩:∃ kx,kx=(w.heap.size):=⟨_,rfl⟩
 obtain ⟨ky,hky⟩:∃ ky,ky=(w.heap.size + 1):=⟨_,rfl⟩
 obtain ⟨kr,hkr⟩:∃ kr,kr=(w.heap.size + 1 + 1):=⟨_,rfl⟩
 have hk1:kx ≠ kr:=by omega
 have hk2:ky ≠ kr:=by omega
 have hk3:w.heap.size≤kr:=by omega
 rw [← hkr,← hky,← hkx] at h0
 rw [← hkr,← hky,← hkx]
 clear hkx hky hkr
 refine wp_region_held_drew (S:=fun w':World=>CgAt w kx ky kr a b c d w') (by kernel_rfl) (h0.call (Below.refl _ _).drew) (fun hHeld=>?_)
 generalize W.drew=V at *
 refine tk 0 (.pointer (some ⟨kx,0,none⟩)) rfl (fun w' h=>by go_simp) hHeld ?_
 simp only [Act.put]
 refine tk 1 (.int .i64 a) rfl (fun w' h=>by have q:=h.cells.1; go_simp) hHeld ?_
 simp only [Act.put]
 refine tk 2 (.pointer (some ⟨ky,0,none⟩)) rfl (fun w' h=>by go_simp) hHeld ?_
 simp only [Act.put]
 refine tk 3 (.int .i64 c) rfl (fun w' h=>by have q:=h.cells.2.2.1; go_simp) hHeld ?_
 simp only [Act.put]
 refine tk 4 (.pointer (some ⟨ky,1,none⟩)) rfl (fun w' h=>by go_simp) hHeld ?_
 simp only [Act.put]
 refine tk 5 (.int .i64 d) rfl (fun w' h=>by have q:=h.cells.2.2.2; go_simp) hHeld ?_
 simp only [Act.put]
 refine tk 8 (.pointer (some ⟨kx,1,none⟩)) rfl (fun w' h=>by go_simp) hHeld ?_
 simp only [Act.put]
 refine tk 9 (.int .i64 b) rfl (fun w' h=>by have q:=h.cells.2.1; go_simp) hHeld ?_
 simp only [Act.put]
 refine rd1 6 fun K hK=>?_
 simp only [gsb,gsa]
 go_simp
 refine hK.out _ _ (hHeld.call (below_alloc1 _ _)) (fun _=>?_)
 clear hK K
 refine rd1 7 fun K hK=>?_
 simp only [gsb]
 go_simp
 refine (HG.out _ _ (by first | rfl | simp)).mono ?_
 rintro e w1 ⟨rfl,b1⟩
 replace hHeld:=hHeld.call b1
 clear b1
 go_wp2_with fail
 refine hK.out _ _ hHeld (fun _=>?_)
 clear hK K
 refine rd1 10 fun K hK=>?_
 simp only [gsb]
 go_simp
 refine (HC.out _).mono ?_
 rintro e w2 ⟨rfl,b1⟩
 replace hHeld:=hHeld.call b1
 clear b1
 go_wp2_with fail
 refine hK.out _ _ hHeld (fun _=>?_)
 clear hK K
 have MQ:=hHeld.there (.int .i64 (t.m:Nat)) (.int .i64 t.r)
 have BQ:=(hHeld.put hk1 hk2 hk3 (.int .i64 (t.m:Nat)) (.int .i64 t.r)).b
 obtain ⟨u0,v0,hr⟩:=hHeld.r
 obtain ⟨m0,m1,mf0,mf1,_⟩:=res2 hr
 clear hr
 refine rd1 11 fun K hK=>?_
 simp only [gsb]
 go_simp
 refine hK.out _ _ (hHeld.put hk1 hk2 hk3 _ _) (fun hHeld=>?_)
 clear hK K
 refine wpAnyH_done (by kernel_rfl) ?_ _
 go_wp2_with fail
 exact bodyPost_ret (v:=.agg #[.int .i64 (t.m:Nat),.int .i64 t.r]) (by simp [results,Tryz.results311,go_sem,MQ.1,MQ.2]) rfl ⟨rfl,BQ⟩
theorem cg_join (x y:Sp.Cg) (w:World) (hx1:x.m≤65536) (hx2:x.r.natAbs≤65536) (hy1:y.m≤65536) (hy2:y.r.natAbs≤65536) (hw:Sp.cgWf x) :
  Calls Tryz.prog 297 #[.agg #[],.agg #[.int .i64 (x.m:Nat),.int .i64 x.r],.agg #[.int .i64 (y.m:Nat),.int .i64 y.r]] w fun e w'=>e=.returned (.agg #[.int .i64 ((Sp.cgJoin x y).m:Nat),.int .i64 (Sp.cgJoin x y).r])∧Below w.heap.size w w':=by
 have hgl:=gcdL_le [(x.m:Int),(y.m:Int),x.r - y.r] (by intro z hz; simp at hz; omega)
 rw [Sp.gcdL_three] at hgl
 simp only [Int.natAbs_natCast] at hgl
 obtain ⟨gg,hgg⟩:∃ gg,Hid (gg=Nat.gcd (Nat.gcd x.m y.m) (x.r - y.r).natAbs):=⟨_,rfl⟩
 obtain ⟨t,ht⟩:∃ t,Hid (t=Sp.cgClass gg x.r):=⟨_,rfl⟩
 have HG:Hid (∀ (W:World) (k:Nat),k=W.heap.size→Calls Tryz.prog 308 #[.slice (some ⟨k,0,none⟩) 3 3] (W.alloc (.cells #[.int .i64 (x.m:Nat),.int .i64 (y.m:Nat),.int .i64 (x.r - y.r)] 2)) fun e w'=>e=.returned (.int .i64 (gg:Nat))∧Below W.heap.size W w'):=fun W k hk=>by
  rw [hgg.out,hk]
  exact gcd_new3 (x.m:Nat) (y.m:Nat) (x.r - y.r) W (by omega) (by omega) (by omega)
 have HC:Hid (∀ W:World,Calls Tryz.prog 307 #[.int .i64 (gg:Nat),.int .i64 x.r] W fun e w'=>e=.returned (.agg #[.int .i64 (t.m:Nat),.int .i64 t.r])∧Below W.heap.size W w'):=fun W=>by
  rw [ht.out]
  exact cg_class gg x.r W (by rw [hgg.out]; omega)
 rw [Sp.join_class x y hw,← hgg.out,← ht.out]
 clear hgg ht hw
 generalize x.r=b at *
 generalize y.r=d at *
 generalize ((x.m:Nat):Int)=a at *
 generalize ((y.m:Nat):Int)=c at *
 clear hgl hx1 hy1
 have h0:CgAt w (w.heap.size + 1) (w.heap.size + 1 + 1) (w.heap.size + 1 + 1 + 1) a b c d ((((w.alloc (.cells #[] 128)).alloc (.cells #[.int .i64 a,.int .i64 b] 126)).alloc (.cells #[.int .i64 c,.int .i64 d] 126)).alloc (.cells #[.int .i64 0,.int .i64 0] 126)):=by
  obtain ⟨h1,h2,h3,h4,hb⟩:=laid4b (w:=w) (o1:=.cells #[] 128) (o2:=.cells #[.int .i64 a,.int .i64 b] 126) (o3:=.cells #[.int .i64 c,.int .i64 d] 126) (o4:=.cells #[.int .i64 0,.int .i64 0] 126) (Below.refl _ _)
  exact ⟨h2,h3,⟨_,_,h4⟩,hb⟩
 have hbd:IntKind.i64.wrap (b - d)=b - d:=by rw [IntWalk.i64_in] <;> omega
 go_enter Tryz.func297,Tryz.ntmps297
 go_wp2_with fail
 generalize ((((w.alloc (.cells #[] 128)).alloc (.cells #[.int .i64 a,.int .i64 b] 126)).alloc (.cells #[.int .i64 c,.int .i64 d] 126)).alloc (.cells #[.int .i64 0,.int .i64 0] 126))=W at *
 obtain ⟨kx,hkx⟩:∃ kx,kx=(w.heap.size + 1):=⟨_,rfl⟩
 obtain ⟨ky,hky⟩:∃ ky,ky=(w.heap.size + 1 + 1):=⟨_,rfl⟩
 obtain ⟨kr,hkr⟩:∃ kr,kr=(w.heap.size + 1 + 1 + 1):=⟨_,rfl⟩
 have hk1:kx ≠ kr:=by omega
 have hk2:ky ≠ kr:=by omega
 have hk3:w.heap.size≤kr:=by omega
 rw [← hkr,← hky,← hkx] at h0
 rw [← hkr,← hky,← hkx]
 clear hkx hky hkr
 refine wp_region_held_drew (S:=fun w':World=>CgAt w kx ky kr a b c d w') (by kernel_rfl) (h0.call (Below.refl _ _).drew) (fun hHeld=>?_)
 generalize W.drew=V at *
 refine tk 0 (.pointer (some ⟨kx,0,none⟩)) rfl (fun w' h=>by go_simp) hHeld ?_
 simp only [Act.put]
 refine tk 1 (.int .i64 a) rfl (fun w' h=>by have q:=h.cells.1; go_simp) hHeld ?_
 simp only [Act.put]
 refine tk 2 (.pointer (some ⟨ky,0,none⟩)) rfl (fun w' h=>by go_simp) hHeld ?_
 simp only [Act.put]
 refine tk 3 (.int .i64 c) rfl (fun w' h=>by have q:=h.cells.2.2.1; go_simp) hHeld ?_
 simp only [Act.put]
 refine tk 4 (.pointer (some ⟨kx,1,none⟩)) rfl (fun w' h=>by go_simp) hHeld ?_
 simp only [Act.put]
 refine tk 5 (.int .i64 b) rfl (fun w' h=>by have q:=h.cells.2.1; go_simp) hHeld ?_
 simp only [Act.put]
 refine tk 6 (.pointer (some ⟨ky,1,none⟩)) rfl (fun w' h=>by go_simp) hHeld ?_
 simp only [Act.put]
 refine tk 7 (.int .i64 d) rfl (fun w' h=>by have q:=h.cells.2.2.2; go_simp) hHeld ?_
 simp only [Act.put]
 refine tk 11 (.pointer (some ⟨kx,1,none⟩)) rfl (fun w' h=>by go_simp) hHeld ?_
 simp only [Act.put]
 refine tk 12 (.int .i64 b) rfl (fun w' h=>by have q:=h.cells.2.1; go_simp) hHeld ?_
 simp only [Act.put]
 refine tk 8 (.int .i64 (b - d)) rfl (fun w' h=>by go_simp) hHeld ?_
 simp only [Act.put]
 refine rd1 9 fun K hK=>?_
 simp only [gsb,gsa]
 go_simp
 refine hK.out _ _ (hHeld.call (below_alloc1 _ _)) (fun _=>?_)
 clear hK K
 refine rd1 10 fun K hK=>?_
 simp only [gsb]
 go_simp
 refine (HG.out _ _ (by first | rfl | simp)).mono ?_
 rintro e w1 ⟨rfl,b1⟩
 replace hHeld:=hHeld.call b1
 clear b1
 go_wp2_with fail
 refine hK.out _ _ hHeld (fun _=>?_)
 clear hK K
 refine rd1 13 fun K hK=>?_
 simp only [gsb]
 go_simp
 refine (HC.out _).mono ?_
 rintro e w2 ⟨rfl,b1⟩
 replace hHeld:=hHeld.call b1
 clear b1
 go_wp2_with fail
 refine hK.out _ _ hHeld (fun _=>?_)
 clear hK K
 have MQ:=hHeld.there (.int .i64 (t.m:Nat)) (.int .i64 t.r)
 have BQ:=(hHeld.put hk1 hk2 hk3 (.int .i64 (t.m:Nat)) (.int .i64 t.r)).b
 obtain ⟨u0,v0,hr⟩:=hHeld.r
 obtain ⟨m0,m1,mf0,mf1,_⟩:=res2 hr
 clear hr
 refine rd1 14 fun K hK=>?_
 simp only [gsb]
 go_simp
 refine hK.out _ _ (hHeld.put hk1 hk2 hk3 _ _) (fun hHeld=>?_)
 clear hK K
 refine wpAnyH_done (by kernel_rfl) ?_ _
 go_wp2_with fail
 exact bodyPost_ret (v:=.agg #[.int .i64 (t.m:Nat),.int .i64 t.r]) (by simp [results,Tryz.results297,go_sem,MQ.1,MQ.2]) rfl ⟨rfl,BQ⟩
end Go.Proofs.YtiopfihjmkfdmaaGreatDoor
namespace Go.Proofs.YtiopfihjmkfdmaaGreatDoor
open Go.RowKit
set_option maxRecDepth 100000
set_option maxHeartbeats 4000000
theorem eqC (a b c d:Int) (w:World):(Op.equalIn 10000 126 (.agg #[.int .i64 a,.int .i64 b]) (.agg #[.int .i64 c,.int .i64 d])).run Tryz.prog w=.ok (decide (a=c∧b=d)) w:=by
 by_cases h1:a=c
 ·by_cases h2:b=d
  ·simp [go_sem,h1,h2]
  ·simp [go_sem,h1,h2]
 ·simp [go_sem,h1]
theorem mul_bound {a c:Int} (h1:a.natAbs≤65536) (h2:c.natAbs≤65536):(a * c).natAbs≤4294967296:=by
 rw [Int.natAbs_mul]
 exact Nat.mul_le_mul h1 h2
theorem wrap_mul {a c:Int} (h1:a.natAbs≤65536) (h2:c.natAbs≤65536):IntKind.i64.wrap (a * c)=a * c:=by
 have:=mul_bound h1 h2
 rw [IntWalk.i64_in] <;> omega
theorem cg_multiply (x y:Sp.Cg) (w:World) (hx1:x.m≤65536) (hx2:x.r.natAbs≤65536) (hy1:y.m≤65536) (hy2:y.r.natAbs≤65536) (hx:¬ (x.m=0∧x.r=0)) (hy:¬ (y.m=0∧y.r=0)) :
  Calls Tryz.prog 310 #[.agg #[.int .i64 (x.m:Nat),.int .i64 x.r],.agg #[.int .i64 (y.m:Nat),.int .i64 y.r]] w fun e w'=>e=.returned (.agg #[.int .i64 ((Sp.cgTwo (Nat.gcd (Nat.gcd (x.m * y.m) ((x.m:Int) * y.r).natAbs) ((y.m:Int) * x.r).natAbs) (x.r * y.r)).m:Nat),.int .i64 (Sp.cgTwo (Nat.gcd (Nat.gcd (x.m * y.m) ((x.m:Int) * y.r).natAbs) ((y.m:Int) * x.r).natAbs) (x.r * y.r)).r])∧Below w.heap.size w w':=by
 have q1:((x.m:Nat):Int).natAbs≤65536:=by omega
 have q2:((y.m:Nat):Int).natAbs≤65536:=by omega
 have b1:=mul_bound q1 q2
 have b2:=mul_bound q1 hy2
 have b3:=mul_bound q2 hx2
 have hgl:=gcdL_le [(x.m:Int) * y.m,(x.m:Int) * y.r,(y.m:Int) * x.r] (by intro z hz; simp at hz; rcases hz with rfl | rfl | rfl <;> omega)
 rw [Sp.gcdL_three] at hgl
 obtain ⟨gg,hgg⟩:∃ gg,Hid (gg=Nat.gcd (Nat.gcd ((x.m:Int) * y.m).natAbs ((x.m:Int) * y.r).natAbs) ((y.m:Int) * x.r).natAbs):=⟨_,rfl⟩
 obtain ⟨t,ht⟩:∃ t,Hid (t=Sp.cgTwo gg (x.r * y.r)):=⟨_,rfl⟩
 rw [show x.m * y.m=((x.m:Int) * y.m).natAbs by rw [Int.natAbs_mul]; rfl,← hgg.out,← ht.out]
 have HG:Hid (∀ (W:World) (k:Nat),k=W.heap.size→Calls Tryz.prog 308 #[.slice (some ⟨k,0,none⟩) 3 3] (W.alloc (.cells #[.int .i64 ((x.m:Int) * y.m),.int .i64 ((x.m:Int) * y.r),.int .i64 ((y.m:Int) * x.r)] 2)) fun e w'=>e=.returned (.int .i64 (gg:Nat))∧Below W.heap.size W w'):=fun W k hk=>by
  rw [hgg.out,hk]
  exact gcd_new3 ((x.m:Int) * y.m) ((x.m:Int) * y.r) ((y.m:Int) * x.r) W (by omega) (by omega) (by omega)
 have HC:Hid (∀ W:World,Calls Tryz.prog 309 #[.int .i64 (gg:Nat),.int .i64 (x.r * y.r)] W fun e w'=>e=.returned (.agg #[.int .i64 (t.m:Nat),.int .i64 t.r])∧Below W.heap.size W w'):=fun W=>by
  rw [ht.out]
  exact cg_wrapped gg (x.r * y.r) W (by rw [hgg.out]; omega)
 clear hgg ht hgl b1 b2 b3
 have e1:=wrap_mul q1 q2
 have e2:=wrap_mul q1 hy2
 have e3:=wrap_mul q2 hx2
 have e4:=wrap_mul hx2 hy2
 have hx':¬ (((x.m:Nat):Int)=0∧x.r=0):=by omega
 have hy':¬ (((y.m:Nat):Int)=0∧y.r=0):=by omega
 clear hx hy q1 q2
 generalize x.r=b at *
 generalize y.r=d at *
 generalize ((x.m:Nat):Int)=a at *
 generalize ((y.m:Nat):Int)=c at *
 clear hx1 hy1 hx2 hy2
 have eX:∀ w,(Op.equalIn 10000 126 (.agg #[.int .i64 a,.int .i64 b]) (.agg #[.int .i64 0,.int .i64 0])).run Tryz.prog w=.ok false w:=fun w=>by rw [eqC,decide_eq_false hx']
 have eY:∀ w,(Op.equalIn 10000 126 (.agg #[.int .i64 c,.int .i64 d]) (.agg #[.int .i64 0,.int .i64 0])).run Tryz.prog w=.ok false w:=fun w=>by rw [eqC,decide_eq_false hy']
 clear hx' hy'
 have h0:CgAt w (w.heap.size) (w.heap.size + 1) (w.heap.size + 1 + 1) a b c d ((((w.alloc (.cells #[.int .i64 a,.int .i64 b] 126)).alloc (.cells #[.int .i64 c,.int .i64 d] 126)).alloc (.cells #[.int .i64 0,.int .i64 0] 126)).alloc (.cells #[.int .i64 0,.int .i64 0] 126)):=by
  obtain ⟨h1,h2,h3,h4,hb⟩:=laid4b (w:=w) (o1:=.cells #[.int .i64 a,.int .i64 b] 126) (o2:=.cells #[.int .i64 c,.int .i64 d] 126) (o3:=.cells #[.int .i64 0,.int .i64 0] 126) (o4:=.cells #[.int .i64 0,.int .i64 0] 126) (Below.refl _ _)
  exact ⟨h1,h2,⟨_,_,h3⟩,hb⟩
 go_enter Tryz.func310,Tryz.ntmps310
 go_wp2_with fail
 generalize ((((w.alloc (.cells #[.int .i64 a,.int .i64 b] 126)).alloc (.cells #[.int .i64 c,.int .i64 d] 126)).alloc (.cells #[.int .i64 0,.int .i64 0] 126)).alloc (.cells #[.int .i64 0,.int .i64 0] 126))=W at *
 obtain ⟨kx,hkx⟩:∃ kx,kx=(w.heap.size):=⟨_,rfl⟩
 obtain ⟨ky,hky⟩:∃ ky,ky=(w.heap.size + 1):=⟨_,rfl⟩
 obtain ⟨kr,hkr⟩:∃ kr,kr=(w.heap.size + 1 + 1):=⟨_,rfl⟩
 have hk1:kx ≠ kr:=by omega
 have hk2:ky ≠ kr:=by omega
 have hk3:w.heap.size≤kr:=by omega
 rw [← hkr,← hky,← hkx] at h0
 rw [← hkr,← hky,← hkx]
 clear hkx hky hkr
 refine wp_region_held_drew (S:=fun w':World=>CgAt w kx ky kr a b c d w') (by kernel_rfl) (h0.call (Below.refl _ _).drew) (fun hHeld=>?_)
 generalize W.drew=V at *
 refine tk 0 (.pointer (some ⟨kx,0,none⟩)) rfl (fun w' h=>by go_simp) hHeld ?_
 simp only [Act.put]
 refine tk 1 (.int .i64 a) rfl (fun w' h=>by have q:=h.cells.1; go_simp) hHeld ?_
 simp only [Act.put]
 refine tk 2 (.pointer (some ⟨ky,0,none⟩)) rfl (fun w' h=>by go_simp) hHeld ?_
 simp only [Act.put]
 refine tk 3 (.int .i64 c) rfl (fun w' h=>by have q:=h.cells.2.2.1; go_simp) hHeld ?_
 simp only [Act.put]
 refine tk 5 (.pointer (some ⟨kx,0,none⟩)) rfl (fun w' h=>by go_simp) hHeld ?_
 simp only [Act.put]
 refine tk 6 (.int .i64 a) rfl (fun w' h=>by have q:=h.cells.1; go_simp) hHeld ?_
 simp only [Act.put]
 refine tk 7 (.pointer (some ⟨ky,1,none⟩)) rfl (fun w' h=>by go_simp) hHeld ?_
 simp only [Act.put]
 refine tk 8 (.int .i64 d) rfl (fun w' h=>by have q:=h.cells.2.2.2; go_simp) hHeld ?_
 simp only [Act.put]
 refine tk 10 (.pointer (some ⟨ky,0,none⟩)) rfl (fun w' h=>by go_simp) hHeld ?_
 simp only [Act.put]
 refine tk 11 (.int .i64 c) rfl (fun w' h=>by have q:=h.cells.2.2.1; go_simp) hHeld ?_
 simp only [Act.put]
 refine tk 12 (.pointer (some ⟨kx,1,none⟩)) rfl (fun w' h=>by go_simp) hHeld ?_
 simp only [Act.put]
 refine tk 13 (.int .i64 b) rfl (fun w' h=>by have q:=h.cells.2.1; go_simp) hHeld ?_
 simp only [Act.put]
 refine tk 17 (.pointer (some ⟨kx,1,none⟩)) rfl (fun w' h=>by go_simp) hHeld ?_
 simp only [Act.put]
 refine tk 18 (.int .i64 b) rfl (fun w' h=>by have q:=h.cells.2.1; go_simp) hHeld ?_
 simp only [Act.put]
 refine tk 19 (.pointer (some ⟨ky,1,none⟩)) rfl (fun w' h=>by go_simp) hHeld ?_
 simp only [Act.put]
 refine tk 20 (.int .i64 d) rfl (fun w' h=>by have q:=h.cells.2.2.2; go_simp) hHeld ?_
 simp only [Act.put]
 refine tk 4 (.int .i64 (a * c)) rfl (fun w' h=>by go_simp) hHeld ?_
 simp only [Act.put]
 refine tk 9 (.int .i64 (a * d)) rfl (fun w' h=>by go_simp) hHeld ?_
 simp only [Act.put]
 refine tk 14 (.int .i64 (c * b)) rfl (fun w' h=>by go_simp) hHeld ?_
 simp only [Act.put]
 refine tk 21 (.int .i64 (b * d)) rfl (fun w' h=>by go_simp) hHeld ?_
 simp only [Act.put]
 refine rd1 15 fun K hK=>?_
 simp only [gsb,gsa]
 go_simp
 refine hK.out _ _ (hHeld.call (below_alloc1 _ _)) (fun _=>?_)
 clear hK K
 refine rd1 16 fun K hK=>?_
 simp only [gsb]
 go_simp
 refine (HG.out _ _ (by first | rfl | simp)).mono ?_
 rintro e w1 ⟨rfl,b1⟩
 replace hHeld:=hHeld.call b1
 clear b1
 go_wp2_with fail
 refine hK.out _ _ hHeld (fun _=>?_)
 clear hK K
 refine rd1 22 fun K hK=>?_
 simp only [gsb]
 go_simp
 refine (HC.out _).mono ?_
 rintro e w2 ⟨rfl,b1⟩
 replace hHeld:=hHeld.call b1
 clear b1
 go_wp2_with fail
 refine hK.out _ _ hHeld (fun _=>?_)
 clear hK K
 have MQ:=hHeld.there (.int .i64 (t.m:Nat)) (.int .i64 t.r)
 have BQ:=(hHeld.put hk1 hk2 hk3 (.int .i64 (t.m:Nat)) (.int .i64 t.r)).b
 obtain ⟨u0,v0,hr⟩:=hHeld.r
 obtain ⟨m0,m1,mf0,mf1,_⟩:=res2 hr
 clear hr
 refine rd1 23 fun K hK=>?_
 simp only [gsb]
 go_simp
 refine hK.out _ _ (hHeld.put hk1 hk2 hk3 _ _) (fun hHeld=>?_)
 clear hK K
 refine wpAnyH_done (by kernel_rfl) ?_ _
 go_wp2_with fail
 exact bodyPost_ret (v:=.agg #[.int .i64 (t.m:Nat),.int .i64 t.r]) (by simp [results,Tryz.results310,go_sem,MQ.1,MQ.2]) rfl ⟨rfl,BQ⟩
end Go.Proofs.YtiopfihjmkfdmaaGreatDoor
