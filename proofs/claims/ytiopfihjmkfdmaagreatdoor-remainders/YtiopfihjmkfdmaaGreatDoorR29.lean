import Derived.Test.YtiopfihjmkfdmaaGreatDoorR20
import Derived.Test.YtiopfihjmkfdmaaGreatDoorR26
namespace Go.Proofs.YtiopfihjmkfdmaaGreatDoor
open Go.Value renaming int→I,bool→U,slice→Z,agg→J
open Go.IntKind renaming i64→O
open Option renaming some→Y
open Go.Obj renaming cells→L
open Go.Ending renaming returned→υ
open Go.Proofs.Tryz Sp
set_option maxRecDepth 100000
set_option maxHeartbeats 16000000
namespace RG
open Go.RowKit W
def Bd(s:dw)(k:Fin 8):Int:=match s with | none=>0 | some e=>(e k).a
def Vi(s:dw)(k:Fin 8):Int:=match s with | none=>0 | some e=>(e k).b
theorem S0(s:dw)(j:Nat)(hj:j<8):(sD s)[0]?=Y (U s.isSome)/\(sD s)[1+j*2]?=Y (I O (Bd s ⟨j,hj⟩))/\(sD s)[1+j*2+1]?=Y (I O (Vi s ⟨j,hj⟩)):=by
 have hl:(Dw s).2[j]?=Y (Bd s ⟨j,hj⟩,Vi s ⟨j,hj⟩):=by
  cases s with
  | none =>show(List.replicate 8 ((0:Int),(0:Int)))[j]?=_;rw[List.getElem?_replicate,if_pos hj];rfl
  | some e =>show(List.ofFn fun k=>lB (e k))[j]?=_;rw[List.getElem?_ofFn,dif_pos hj];rfl
 obtain⟨h1,h2⟩:=xA (fun v:Int × Int=>Value.int O v.1) (fun v:Int × Int=>Value.int O v.2) _ j _ hl;unfold W.sD W.Bd Km;refine⟨?_,?_,?_⟩
 ·cases s<;>rfl
 ·rw[List.getElem?_toArray,show 1+j*2=j*2+1 by omega,List.getElem?_cons_succ];exact h1
 ·rw[List.getElem?_toArray,show 1+j*2+1=(j*2+1)+1 by omega,List.getElem?_cons_succ];exact h2
theorem vM(s:dw)(v:Value)(w:Wd)(hs:dM w v s) :
  Calls prog 47 #[J (sD s),v] w fun e w'=>e=υ (U true)/\ω w w':=by
 obtain⟨va,vn,vc,rfl⟩:=hs.form;obtain⟨fa,Qk⟩:∃fa,fa=sD s:=⟨_,rfl⟩;have HG:Hid (∀(j:Nat) (hj:j<8),fa[0]?=Y (U s.isSome)/\fa[1+j*2]?=Y (I O (Bd s ⟨j,hj⟩))/\fa[1+j*2+1]?=Y (I O (Vi s ⟨j,hj⟩))):=by rw[Qk];exact S0 s
 rw[<-Qk];obtain⟨a1,a2,kb⟩:=fh (w:=w) (o1:=L fa 76) (o2:=L #[U s.isNone,Z va vn vc] 121) (Below.refl _ _);have HW:Hid (dM ((w.alloc (L fa 76)).alloc (L #[U s.isNone,Z va vn vc] 121)) (J #[U s.isNone,Z va vn vc]) s/\ω w ((w.alloc (L fa 76)).alloc (L #[U s.isNone,Z va vn vc] 121))):=⟨hs.below kb,kb⟩;clear hs kb Qk;go_enter func47,ntmps47;go_upto_region 1 with fail;generalize (w.alloc (L fa 76)).alloc (L #[U s.isNone,Z va vn vc] 121)=W at *
 obtain⟨k2,e2⟩:∃k,k=w.heap.size:=⟨_,rfl⟩;obtain⟨k3,e3⟩:∃k,k=w.heap.size+1:=⟨_,rfl⟩;rw[<-e3,<-e2];rw[<-e2]at a1;rw[<-e3]at a2;clear e2 e3;have c0:=cell_of a1 0 (HG.out 0 (by omega)).1;obtain⟨q0,q1,_⟩:=aR a2;cases s with
 | none =>
  simp only[Option.isSome_none]at c0;simp only[Option.isNone_none]at q0;have HA:=hid a1;clear a1 a2 q1;go_wp2_with fail
  go_loopw [5] (fun v5 wr=>∃j:Nat,j<=8/\v5=I O j/\wr=W) (fun v5 _=>8 - (intOf v5).toNat)
  case atStart=>exact⟨0,Nat.zero_le _,rfl,rfl⟩
  case round =>
   obtain⟨j,hj,rfl,rfl⟩:=hrel;by_cases qP:j<8
   ·have yf:((j:Nat):Int)<8:=by omega
    have x1:=cell_of HA.out _ (HG.out j qP).2.1;have x2:=cell_of HA.out _ (HG.out j qP).2.2;simp only[Bd,Vi]at x1 x2;go_wp2_with fail;exact⟨⟨j+1,by omega,by go_num,trivial⟩,by simp[intOf];omega⟩
   ·obtain rfl:j=8:=by omega
    go_wp2_with fail;go_ret;exact⟨rfl,HW.2⟩
 | some e =>
  simp only[Option.isSome_some]at c0;simp only[Option.isNone_some]at q0;obtain⟨ge,g1,g2⟩:=HW.1;simp only[Option.isNone_some]at g1;injection g1 with g1
  have g3:=congrArg Array.toList g1;simp at g3;obtain⟨rfl,rfl,rfl⟩:=g3;have HA:Hid (W.heap[k2]?=Y (L fa 76)/\W.heap[ge]?=Y (L (ia e) 191)):=⟨a1,g2⟩;have HB:=hid HW.2;clear a1 a2 HW g1 g2;go_wp2_with fail
  go_loopw [5] (fun v5 wr=>∃j:Nat,j<=8/\v5=I O j/\wr=W) (fun v5 _=>8 - (intOf v5).toNat)
  case atStart=>exact⟨0,Nat.zero_le _,rfl,rfl⟩
  case round =>
   obtain⟨j,hj,rfl,rfl⟩:=hrel;by_cases qP:j<8
   ·have yf:((j:Nat):Int)<8:=by omega
    have x1:=cell_of HA.1 _ (HG.out j qP).2.1;have x2:=cell_of HA.1 _ (HG.out j qP).2.2;have y1:=cell_of HA.2 _ (pW e j qP).1;have y2:=cell_of HA.2 _ (pW e j qP).2;simp only[Bd,Vi]at x1 x2;simp only[pA,pB]at y1 y2;go_wp2_with fail;exact⟨⟨j+1,by omega,by go_num,trivial⟩,by simp[intOf];omega⟩
   ·obtain rfl:j=8:=by omega
    go_wp2_with fail;go_ret;exact⟨rfl,HB.out⟩
end RG
end Go.Proofs.YtiopfihjmkfdmaaGreatDoor
