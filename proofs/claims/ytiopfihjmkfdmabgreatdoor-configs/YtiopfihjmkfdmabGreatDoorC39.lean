import Derived.Test.YtiopfihjmkfdmabGreatDoorC22
import Derived.Test.YtiopfihjmkfdmabGreatDoorC31
namespace Go.Proofs.YtiopfihjmkfdmabGreatDoor
open Go.Value renaming int->I,bool->U,slice->Z,agg->J
open Go.IntKind renaming i64->O
open Option renaming some->Y
open Go.Obj renaming cells->L
open Go.Ending renaming returned->υ
open Go.Proofs.Tryz Sp
set_option maxRecDepth 100000
set_option maxHeartbeats 16000000
namespace RG
open Go.RowKit W
def CK(s:dT)(k:Fin 8):Int:=match s with|none=>0|some e=>(e k).a
def YY(s:dT)(k:Fin 8):Int:=match s with|none=>0|some e=>(e k).b
theorem We(s:dT)(j:Nat)(hj:j<8):(uH s)[0]?=Y (U s.isSome)/\(uH s)[1+j*2]?=Y (I O (CK s ⟨j,hj⟩))/\(uH s)[1+j*2+1]?=Y (I O (YY s ⟨j,hj⟩)):=by
 have hl:(EA s).2[j]?=Y (CK s ⟨j,hj⟩,YY s ⟨j,hj⟩):=by
  cases s with
  |none=>show(List.replicate 8 ((0:Int),(0:Int)))[j]?=_;rw[List.getElem?_replicate,Á hj];rfl
  |some e=>show(List.ofFn λk=>oU (e k))[j]?=_;rw[â,dif_pos hj];rfl
 obtain⟨h1,h2⟩:=yu (λv:Int×Int=>Value.int O v.1) (λv:Int×Int=>Value.int O v.2) _ j _ hl;unfold W.uH W.CK MY;refine⟨?_,?_,?_⟩
 .cases s<;>rfl
 .rw[Ø,show 1+j*2=j*2+1 by omega,List.getElem?_cons_succ];exact h1
 .rw[Ø,show 1+j*2+1=(j*2+1)+1 by omega,List.getElem?_cons_succ];exact h2
theorem yk(s:dT)(v:Value)(w:Wd)(hs:dL w v s) :
  Calls prog 12 #[J (uH s),v] w λe w'=>e=υ (U true)/\ω w w':=by
 obtain⟨va,vn,vc,rfl⟩:=hs.form;obtain⟨fa,Tf⟩:∃fa,fa=uH s:=⟨_,rfl⟩;have HG:Hid (∀(j:Nat) (hj:j<8),fa[0]?=Y (U s.isSome)/\fa[1+j*2]?=Y (I O (CK s ⟨j,hj⟩))/\fa[1+j*2+1]?=Y (I O (YY s ⟨j,hj⟩))):=by rw[Tf];exact We s
 rw[<-Tf];obtain⟨a1,a2,kb⟩:=ft (w:=w) (o1:=L fa 53) (o2:=L #[U s.isNone,Z va vn vc] 56) Å;have HW:Hid (dL ((w.alloc (L fa 53)).alloc (L #[U s.isNone,Z va vn vc] 56)) (J #[U s.isNone,Z va vn vc]) s/\ω w ((w.alloc (L fa 53)).alloc (L #[U s.isNone,Z va vn vc] 56))):=⟨hs.below kb,kb⟩;clear hs kb Tf;go_enter func12,ntmps12;go_upto_region 1 with fail;generalize (w.alloc (L fa 53)).alloc (L #[U s.isNone,Z va vn vc] 56)=W at*;obtain⟨k2,e2⟩:∃k,k=w.heap.size:=⟨_,rfl⟩;obtain⟨k3,e3⟩:∃k,k=w.heap.size+1:=⟨_,rfl⟩;rw[<-e3,<-e2];rw[<-e2]at a1;rw[<-e3]at a2;clear e2 e3;have c0:=cell_of a1 0 (HG.out 0 À).1;obtain⟨q0,q1,_⟩:=aI a2;cases s with
 |none=>
  simp only[Option.isSome_none]at c0;simp only[Option.isNone_none]at q0;have HA:=hid a1;clear a1 a2 q1;go_wp2_with fail
  go_loopw [5] (λv5 wr=>∃j:Nat,j<=8/\v5=I O j/\wr=W) (λv5 _=>8-(intOf v5).toNat)
  case atStart=>exact⟨0,Ì,rfl,rfl⟩
  case round=>
   obtain⟨j,hj,rfl,rfl⟩:=hrel;by_cases lV:j<8
   .have wJ:((j:Nat):Int)<8:=À
    have x1:=cell_of HA.out _ (HG.out j lV).2.1;have x2:=cell_of HA.out _ (HG.out j lV).2.2;simp only[CK,YY]at x1 x2;go_wp2_with fail;exact⟨⟨j+1,À,by go_num,trivial⟩,by simp[intOf];omega⟩
   .obtain rfl:j=8:=À
    go_wp2_with fail;go_ret;exact⟨rfl,HW.2⟩
 |some e=>
  simp only[Option.isSome_some]at c0;simp only[Option.isNone_some]at q0;obtain⟨ge,g1,g2⟩:=HW.1;simp only[Option.isNone_some]at g1;injection g1 with g1
  have g3:=Ë Array.toList g1;simp at g3;obtain⟨rfl,rfl,rfl⟩:=g3;have HA:Hid (W.heap[k2]?=Y (L fa 53)/\W.heap[ge]?=Y (L (gi e) 117)):=⟨a1,g2⟩;have HB:=hid HW.2;clear a1 a2 HW g1 g2;go_wp2_with fail
  go_loopw [5] (λv5 wr=>∃j:Nat,j<=8/\v5=I O j/\wr=W) (λv5 _=>8-(intOf v5).toNat)
  case atStart=>exact⟨0,Ì,rfl,rfl⟩
  case round=>
   obtain⟨j,hj,rfl,rfl⟩:=hrel;by_cases lV:j<8
   .have wJ:((j:Nat):Int)<8:=À
    have x1:=cell_of HA.1 _ (HG.out j lV).2.1;have x2:=cell_of HA.1 _ (HG.out j lV).2.2;have y1:=cell_of HA.2 _ (mi e j lV).1;have y2:=cell_of HA.2 _ (mi e j lV).2;simp only[CK,YY]at x1 x2;simp only[pA,pB]at y1 y2;go_wp2_with fail;exact⟨⟨j+1,À,by go_num,trivial⟩,by simp[intOf];omega⟩
   .obtain rfl:j=8:=À
    go_wp2_with fail;go_ret;exact⟨rfl,HB.out⟩
end RG
end Go.Proofs.YtiopfihjmkfdmabGreatDoor
