import Derived.Test.YtiopfihjmkfdmaaGreatDoorR6
import Derived.Deep.RegionHeld3
import Derived.Handy
namespace Go.Proofs.YtiopfihjmkfdmaaGreatDoor
open Go.Value renaming int→I
open Go.IntKind renaming i64→O
open Option renaming none→M,some→Y
open Go.Ending renaming returned→υ
open Go.Obj renaming cells→L
open Go.Proofs.Tryz Sp
open Go.RowKit
set_option maxRecDepth 100000
set_option maxHeartbeats 16000000
structure jD(w:Wd):Prop where
 mir:∀k,k<6->w.cell? ⟨3,k,M⟩=Y (I O (dO k:Nat))
 xE:∀k,k<6->w.cell? ⟨4,k,M⟩=Y (I O (xE k:Nat))
theorem jD.below{w w':Wd}(h:jD w){B:Nat}(hb:Below B w w')(hB:11<=B):jD w' :=
 ⟨fun k hk=>by rw[hb.cell (p:=⟨3,k,M⟩) (show 3<B by omega)];exact h.mir k hk,fun k hk=>by rw[hb.cell (p:=⟨4,k,M⟩) (show 4<B by omega)];exact h.xE k hk⟩
theorem A7(k:Nat)(hk:k<6)(w:Wd)(h:jD w) :
  Calls prog 221 #[I O (k:Nat)] w fun e w'=>e=υ (I O (dO k:Nat))/\w'=w:=by
 have h:=h.mir k hk;generalize ((dO k:Nat):Int)=t at *;have uG:(k:Int)<6:=by omega
 go_enter func221,ntmps221;go_wp2_with fail;go_ret;exact⟨rfl,rfl⟩
theorem kC(k:Nat)(hk:k<6)(w:Wd)(h:jD w) :
  Calls prog 222 #[I O (k:Nat)] w fun e w'=>e=υ (I O (xE k:Nat))/\w'=w:=by
 have h:=h.xE k hk;generalize ((xE k:Nat):Int)=t at *;have uG:(k:Int)<6:=by omega
 go_enter func222,ntmps222;go_wp2_with fail;go_ret;exact⟨rfl,rfl⟩
namespace Sp
section
variable{l:List Int}
variable{x y v:Iv}
variable{q a b u n:Int}
def j7(x:Iv):Prop:=-32768<=x.a/\x.a<=x.b/\x.b<=32767
theorem qF:∀(l:List Int) (x:Int),l.foldl min x<=x/\∀y∈l,l.foldl min x<=y
 | [],x=>⟨Int.le_refl _,fun _ h=>by cases h⟩
 | z :: l,x=>by
  obtain⟨h1,h2⟩:=qF l (min x z);refine⟨by show l.foldl min (min x z)<=x;omega,fun y hy=>?_⟩;show l.foldl min (min x z)<=y
  rcases List.mem_cons.1 hy with rfl | hy
  ·omega
  ·exact h2 y hy
theorem qK:∀(l:List Int) (x:Int),x<=l.foldl max x/\∀y∈l,y<=l.foldl max x
 | [],x=>⟨Int.le_refl _,fun _ h=>by cases h⟩
 | z :: l,x=>by
  obtain⟨h1,h2⟩:=qK l (max x z);refine⟨by show x<=l.foldl max (max x z);omega,fun y hy=>?_⟩;show y<=l.foldl max (max x z)
  rcases List.mem_cons.1 hy with rfl | hy
  ·omega
  ·exact h2 y hy
theorem Pt{x:Int}(h:x∈l):U4 l<=x:=by
 cases l with
 | nil=>cases h
 | cons z l =>
  rcases List.mem_cons.1 h with rfl | h
  ·exact(qF l _).1
  ·exact(qF l z).2 x h
theorem OO{x:Int}(h:x∈l):x<=U7 l:=by
 cases l with
 | nil=>cases h
 | cons z l =>
  rcases List.mem_cons.1 h with rfl | h
  ·exact(qK l _).1
  ·exact(qK l z).2 x h
theorem Nq(h:q∈l):x.a.tdiv q∈(l.flatMap fun q=>[x.a.tdiv q,x.b.tdiv q])/\x.b.tdiv q∈(l.flatMap fun q=>[x.a.tdiv q,x.b.tdiv q]):=by
 constructor
 ·exact List.mem_flatMap.2 ⟨q,h,by simp⟩
 ·exact List.mem_flatMap.2 ⟨q,h,by simp⟩
theorem qI(h1:x.a=y.a)(h2:x.b=y.b):x=y:=by
 cases x;cases y;simp at h1 h2;rw[h1,h2]
theorem oM(h:a<=b):j7 (ub a b):=by
 unfold ub;split
 ·exact⟨by decide,by decide,by decide⟩
 ·exact⟨by show -32768<=a;omega,h,by show b<=32767;omega⟩
theorem DP(h:u∈l):j7 (MK l):=oM (Int.le_trans (Pt h) (OO h))
theorem Pd(k:Nat)(x y v:Iv)(hx:j7 x)(hy:j7 y)(h:AM k x y=Y v):j7 v:=by
 obtain⟨h1,h2,h3⟩:=hx;obtain⟨h4,h5,h6⟩:=hy;unfold AM at h;split at h
 ·cases h;exact oM (by omega)
 ·split at h
  ·cases h;exact oM (by omega)
  ·split at h
   ·cases h;exact DP (u:=x.a*y.a) (by simp)
   ·split at h
    ·unfold Dx at h
     split at h
     ·cases h
     ·next dF =>
      cases h
      obtain⟨q,hq⟩:=List.exists_mem_of_ne_nil _ dF;exact DP (Nq (x:=x) hq).1
    ·unfold MD at h
     split at h
     ·cases h
     ·cases h
      exact oM (by omega)
theorem rX(hx:j7 x)(h:ku x y=Y v):j7 v:=by
 obtain⟨h1,h2,h3⟩:=hx;unfold ku at h;split at h
 ·cases h
  exact⟨by show -32768<=max x.a y.a;omega,by assumption,by show min x.b y.b<=32767;omega⟩
 ·cases h
theorem Ca(hx:j7 x)(h:nD x n=Y v):j7 v:=by
 unfold nD at h;split at h
 ·cases h
 ·exact rX hx h
theorem Dh(hx:j7 x)(h:nF x n=Y v):j7 v:=by
 unfold nF at h;split at h
 ·cases h
 ·exact rX hx h
theorem MN(r:Nat)(x y v:Iv)(hx:j7 x)(_:j7 y)(h:rG r x y=Y v):j7 v:=by
 unfold rG at h;split at h
 ·exact Ca hx h
 ·split at h
  ·exact rX hx h
  ·split at h
   ·exact rX hx h
   ·split at h
    ·unfold rH at h
     split at h
     ·cases h;exact hx
     ·split at h
      ·exact Dh hx h
      ·split at h
       ·exact Ca hx h
       ·cases h;exact hx
    ·split at h
     ·exact rX hx h
     ·exact Dh hx h
theorem qX(n:Int):∀(l:List Int) (st:Int),st<=n->-32768<=st->-32768<=l.foldl (fun st s=>if s<=n then max st s else st) st/\l.foldl (fun st s=>if s<=n then max st s else st) st<=n
 | [],st,h1,h2=>⟨h2,h1⟩
 | s :: l,st,h1,h2=>by show -32768<=l.foldl _ (if s<=n then max st s else st)/\l.foldl _ (if s<=n then max st s else st)<=n;exact qX n l _ (by split<;>omega) (by split<;>omega)
theorem ry(n:Int):∀(l:List Int) (st:Int),n<=st->st<=32767->n<=l.foldl (fun st s=>if n<=s then min st s else st) st/\l.foldl (fun st s=>if n<=s then min st s else st) st<=32767
 | [],st,h1,h2=>⟨h1,h2⟩
 | s :: l,st,h1,h2=>by show n<=l.foldl _ (if n<=s then min st s else st)/\l.foldl _ (if n<=s then min st s else st)<=32767;exact ry n l _ (by split<;>omega) (by split<;>omega)
theorem CZ(steps:List Int)(x y:Iv)(hx:j7 x)(hy:j7 y):-32768<=(dQ steps x y).a/\(dQ steps x y).a<=y.a/\y.b<=(dQ steps x y).b/\(dQ steps x y).b<=32767:=by
 obtain⟨h1,h2,h3⟩:=hx;obtain⟨h4,h5,h6⟩:=hy;have e1:=qX y.a steps (-32768) h4 (Int.le_refl _);have e2:=ry y.b steps 32767 h6 (Int.le_refl _);unfold dQ mr gW;simp only;refine⟨?_,?_,?_,?_⟩
 ·split<;>omega
 ·split<;>omega
 ·split<;>omega
 ·split<;>omega
def oV(steps:List Int):Rk (Vl steps) where
 wf:=j7
 rk x:=(x.b - x.a+65535).toNat
 top:=131070
 le x h:=by obtain⟨h1,h2,h3⟩:=h;show(x.b - x.a+65535).toNat<=131070;omega
 wnum n h:=⟨h.1,Int.le_refl _,h.2⟩
 wwhole:=(⟨by decide,by decide,by decide⟩:j7 vd)
 wneg x h:=oM (by have:=h.2.1;omega)
 wwork:=Pd
 wjoin x y h k:=⟨by show -32768<=min x.a y.a;have:=h.1;have:=k.1;omega,by show min x.a y.a<=max x.b y.b;have:=h.2.1;omega,by show max x.b y.b<=32767;have:=h.2.2;have:=k.2.2;omega⟩
 wbound:=MN
 wwiden x y h k:=by obtain⟨h1,h2,h3,h4⟩:=CZ steps x y h k;exact⟨h1,by have:=k.2.1;show(dQ steps x y).a<=(dQ steps x y).b;omega,h4⟩
 sub x y:=y.a<=x.a/\x.b<=y.b
 sub_refl x:=⟨Int.le_refl _,Int.le_refl _⟩
 sub_trans x y z h k:=⟨Int.le_trans k.1 h.1,Int.le_trans h.2 k.2⟩
 sub_joinl x y:=⟨by show min x.a y.a<=x.a;omega,by show x.b<=max x.b y.b;omega⟩
 sub_joinr x y:=⟨by show min x.a y.a<=y.a;omega,by show y.b<=max x.b y.b;omega⟩
 sub_narrow x y z h k:=by
  have h1:x.a<=z.a:=h.1;have h2:z.b<=x.b:=h.2;have k1:y.a<=z.a:=k.1;have k2:z.b<=y.b:=k.2;constructor
  ·show(if x.a=-32768 then y.a else x.a)<=z.a
   split<;>omega
  ·show z.b<=(if x.b=32767 then y.b else x.b)
   split<;>omega
 wnarrow x y z hx hy hz h k:=by
  have h1:x.a<=z.a:=h.1;have h2:z.b<=x.b:=h.2;have k1:y.a<=z.a:=k.1;have k2:z.b<=y.b:=k.2;obtain⟨a1,a2,a3⟩:=hx;obtain⟨b1,b2,b3⟩:=hy;obtain⟨c1,c2,c3⟩:=hz;refine⟨?_,?_,?_⟩
  ·show -32768<=(if x.a=-32768 then y.a else x.a)
   split<;>omega
  ·show(if x.a=-32768 then y.a else x.a)<=(if x.b=32767 then y.b else x.b)
   split<;>split<;>omega
  ·show(if x.b=32767 then y.b else x.b)<=32767
   split<;>omega
 join_lt x y h k dF:=by
  obtain⟨h1,h2,h3⟩:=h;obtain⟨k1,k2,k3⟩:=k;show(x.b - x.a+65535).toNat<(max x.b y.b - min x.a y.a+65535).toNat;have:¬ (min x.a y.a=x.a/\max x.b y.b=x.b):=fun e=>dF (qI e.1 e.2)
  omega
 widen_le x y h k:=by have hj:j7 ⟨min x.a y.a,max x.b y.b⟩:=⟨by show -32768<=min x.a y.a;have:=h.1;have:=k.1;omega,by show min x.a y.a<=max x.b y.b;have:=h.2.1;omega,by show max x.b y.b<=32767;have:=h.2.2;have:=k.2.2;omega⟩;obtain⟨h1,h2,h3,h4⟩:=CZ steps x ⟨min x.a y.a,max x.b y.b⟩ h hj;show(max x.b y.b - min x.a y.a+65535).toNat<=((dQ steps x ⟨min x.a y.a,max x.b y.b⟩).b - (dQ steps x ⟨min x.a y.a,max x.b y.b⟩).a+65535).toNat;have h2:(dQ steps x ⟨min x.a y.a,max x.b y.b⟩).a<=min x.a y.a:=h2;have h3:max x.b y.b<=(dQ steps x ⟨min x.a y.a,max x.b y.b⟩).b:=h3;omega
 fuel:=by show 8*131070<1100000;decide
end
end Sp
section
variable{w w1:Wd}
variable{o1 o2 o o3:Obj}
theorem aR{B:Nat}{x y:Value}{t:TypeId}(h:w.heap[B]?=Y (L #[x,y] t)):w.cell? ⟨B,0,M⟩=Y x/\w.cell? ⟨B,1,M⟩=Y y/\w.frozen? ⟨B,0,M⟩=false/\w.frozen? ⟨B,1,M⟩=false /\
  ∀u v,((w.setCell ⟨B,0,M⟩ u).setCell ⟨B,1,M⟩ v).cell? ⟨B,0,M⟩=Y u/\((w.setCell ⟨B,0,M⟩ u).setCell ⟨B,1,M⟩ v).cell? ⟨B,1,M⟩=Y v:=by
 refine⟨cell_of h 0 rfl,cell_of h 1 rfl,aw h 0,aw h 1,fun u v=>?_⟩;have h2:=ah (ah h 0 u) 1 v;exact⟨cell_of h2 0 rfl,cell_of h2 1 rfl⟩
theorem fh(b:Below ((w.alloc o1).alloc o2).heap.size ((w.alloc o1).alloc o2) w1):w1.heap[w.heap.size]?=Y o1/\w1.heap[w.heap.size+1]?=Y o2/\ω w w1:=by
 refine⟨?_,?_,?_⟩
 ·rw[b.block _ (by simp;omega)];exact heap_alloc_old (heap_alloc_new _ _)
 ·rw[b.block _ (by simp)]
  have:=heap_alloc_new (w.alloc o1) o2;simpa using this
 ·exact(((Below.refl _ _).alloc (Nat.le_refl _) _).alloc (by simp) _).trans (b.mono (by simp;omega))
theorem gO(b:Below (w.alloc o).heap.size (w.alloc o) w1):ω w w1/\w1.heap[w.heap.size]?=Y o:=by refine⟨((Below.refl _ _).alloc (Nat.le_refl _) _).trans (b.mono (by simp)),?_⟩;rw[b.block _ (by simp)];exact heap_alloc_new _ _
theorem cH(b:Below (((w.alloc o1).alloc o2).alloc o3).heap.size (((w.alloc o1).alloc o2).alloc o3) w1):w1.heap[w.heap.size]?=Y o1/\w1.heap[w.heap.size+1]?=Y o2/\w1.heap[w.heap.size+1+1]?=Y o3/\ω w w1:=by obtain⟨b',h3⟩:=gO b;obtain⟨h1,h2,hb⟩:=fh b';exact⟨h1,h2,by simpa using h3,hb⟩
theorem bB{o4:Obj}(b:Below ((((w.alloc o1).alloc o2).alloc o3).alloc o4).heap.size ((((w.alloc o1).alloc o2).alloc o3).alloc o4) w1):w1.heap[w.heap.size]?=Y o1/\w1.heap[w.heap.size+1]?=Y o2/\w1.heap[w.heap.size+1+1]?=Y o3/\w1.heap[w.heap.size+1+1+1]?=Y o4/\ω w w1:=by obtain⟨b',h4⟩:=gO b;obtain⟨h1,h2,h3,hb⟩:=cH b';exact⟨h1,h2,h3,by simpa using h4,hb⟩
end
end Go.Proofs.YtiopfihjmkfdmaaGreatDoor
