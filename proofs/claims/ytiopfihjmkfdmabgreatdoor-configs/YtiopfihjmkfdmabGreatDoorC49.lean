import Derived.Test.YtiopfihjmkfdmabGreatDoorC13
import Derived.Deep.CutRange
namespace Go.Proofs.YtiopfihjmkfdmabGreatDoor
open Go.Value renaming int->I,slice->Z,agg->J
open Go.IntKind renaming i64->O,i16->ψ
open Option renaming none->M,some->Y
open Go.Obj renaming cells->L
open Go.Ending renaming returned->υ
open Go.Proofs.Tryz Sp
open Go.RowKit
set_option maxRecDepth 100000
set_option maxHeartbeats 16000000
section
variable{w w' W W':Wd}
variable{v:Value}
variable{p q c d:Int}
theorem Cp(g off cap:Nat)(steps:List Int)(n:Int)(w:Wd)(hg:g<w.heap.size)(hl:(steps.length:Int)<=1000000)(hc:∀i x,steps[i]?=Y x->w.cell? ⟨g,off+i,M⟩=Y (I ψ x)) :
  Calls prog 314 #[J #[Z (Y ⟨g,off,M⟩) steps.length cap],I ψ n] w λe w'=>e=υ (I ψ (cM steps n))/\ω w w':=by
 have Ti:Hid (∀i x,steps[i]?=Y x->(w.alloc (L #[Z (Y ⟨g,off,M⟩) steps.length cap] 92)).cell? ⟨g,off+i,M⟩=Y (I ψ x)):=λi x h=>by rw[(below_alloc1 w _).cell (p:=⟨g,off+i,M⟩) hg];exact hc i x h
 clear hc hg;go_enter func314,ntmps314;go_wp2_with fail
 go_loop [5,11] (λv5 v11=>∃(j:Nat) (st:Int),j<=steps.length/\v11=I O j/\v5=I ψ st/\Hid (cM steps n=(steps.drop j).foldl (λst s=>if s<=n then max st s else st) st)) (λ_ v11=>steps.length-(intOf v11).toNat)
 case atStart=>exact⟨0,-32768,Ì,rfl,rfl,rfl⟩
 case round=>
  obtain⟨j,st,hj,rfl,rfl,hq⟩:=hrel;by_cases dZ:j<steps.length
  .obtain⟨x,hx⟩:∃x,steps[j]?=Y x:=⟨_,Î dZ⟩
   have hcx:=Ti.out j x hx;have hd:steps.drop j=x::steps.drop (j+1):=by rw[ë dZ,(Í.1 hx).2]
   have HD:Hid (cM steps n=(steps.drop (j+1)).foldl (λst s=>if s<=n then max st s else st) (if x<=n then max st x else st)):=by unfold Hid;rw[hq.out,hd];rfl
   clear hd hx;by_cases hle:x<=n
   .rw[Á hle]at HD
    go_wp2_with fail
    all_goals exact⟨⟨j+1,_,À,by go_num,rfl,by unfold Hid;rw[HD.out]<;>congr 1<;>omega⟩,by simp[intOf];omega⟩
   .rw[Â hle]at HD
    go_wp2_with fail
    all_goals exact⟨⟨j+1,_,À,by go_num,rfl,HD⟩,by simp[intOf];omega⟩
  .have δ:Hid (cM steps n=st):=by
    unfold Hid;rw[hq.out,ê À];rfl
   go_wp2_with fail;go_returns;exact⟨dc δ.symm,by go_grown⟩
theorem CF(g off cap:Nat)(steps:List Int)(n:Int)(w:Wd)(hg:g<w.heap.size)(hl:(steps.length:Int)<=1000000)(hc:∀i x,steps[i]?=Y x->w.cell? ⟨g,off+i,M⟩=Y (I ψ x)) :
  Calls prog 307 #[J #[Z (Y ⟨g,off,M⟩) steps.length cap],I ψ n] w λe w'=>e=υ (I ψ (cm steps n))/\ω w w':=by
 have Ti:Hid (∀i x,steps[i]?=Y x->(w.alloc (L #[Z (Y ⟨g,off,M⟩) steps.length cap] 92)).cell? ⟨g,off+i,M⟩=Y (I ψ x)):=λi x h=>by rw[(below_alloc1 w _).cell (p:=⟨g,off+i,M⟩) hg];exact hc i x h
 clear hc hg;go_enter func307,ntmps307;go_wp2_with fail
 go_loop [5,11] (λv5 v11=>∃(j:Nat) (st:Int),j<=steps.length/\v11=I O j/\v5=I ψ st/\Hid (cm steps n=(steps.drop j).foldl (λst s=>if n<=s then min st s else st) st)) (λ_ v11=>steps.length-(intOf v11).toNat)
 case atStart=>exact⟨0,32767,Ì,rfl,rfl,rfl⟩
 case round=>
  obtain⟨j,st,hj,rfl,rfl,hq⟩:=hrel;by_cases dZ:j<steps.length
  .obtain⟨x,hx⟩:∃x,steps[j]?=Y x:=⟨_,Î dZ⟩
   have hcx:=Ti.out j x hx;have hd:steps.drop j=x::steps.drop (j+1):=by rw[ë dZ,(Í.1 hx).2]
   have HD:Hid (cm steps n=(steps.drop (j+1)).foldl (λst s=>if n<=s then min st s else st) (if n<=x then min st x else st)):=by unfold Hid;rw[hq.out,hd];rfl
   clear hd hx;by_cases hle:n<=x
   .rw[Á hle]at HD
    go_wp2_with fail
    all_goals exact⟨⟨j+1,_,À,by go_num,rfl,by unfold Hid;rw[HD.out]<;>congr 1<;>omega⟩,by simp[intOf];omega⟩
   .rw[Â hle]at HD
    go_wp2_with fail
    all_goals exact⟨⟨j+1,_,À,by go_num,rfl,HD⟩,by simp[intOf];omega⟩
  .have δ:Hid (cm steps n=st):=by
    unfold Hid;rw[hq.out,ê À];rfl
   go_wp2_with fail;go_returns;exact⟨dc δ.symm,by go_grown⟩
def qy(w:Wd)(v:Value)(steps:List Int):Prop:=∃g off cap,v=Z (Y ⟨g,off,M⟩) steps.length cap/\g<w.heap.size/\(steps.length:Int)<=1000000/\∀i x,steps[i]?=Y x->w.cell? ⟨g,off+i,M⟩=Y (I ψ x)
theorem qy.below{steps:List Int}(h:qy w v steps)(b:ω w w'):qy w' v steps:=by obtain⟨g,off,cap,rfl,hg,hl,hc⟩:=h;exact⟨g,off,cap,rfl,Nat.lt_of_lt_of_le hg b.size,hl,λi x hx=>by rw[b.cell (p:=⟨g,off+i,M⟩) hg];exact hc i x hx⟩
structure jl(w:Wd)(v:Value)(p q c d:Int)(W:Wd):Prop where
 o:W.heap[w.heap.size]?=Y (L #[v] 92)
 x:W.heap[w.heap.size+1]?=Y (L #[I ψ p,I ψ q] 90)
 y:W.heap[w.heap.size+1+1]?=Y (L #[I ψ c,I ψ d] 90)
 z:W.heap[w.heap.size+1+1+1]?=Y (L #[I ψ 0,I ψ 0] 90)
 b:ω w W
theorem jl.call(h:jl w v p q c d W)(k:ω W W'):jl w v p q c d W':=
 ⟨(k.block _ (ah h.o)).trans h.o,(k.block _ (ah h.x)).trans h.x,(k.block _ (ah h.y)).trans h.y,(k.block _ (ah h.z)).trans h.z,h.b.trans (k.mono h.b.size)⟩
theorem jl.aaN(h:jl w v p q c d W)(u:Int):jl w v u q c d (W.setCell ⟨w.heap.size+1,0,M⟩ (I ψ u)):=
 ⟨by rw[Æ _ _ _ _ (by show w.heap.size≠w.heap.size+1;omega)];exact h.o,by rw[ai h.x 0 (I ψ u)];rfl,by rw[Æ _ _ _ _ (by show w.heap.size+1+1≠w.heap.size+1;omega)];exact h.y,by rw[Æ _ _ _ _ (by show w.heap.size+1+1+1≠w.heap.size+1;omega)];exact h.z,h.b.setCell (p:=⟨w.heap.size+1,0,M⟩) (Nat.le_succ _) _⟩
theorem jl.aaL(h:jl w v p q c d W)(u:Int):jl w v p u c d (W.setCell ⟨w.heap.size+1,1,M⟩ (I ψ u)):=
 ⟨by rw[Æ _ _ _ _ (by show w.heap.size≠w.heap.size+1;omega)];exact h.o,by rw[ai h.x 1 (I ψ u)];rfl,by rw[Æ _ _ _ _ (by show w.heap.size+1+1≠w.heap.size+1;omega)];exact h.y,by rw[Æ _ _ _ _ (by show w.heap.size+1+1+1≠w.heap.size+1;omega)];exact h.z,h.b.setCell (p:=⟨w.heap.size+1,1,M⟩) (Nat.le_succ _) _⟩
theorem jl.res(h:jl w v p q c d W)(u u':Value):((W.setCell ⟨w.heap.size+1+1+1,0,M⟩ u).setCell ⟨w.heap.size+1+1+1,1,M⟩ u').cell? ⟨w.heap.size+1+1+1,0,M⟩=Y u/\((W.setCell ⟨w.heap.size+1+1+1,0,M⟩ u).setCell ⟨w.heap.size+1+1+1,1,M⟩ u').cell? ⟨w.heap.size+1+1+1,1,M⟩=Y u'/\ω w ((W.setCell ⟨w.heap.size+1+1+1,0,M⟩ u).setCell ⟨w.heap.size+1+1+1,1,M⟩ u'):=
 ⟨((aI h.z).2.2.2.2 u u').1,((aI h.z).2.2.2.2 u u').2,(h.b.setCell (p:=⟨w.heap.size+1+1+1,0,M⟩) (by show w.heap.size<=w.heap.size+1+1+1;omega) _).setCell (p:=⟨w.heap.size+1+1+1,1,M⟩) (by show w.heap.size<=w.heap.size+1+1+1;omega) _⟩
theorem jl.cells(h:jl w v p q c d W):W.cell? ⟨w.heap.size,0,M⟩=Y v/\W.cell? ⟨w.heap.size+1,0,M⟩=Y (I ψ p)/\W.cell? ⟨w.heap.size+1,1,M⟩=Y (I ψ q)/\W.cell? ⟨w.heap.size+1+1,0,M⟩=Y (I ψ c)/\W.cell? ⟨w.heap.size+1+1,1,M⟩=Y (I ψ d)/\W.cell? ⟨w.heap.size+1+1+1,0,M⟩=Y (I ψ 0)/\W.cell? ⟨w.heap.size+1+1+1,1,M⟩=Y (I ψ 0)/\W.frozen? ⟨w.heap.size+1,0,M⟩=false/\W.frozen? ⟨w.heap.size+1,1,M⟩=false/\W.frozen? ⟨w.heap.size+1+1+1,0,M⟩=false/\W.frozen? ⟨w.heap.size+1+1+1,1,M⟩=false:=
 ⟨cell_of h.o 0 rfl,cell_of h.x 0 rfl,cell_of h.x 1 rfl,cell_of h.y 0 rfl,cell_of h.y 1 rfl,cell_of h.z 0 rfl,cell_of h.z 1 rfl,ay h.x 0,ay h.x 1,ay h.z 0,ay h.z 1⟩
theorem Fk(v:Value)(steps:List Int)(n:Int)(w:Wd)(h:qy w v steps) :
  Calls prog 314 #[J #[v],I ψ n] w (λe w'=>e=υ (I ψ (cM steps n))/\ω w w') /\
  Calls prog 307 #[J #[v],I ψ n] w (λe w'=>e=υ (I ψ (cm steps n))/\ω w w'):=by
 obtain⟨g,off,cap,rfl,hg,hl,hc⟩:=h;exact⟨Cp g off cap steps n w hg hl hc,CF g off cap steps n w hg hl hc⟩
theorem PN(v:Value)(steps:List Int)(a b c d:Int)(w:Wd)(hS:qy w v steps) :
  Calls prog 305 #[J #[v],J #[I ψ a,I ψ b],J #[I ψ c,I ψ d]] w λe w'=>e=υ (J #[I ψ (if c<a then cM steps c else a),I ψ (if b<d then cm steps d else b)])/\ω w w':=by
 have HS:Hid (∀W n,ω w W->_/\_):=λW n h=>Fk v steps n W (hS.below h)
 clear hS;obtain⟨p,hp⟩:∃p,Hid (p=if c<a then cM steps c else a):=⟨_,rfl⟩;obtain⟨q,hq⟩:∃q,Hid (q=if b<d then cm steps d else b):=⟨_,rfl⟩;rw[<-hp.out,<-hq.out];obtain⟨k1,k2,k3,k4,k5⟩:=cN (w:=w) (o1:=L #[v] 92) (o2:=L #[I ψ a,I ψ b] 90) (o3:=L #[I ψ c,I ψ d] 90) (o4:=L #[I ψ 0,I ψ 0] 90) Å;have A0:Hid (jl w v a b c d _):=⟨k1,k2,k3,k4,k5⟩;clear k1 k2 k3 k4 k5;go_enter func305,ntmps305;go_upto_if 11 with fail;generalize (((w.alloc (L #[v] 92)).alloc (L #[I ψ a,I ψ b] 90)).alloc (L #[I ψ c,I ψ d] 90)).alloc (L #[I ψ 0,I ψ 0] 90)=W at*
 go_cut [] from 11 to 16 (λwc=>Hid (jl w v p b c d wc))
 case first=>
  obtain⟨q0,q1,q2,q3,q4,q5,q6,q7,q8,q9,Xg⟩:=A0.cells;by_cases h1:c<a
  .have e1:cM steps c=p:=by rw[hp.out,Á h1]
   go_wp2_with fail;refine((HS.out _ c A0.b).1).mono ?_;rintro e w1⟨rfl,b1⟩;rw[e1];have A1:=A0.call b1;have A2:Hid (jl w v p b c d (w1.setCell ⟨w.heap.size+1,0,M⟩ (I ψ p))):=A1.aaN p;clear q0 q1 q2 q3 q4 q5 q6 q7 q8 q9 Xg;obtain⟨q0,q1,q2,q3,q4,q5,q6,q7,q8,q9,Xg⟩:=A1.cells;clear A1 A0;go_wp2_with fail;go_meet;exact A2
  .obtain rfl:p=a:=by rw[hp.out,Â h1]
   go_wp2_with fail;go_meet;exact A0
 case rest=>
  obtain⟨q0,q1,q2,q3,q4,q5,q6,q7,q8,q9,Xg⟩:=hcut.cells;clear A0;go_upto_if 21 with fail
  go_cut [] from 21 to 26 (λwd=>Hid (jl w v p q c d wd))
  case first=>
   by_cases h2:b<d
   .have e1:cm steps d=q:=by rw[hq.out,Á h2]
    go_wp2_with fail;refine((HS.out _ d hcut.b).2).mono ?_;rintro e w1⟨rfl,b1⟩;rw[e1];have A1:=hcut.call b1;have A2:Hid (jl w v p q c d (w1.setCell ⟨w.heap.size+1,1,M⟩ (I ψ q))):=A1.aaL q;clear q0 q1 q2 q3 q4 q5 q6 q7 q8 q9 Xg;obtain⟨q0,q1,q2,q3,q4,q5,q6,q7,q8,q9,Xg⟩:=A1.cells;clear A1 hcut;go_wp2_with fail;go_meet;exact A2
   .obtain rfl:q=b:=by rw[hq.out,Â h2]
    go_wp2_with fail;go_meet;exact hcut
  case rest=>
   have H1:=hcut;clear q0 q1 q2 q3 q4 q5 q6 q7 q8 q9 Xg;obtain⟨q0,q1,q2,q3,q4,q5,q6,q7,q8,q9,Xg⟩:=H1.cells;have R:=hid (H1.res (I ψ p) (I ψ q));clear H1;go_wp2_with fail;exact Ç (v:=J #[I ψ p,I ψ q]) (by simp[results,results305,go_sem,R.1,R.2.1]) rfl ⟨rfl,R.2.2⟩
end
end Go.Proofs.YtiopfihjmkfdmabGreatDoor
