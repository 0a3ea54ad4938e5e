import Derived.Test.YtiopfihjmkfdmabGreatDoorC14
import Derived.Deep.CutRange
namespace Go.Proofs.YtiopfihjmkfdmabGreatDoor
open Go.Value renaming int->I,slice->Z,agg->J
open Go.IntKind renaming i64->O,i16->ψ
open Go.Ending renaming returned->υ
open Option renaming some->Y,none->M
open Go.Obj renaming cells->L
open Go.Proofs.Tryz Sp
open Go.RowKit
set_option maxRecDepth 100000
set_option maxHeartbeats 16000000
section
variable{w w' w2 w0:Wd}
variable{zs:List Int}
theorem A8(n:Int)(w:Wd):Calls prog 11 #[I O n] w λe w'=>e=υ (I O n)/\w'=w:=by go_enter func11,ntmps11;go_wp2_with fail;go_ret;exact⟨rfl,rfl⟩
theorem rA.after(h:rA w)(hb:ω w w'):rA w':=h.below hb h.laid.size
theorem Sy:(prog.info? 73).map (λi=>(i.zero,i.size,i.bytes))=Y (Y (I ψ 0),1,2):=Ã
def yE(zs:List Int):List Value:=zs.map λz=>I ψ z
def tE(base:Nat)(w:Wd)(v:Value)(zs:List Int):Prop:=w.ownsRow base 73 1 v zs.length (yE zs)
def aX(ns:List Nat):List Int:=[-32768,32767]++ns.flatMap λ(n:Nat)=>[((n:Nat):Int),-((n:Nat):Int)]
theorem tE.form{base:Nat}{v:Value}(h:tE base w v zs):∃a c,v=Z a zs.length c:=by
 rcases h.2 with⟨rfl,hz⟩|⟨g,cap,cur,rfl,_⟩
 .exact⟨M,0,by rw[hz]⟩
 .exact⟨_,_,rfl⟩
def uB(w:Wd)(v:Value)(ns:List Nat):Prop:=
 ∃a cap,v=Z a ns.length cap/\(ns≠[]->∃g off,a=Y ⟨g,off,M⟩/\g<w.heap.size/\∀(i n:Nat),ns[i]?=Y n->w.cell? ⟨g,off+i,M⟩=Y (I ψ ((n:Nat):Int)))
theorem KO{base:Nat}{v v':Value}{x y:Int}{o:Obj}(hb:base<=w.heap.size)(h:tE base w v zs)(kO:w2.ownsRow base 73 1 v' (zs.length+2) (yE zs++[I ψ x,I ψ y]))(hg:(w.alloc o).grownBy w2 v.ownBlock)(b0:Below base w0 w):tE base w2 v' (zs++[x,y])/\Below base w0 w2:=by refine⟨?_,b0.grown (qb hg) hb (λk hk=>(bk h k hk).1)⟩;unfold tE yE at*;rw[List.length_append,List.map_append];exact kO
theorem rE(ns:List Nat):(aX ns).length=2+2*ns.length:=by
 unfold aX;rw[List.length_append]
 induction ns with
 |nil=>rfl
 |cons x xs ih=>rw[List.flatMap_cons,List.length_append,List.length_cons]at*;simp only[List.length_cons,List.length_nil]at*;omega
theorem Vo(v:Value)(ns:List Nat)(w:Wd)(h:uB w v ns)(hs:ns.length<=1000)(hn:∀n∈ns,n<=32767) :
  Calls prog 23 #[v] w λe w'=>∃u,e=υ (J #[u])/\tE w.heap.size w' u (aX ns)/\ω w w':=by
 obtain⟨i16,abf,TC,aa4,abi⟩:=info_parts Sy;obtain⟨ad,cap,rfl,hc⟩:=h;have HN:=hid hn;have HC:Hid (ns≠[]->_):=hc;clear hn hc;go_enter func23,ntmps23;go_wp2_with fail;have W0:Hid (tE (w.heap.size+1) ((w.alloc (L #[Z M 0 0] 92)).alloc (L #[I ψ (-32768),I ψ 32767] 73)) (Z (Y ⟨w.heap.size+1,0,M⟩) 2 2) (aX [])):=by refine⟨rfl,.inr ⟨w.heap.size+1,2,#[I ψ (-32768),I ψ 32767],rfl,È,?_,È,by unfold maxLen;omega,rfl,rfl⟩⟩;have:=heap_alloc_new (w.alloc (L #[Z M 0 0] 92)) (L #[I ψ (-32768),I ψ 32767] 73);simpa using this
 have kL:((w.alloc (L #[Z M 0 0] 92)).alloc (L #[I ψ (-32768),I ψ 32767] 73)).heap[w.heap.size]?=Y (L #[Z M 0 0] 92):=heap_alloc_old (heap_alloc_new _ _);have Zi:ω w ((w.alloc (L #[Z M 0 0] 92)).alloc (L #[I ψ (-32768),I ψ 32767] 73)):=by go_grown
 have fH:w.heap.size+1<=((w.alloc (L #[Z M 0 0] 92)).alloc (L #[I ψ (-32768),I ψ 32767] 73)).heap.size:=Ä;generalize (w.alloc (L #[Z M 0 0] 92)).alloc (L #[I ψ (-32768),I ψ 32767] 73)=wz at*
 go_loopw [3,9] (λv3 v9 wr=>∃j:Nat,j<=ns.length/\v9=I O j/\Hid (tE (w.heap.size+1) wr v3 (aX (ns.take j))/\Below (w.heap.size+1) wz wr/\w.heap.size+1<=wr.heap.size)) (λ_ v9 _=>ns.length-(intOf v9).toNat)
 case atStart=>exact⟨0,Ì,rfl,W0.out,Å,fH⟩
 case round=>
  obtain⟨j,hj,rfl,hq⟩:=hrel;obtain⟨aq,cq,rfl⟩:=hq.1.form;by_cases dZ:j<ns.length
  .obtain⟨z,hz⟩:∃z,ns[j]?=Y z:=⟨_,Î dZ⟩
   have db:ns≠[]:=by intro e;subst e;simp at dZ
   obtain⟨g,off,rfl,hg,il⟩:=HC.out db;have Nh:wr.cell? ⟨g,off+j,M⟩=Y (I ψ ((z:Nat):Int)):=by rw[hq.2.1.cell (p:=⟨g,off+j,M⟩) (by show g<w.heap.size+1;omega),Zi.cell (p:=⟨g,off+j,M⟩) hg];exact il j z hz
   have xi:=HN.out z (Ù hz);have hzi:((z:Nat):Int)<=32767:=À;have Dr:Hid (aX (ns.take (j+1))=aX (ns.take j)++[((z:Nat):Int),-((z:Nat):Int)]):=by have hk:=Í.1 hz;unfold Hid aX;rw[ä hk.1,hk.2,List.flatMap_append,<-Ô];simp
   have Zu:(aX (ns.take j)).length<=2000:=by rw[rE,List.length_take];omega
   have eu:=hid hq.1;have Ky:=hq.2.2;clear hz il;go_wp2_with (first
    |(at_builtin;refine wpList_append_own_at _ rfl _ _ 61 rfl (w.heap.size+1) 73 i16 (I ψ 0) 1 2 underlying61 abf TC aa4 abi rfl É _ _ _ rfl (eu.alloc _) ⟨wr.heap.size,0,M⟩ 2 2 [I ψ ((z:Nat):Int),I ψ (-((z:Nat):Int))] rfl rfl (World.news_of_block (cs:=#[I ψ ((z:Nat):Int),I ψ (-((z:Nat):Int))]) (t:=73) (fr:=(0,0)) (heap_alloc_new _ _)) ?q1 ?q2 ?q3 ?q4 ?_))
   case q1=>intro u hu;simp at hu;rcases hu with rfl|rfl<;>rfl
   case q2=>unfold maxLen;omega
   case q3=>omega
   case q4=>simp;omega
   intro v3 w3 jf eZ _ _;obtain⟨r3,b3⟩:=KO Ky eu.out jf eZ hq.2.1;rw[<-Dr.out]at r3;have BM:w.heap.size+1<=w3.heap.size:=by have h1:=b3.size;omega
   have HQ:=hid (And.intro r3 (And.intro b3 BM));clear jf eZ r3 b3 BM eu;go_wp2_with fail;exact⟨⟨j+1,À,by go_num,HQ⟩,by simp[intOf];omega⟩
  .have EJ:Hid (ns.take j=ns):=List.take_of_length_le À
   have je:wr.heap[w.heap.size]?=Y (L #[Z M 0 0] 92):=(hq.2.1.block _ (Nat.lt_succ_self _)).trans kL;have m0:=cell_of je 0 (v:=Z M 0 0) rfl;have jo:=ay je 0;have eu:tE (w.heap.size+1) wr (Z aq (aX (ns.take j)).length cq) (aX (ns.take j)):=hq.1;have MQ:Hid ((wr.setCell ⟨w.heap.size,0,M⟩ (Z aq (aX (ns.take j)).length cq)).cell? ⟨w.heap.size,0,M⟩=Y (Z aq (aX (ns.take j)).length cq)):=cell_of (ai je 0 (Z aq (aX (ns.take j)).length cq)) 0 rfl;have HF:Hid (tE w.heap.size (wr.setCell ⟨w.heap.size,0,M⟩ (Z aq (aX (ns.take j)).length cq)) (Z aq (aX (ns.take j)).length cq) (aX ns)/\ω w (wr.setCell ⟨w.heap.size,0,M⟩ (Z aq (aX (ns.take j)).length cq))):=by
    refine⟨?_,?_⟩
    .have ej:=EJ.out
     rw[ej]at eu⊢;have h1:=aY (w':=wr.setCell ⟨w.heap.size,0,M⟩ (Z aq (aX ns).length cq)) eu (λk hk=>Æ _ _ _ _ (by have:=(bk eu k hk).1;show k≠w.heap.size;omega));obtain⟨h2,h3⟩:=h1;refine⟨h2,?_⟩
     rcases h3 with h3|⟨g,cap,cur,e,hg,r⟩
     .exact .inl h3
     .exact .inr ⟨g,cap,cur,e,Nat.le_trans (Nat.le_succ _) hg,r⟩
    .exact(Zi.trans (hq.2.1.mono (Nat.le_succ _))).setCell (p:=⟨w.heap.size,0,M⟩) È _
   clear eu je;go_wp2_with fail;exact Ç (v:=J #[Z aq (aX (ns.take j)).length cq]) (by simp[results,results23,go_sem,MQ.out]) rfl ⟨_,rfl,HF.1,HF.2⟩
end
end Go.Proofs.YtiopfihjmkfdmabGreatDoor
