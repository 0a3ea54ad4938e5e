import Derived.Test.YtiopfihjmkfdmabGreatDoorC24
namespace Go.Proofs.YtiopfihjmkfdmabGreatDoor
open Option renaming some->Y,none->M
open Go.Value renaming int->I,bool->U,pointer->ρ,slice->Z,agg->J,tuple->φ
open Go.IntKind renaming i64->O
open Go.Ending renaming returned->υ
open Go.Obj renaming cells->L
open Go.Proofs.Tryz Sp
set_option maxRecDepth 100000
set_option maxHeartbeats 16000000
section
namespace RG
open Go.RowKit W
variable {E: Bool}
theorem gw.bH{C:Rc E}{l:List Int}{w w':Wd}(h:gw C l w)(k:RK C w w'):gw C l w':=by
 refine⟨?_,h.Dw⟩
 rcases h.Wr with h|⟨Gh,cap,c,h1,h2,h3,h4,h5,h6,h7⟩
 .exact .inl h
 .exact .inr ⟨Gh,cap,c,h1,(k.others _ (ah h2) h4 h5).trans h2,h3,h4,h5,h6,h7⟩
theorem GS(l:List Int)(n st:Int)(i:Nat)(k:Int)(hk:l[i]?=Y k):(l.take (i+1)).foldl (λst s=>if s<=n then max st s else st) st=(λst s=>if s<=n then max st s else st) ((l.take i).foldl (λst s=>if s<=n then max st s else st) st) k:=by rw[List.take_add_one,hk,List.foldl_append];rfl
theorem Hm(l:List Int)(n st:Int)(i:Nat)(k:Int)(hk:l[i]?=Y k):(l.take (i+1)).foldl (λst s=>if n<=s then min st s else st) st=(λst s=>if n<=s then min st s else st) ((l.take i).foldl (λst s=>if n<=s then min st s else st) st) k:=by rw[List.take_add_one,hk,List.foldl_append];rfl
theorem Lx(C:Rc E)(l:List Int)(F:jg)(n:Int)(w:Wd)(hR:bE C F w)(hS:gw C l w) :
  Calls prog 144 #[ρ (Y ⟨C.b,0,M⟩),I O n,U false] w λr w'=>r=υ (I O (cM l n))/\w'=w:=by
 have m6:=cell_of hR.aV 6 (v:=C.sv) rfl;have Dw:=hS.Dw
 rcases hS.Wr with⟨rfl,Jd⟩|⟨Gh,cap,c,Jd,hg,hc,_,_,nH,hmax⟩
 .rw[Jd]at m6
  clear hR hS Jd Dw;go_enter func144,ntmps144;go_wp2_with fail
  go_loopw [7,8] (λv7 v8 wr=>v7=I O (-32768)/\v8=I O 0/\wr=w) (λ_ _ _=>0)
  case atStart=>exact⟨rfl,rfl,rfl⟩
  case round=>
   obtain⟨rfl,rfl,rfl⟩:=hrel;go_wp2_with fail;go_ret;exact⟨rfl,rfl⟩
 .rw[Jd]at m6
  have HC:Hid (∀i k,l[i]?=Y k->w.cell? ⟨Gh,i,M⟩=Y (I O k)):=λi k h=>cell_of hg i (hc i k h)
  clear hR hS Jd hg hc;go_enter func144,ntmps144;go_wp2_with fail
  go_loopw [7,8] (λv7 v8 wr=>∃(i:Nat) (z:Int),i<=l.length/\v8=I O i/\v7=I O z/\Hid (z=(l.take i).foldl (λst s=>if s<=n then max st s else st) (-32768))/\wr=w) (λ_ v8 _=>l.length-(intOf v8).toNat)
  case atStart=>exact⟨0,-32768,Ì,rfl,rfl,rfl,rfl⟩
  case round=>
   obtain⟨i,z,hi,rfl,rfl,hz,rfl⟩:=hrel;by_cases hil:i<l.length
   .have WD:((i:Nat):Int)<((l.length:Nat):Int):=À
    obtain⟨k,hk⟩:∃k,l[i]?=Y k:=⟨_,Î hil⟩;have c0:=HC.out i k hk;have HZ:Hid (∀z',z'=(if k<=n then max z k else z)->z'=(l.take (i+1)).foldl (λst s=>if s<=n then max st s else st) (-32768)):=λz' h=>by rw[GS l n _ i k hk,<-hz.out];exact h
    clear hz hk;by_cases h1:k<=n
    .by_cases h2:z<k
     .have ν:=HZ.out k (by rw[Á h1];omega)
      have mM:=hid ν;clear HZ ν;go_wp2_with fail;exact⟨⟨i+1,k,À,by go_num,rfl,mM,trivial⟩,by simp[intOf];omega⟩
     .have ν:=HZ.out z (by rw[Á h1];omega)
      have mM:=hid ν;clear HZ ν;go_wp2_with fail;exact⟨⟨i+1,z,À,by go_num,rfl,mM,trivial⟩,by simp[intOf];omega⟩
    .have ν:=HZ.out z (by rw[Â h1])
     have mM:=hid ν;clear HZ ν;go_wp2_with fail;exact⟨⟨i+1,z,À,by go_num,rfl,mM,trivial⟩,by simp[intOf];omega⟩
   .obtain rfl:i=l.length:=À
    have mM:Hid (z=cM l n):=by unfold Hid;rw[hz.out,List.take_length];rfl
    clear hz;go_wp2_with fail;go_ret;exact⟨by rw[mM.out];rfl,rfl⟩
theorem Rr(C:Rc E)(l:List Int)(F:jg)(n:Int)(w:Wd)(hR:bE C F w)(hS:gw C l w) :
  Calls prog 144 #[ρ (Y ⟨C.b,0,M⟩),I O n,U true] w λr w'=>r=υ (I O (cm l n))/\w'=w:=by
 have m6:=cell_of hR.aV 6 (v:=C.sv) rfl;have Dw:=hS.Dw
 rcases hS.Wr with⟨rfl,Jd⟩|⟨Gh,cap,c,Jd,hg,hc,_,_,nH,hmax⟩
 .rw[Jd]at m6
  clear hR hS Jd Dw;go_enter func144,ntmps144;go_wp2_with fail
  go_loopw [7,8] (λv7 v8 wr=>v7=I O 32767/\v8=I O 0/\wr=w) (λ_ _ _=>0)
  case atStart=>exact⟨rfl,rfl,rfl⟩
  case round=>
   obtain⟨rfl,rfl,rfl⟩:=hrel;go_wp2_with fail;go_ret;exact⟨rfl,rfl⟩
 .rw[Jd]at m6
  have HC:Hid (∀i k,l[i]?=Y k->w.cell? ⟨Gh,i,M⟩=Y (I O k)):=λi k h=>cell_of hg i (hc i k h)
  clear hR hS Jd hg hc;go_enter func144,ntmps144;go_wp2_with fail
  go_loopw [7,8] (λv7 v8 wr=>∃(i:Nat) (z:Int),i<=l.length/\v8=I O i/\v7=I O z/\Hid (z=(l.take i).foldl (λst s=>if n<=s then min st s else st) 32767)/\wr=w) (λ_ v8 _=>l.length-(intOf v8).toNat)
  case atStart=>exact⟨0,32767,Ì,rfl,rfl,rfl,rfl⟩
  case round=>
   obtain⟨i,z,hi,rfl,rfl,hz,rfl⟩:=hrel;by_cases hil:i<l.length
   .have WD:((i:Nat):Int)<((l.length:Nat):Int):=À
    obtain⟨k,hk⟩:∃k,l[i]?=Y k:=⟨_,Î hil⟩;have c0:=HC.out i k hk;have HZ:Hid (∀z',z'=(if n<=k then min z k else z)->z'=(l.take (i+1)).foldl (λst s=>if n<=s then min st s else st) 32767):=λz' h=>by rw[Hm l n _ i k hk,<-hz.out];exact h
    clear hz hk;by_cases h1:n<=k
    .by_cases h2:k<z
     .have ν:=HZ.out k (by rw[Á h1];omega)
      have mM:=hid ν;clear HZ ν;go_wp2_with fail;exact⟨⟨i+1,k,À,by go_num,rfl,mM,trivial⟩,by simp[intOf];omega⟩
     .have ν:=HZ.out z (by rw[Á h1];omega)
      have mM:=hid ν;clear HZ ν;go_wp2_with fail;exact⟨⟨i+1,z,À,by go_num,rfl,mM,trivial⟩,by simp[intOf];omega⟩
    .have ν:=HZ.out z (by rw[Â h1])
     have mM:=hid ν;clear HZ ν;go_wp2_with fail;exact⟨⟨i+1,z,À,by go_num,rfl,mM,trivial⟩,by simp[intOf];omega⟩
   .obtain rfl:i=l.length:=À
    have mM:Hid (z=cm l n):=by unfold Hid;rw[hz.out,List.take_length];rfl
    clear hz;go_wp2_with fail;go_ret;exact⟨by rw[mM.out];rfl,rfl⟩
end RG
end
section
namespace RG
open Go.RowKit W
variable {E: Bool}
section
variable{F:jg}
variable{l:List Int}
variable{w W W' w':Wd}
variable{k4 k5 k6 k7 g1 g2 k g:Nat}
variable{e f h h':di}
theorem qi(w:Wd)(n:Nat):ω w (w.drewN n):=⟨rfl,rfl,rfl,È,λ_ _=>rfl⟩
structure jY(C:Rc E)(F:jg)(l:List Int)(w:Wd)(k4 k5 k6 k7 g1 g2:Nat)(e f h:di)(W:Wd):Prop where
 ra:bE C F W
 st:gw C l W
 x:W.heap[k4]?=Y (L #[U false,Z (Y ⟨g1,0,M⟩) 8 8] 56)
 y:W.heap[k5]?=Y (L #[U false,Z (Y ⟨g2,0,M⟩) 8 8] 56)
 r:W.heap[k6]?=Y (L #[U false,Z M 0 0] 56)
 o:∃g,W.heap[k7]?=Y (L #[U false,Z (Y ⟨g,0,M⟩) 8 8] 56)/\W.heap[g]?=Y (L (gi h) 117)
 e1:W.heap[g1]?=Y (L (gi e) 117)
 e2:W.heap[g2]?=Y (L (gi f) 117)
 b:ω w W
 l6:w.heap.size<=k6
 l7:w.heap.size<=k7
 n67:k6≠k7
 n47:k4≠k7
 n57:k5≠k7
 old:C.gf<w.heap.size/\C.gs<w.heap.size
theorem jY.call{C:Rc E}(q:jY C F l w k4 k5 k6 k7 g1 g2 e f h W)(k:ω W W'):jY C F l w k4 k5 k6 k7 g1 g2 e f h W':=by obtain⟨g,o1,o2⟩:=q.o;exact⟨q.ra.call k,q.st.bH (RK.aF k q.ra.le),(k.block _ (ah q.x)).trans q.x,(k.block _ (ah q.y)).trans q.y,(k.block _ (ah q.r)).trans q.r,⟨g,(k.block _ (ah o1)).trans o1,(k.block _ (ah o2)).trans o2⟩,(k.block _ (ah q.e1)).trans q.e1,(k.block _ (ah q.e2)).trans q.e2,q.b.trans (k.mono q.b.size),q.l6,q.l7,q.n67,q.n47,q.n57,q.old⟩
theorem gw.other{C:Rc E}(h:gw C l w)(iO:∀j,j≠k->w'.heap[j]?=w.heap[j]?){c:Array Value}{ty:TypeId}(hk:Bk w k c ty)(ht:ty≠3):gw C l w':=by
 refine⟨?_,h.Dw⟩
 rcases h.Wr with h|⟨Gh,cap,c',h1,h2,h3,h4,h5,h6,h7⟩
 .exact .inl h
 .refine .inr ⟨Gh,cap,c',h1,(iO _ (λq=>?_)).trans h2,h3,h4,h5,h6,h7⟩
  rw[q,hk]at h2;injection h2 with h2
  injection h2 with _ h2
  exact ht h2
theorem jY.own{C:Rc E}(q:jY C F l w k4 k5 k6 k7 g1 g2 e f h W){u v:Value}(hk:Bk W k #[u,v] 117)(hl:w.heap.size<=k)(i:Nat)(z:Value):jY C F l w k4 k5 k6 k7 g1 g2 e f h (W.setCell ⟨k,i,M⟩ z):=by
 obtain⟨o1,o2⟩:=q.old;have iO:∀j,j≠k->(W.setCell ⟨k,i,M⟩ z).heap[j]?=W.heap[j]?:=λj hj=>Æ _ _ _ _ hj
 have ns:∀{b:Nat} {c:Array Value},W.heap[b]?=Y (L c 56)->b≠k:=λhb q=>by rw[q,hk]at hb;cases hb
 have nv:∀{b:Nat} {e:di},W.heap[b]?=Y (L (gi e) 117)->b≠k:=λhb q=>by rw[q,hk]at hb;exact Fz _ rfl _ _ hb
 obtain⟨g,p1,p2⟩:=q.o;exact⟨q.ra.own (k:=k) (λx=>by have:=q.ra.aV;rw[<-x,hk]at this;cases this) À À (λe=>by rw[hk];exact Fz _ rfl _ _) iO,q.st.other iO hk É,(iO _ (ns q.x)).trans q.x,(iO _ (ns q.y)).trans q.y,(iO _ (ns q.r)).trans q.r,⟨g,(iO _ (ns p1)).trans p1,(iO _ (nv p2)).trans p2⟩,(iO _ (nv q.e1)).trans q.e1,(iO _ (nv q.e2)).trans q.e2,q.b.setCell (p:=⟨k,i,M⟩) hl _,q.l6,q.l7,q.n67,q.n47,q.n57,q.old⟩
theorem jY.put{C:Rc E}(q:jY C F l w k4 k5 k6 k7 g1 g2 e f h W)(hg:Bk W g (gi h') 117):jY C F l w k4 k5 k6 k7 g1 g2 e f h' ((W.setCell ⟨k7,0,M⟩ (U false)).setCell ⟨k7,1,M⟩ (Z (Y ⟨g,0,M⟩) 8 8)):=by
 obtain⟨o1,o2⟩:=q.old;have l7:=q.l7;obtain⟨g0,p1,p2⟩:=q.o;have iO:∀j,j≠k7->((W.setCell ⟨k7,0,M⟩ (U false)).setCell ⟨k7,1,M⟩ (Z (Y ⟨g,0,M⟩) 8 8)).heap[j]?=W.heap[j]?:=λj hj=>by rw[Æ _ _ _ _ hj,Æ _ _ _ _ hj]
 have nv:∀{b:Nat} {e:di},W.heap[b]?=Y (L (gi e) 117)->b≠k7:=λhb q=>by rw[q,p1]at hb;cases hb
 exact⟨q.ra.Mm p1 À _ _,q.st.other iO p1 É,(iO _ q.n47).trans q.x,(iO _ q.n57).trans q.y,(iO _ q.n67).trans q.r,⟨g,by rw[ai (ai p1 0 _) 1 _];rfl,(iO _ (nv hg)).trans hg⟩,(iO _ (nv q.e1)).trans q.e1,(iO _ (nv q.e2)).trans q.e2,(q.b.setCell (p:=⟨k7,0,M⟩) l7 _).setCell (p:=⟨k7,1,M⟩) l7 _,q.l6,q.l7,q.n67,q.n47,q.n57,q.old⟩
def Ú(v:Fin 8->T)(s:di)(j:Nat):di:=λk=>if k.val<j then v k else s k
theorem AT(v:Fin 8->T)(s:di)(j:Nat)(hj:j<8):qM (Ú v s j) j (v ⟨j,hj⟩)=Ú v s (j+1):=by
 funext i;unfold qM Ú;by_cases h:i.val=j
 .rw[Á h,Á À]
  have:i=⟨j,hj⟩:=Fin.ext h;rw[this]
 .rw[Â h]
  by_cases h2:i.val<j
  .rw[Á h2,Á À]
  .rw[Â h2,Â À]
theorem OO(v:Fin 8->T)(s:di):Ú v s 0=s:=by funext i;unfold Ú;rw[Â À]
theorem NW(v:Fin 8->T)(s:di):Ú v s 8=v:=by funext i;unfold Ú;rw[Á i.isLt]
theorem FT{C:Rc E}(hR:bE C F w)(hS:gw C l w)(h1:Bk w g1 (gi e) 117)(h2:Bk w g2 (gi f) 117)(hg:g=g1/\h=e∨g=g2/\h=f) :
  jY C F l w w.heap.size (w.heap.size+1) (w.heap.size+1+1) (w.heap.size+1+1+1) g1 g2 e f h ((((w.alloc (L #[U false,Z (Y ⟨g1,0,M⟩) 8 8] 56)).alloc (L #[U false,Z (Y ⟨g2,0,M⟩) 8 8] 56)).alloc (L #[U false,Z M 0 0] 56)).alloc (L #[U false,Z (Y ⟨g,0,M⟩) 8 8] 56)):=by
 obtain⟨a1,a2,a3,a4,kb⟩:=cN (w:=w) (o1:=L #[U false,Z (Y ⟨g1,0,M⟩) 8 8] 56) (o2:=L #[U false,Z (Y ⟨g2,0,M⟩) 8 8] 56) (o3:=L #[U false,Z M 0 0] 56) (o4:=L #[U false,Z (Y ⟨g,0,M⟩) 8 8] 56) Å;obtain⟨c1,q1,_⟩:=hR.gf;obtain⟨c2,q2,_⟩:=hR.gs;refine⟨hR.call kb,hS.bH (RK.aF kb hR.le),a1,a2,a3,⟨g,a4,?_⟩,(kb.block _ (ah h1)).trans h1,(kb.block _ (ah h2)).trans h2,kb,À,À,À,À,À,⟨ah q1,ah q2⟩⟩
 rcases hg with⟨rfl,rfl⟩|⟨rfl,rfl⟩
 .exact(kb.block _ (ah h1)).trans h1
 .exact(kb.block _ (ah h2)).trans h2
end
end RG
end
section
namespace RG
open Go.RowKit W
theorem yK(C:Rc true)(F:jg)(l:List Int)(g1 g2:Nat)(e f:di)(w:Wd)(hR:bE C F w)(hS:gw C l w)(h1:Bk w g1 (gi e) 117)(h2:Bk w g2 (gi f) 117) :
  Calls prog 102 #[ρ (Y ⟨C.b,0,M⟩),J #[U false,Z (Y ⟨g1,0,M⟩) 8 8],J #[U false,Z (Y ⟨g2,0,M⟩) 8 8]] w λr w'=>∃v,r=υ v/\dL w' v (Y (λk=>eO (e k) (f k)))/\ω w w':=by
 have HW:=FT (e:=e) (f:=f) hR hS h1 h2 (g:=g1) (h:=e) (.inl ⟨rfl,rfl⟩);obtain⟨a1,a2,a3,kb⟩:=bQ (w:=w) (o1:=L #[U false,Z (Y ⟨g1,0,M⟩) 8 8] 56) (o2:=L #[U false,Z (Y ⟨g2,0,M⟩) 8 8] 56) (o3:=L #[U false,Z M 0 0] 56) Å;have m1:_=Y (Value.int O 0):=(hR.call kb).cells.1;obtain⟨W3,hW⟩:∃W3,((w.alloc (L #[U false,Z (Y ⟨g1,0,M⟩) 8 8] 56)).alloc (L #[U false,Z (Y ⟨g2,0,M⟩) 8 8] 56)).alloc (L #[U false,Z M 0 0] 56)=W3:=⟨_,rfl⟩;have h3:W3.heap.size=w.heap.size+1+1+1:=by rw[<-hW];simp
 rw[hW]at HW m1 a1 a2;rw[<-h3]at HW;have H:Hid (jY C F l w w.heap.size (w.heap.size+1) (w.heap.size+1+1) W3.heap.size g1 g2 e f (Ú (λk=>eO (e k) (f k)) e 0) (W3.alloc (L #[U false,Z (Y ⟨g1,0,M⟩) 8 8] 56))):=by unfold Hid;rw[OO];exact HW
 clear hR hS h1 h2 HW a3 kb h3;go_enter func102,ntmps102;go_upto_region 1 with fail;try rw[hW]
 obtain⟨k4,e4⟩:∃k,k=w.heap.size:=⟨_,rfl⟩;obtain⟨k5,e5⟩:∃k,k=w.heap.size+1:=⟨_,rfl⟩;obtain⟨k6,e6⟩:∃k,k=w.heap.size+1+1:=⟨_,rfl⟩;rw[<-e6,<-e5,<-e4];rw[<-e6,<-e5,<-e4]at H;rw[<-e4]at a1;rw[<-e5]at a2;obtain⟨x0,x1,_,_,_⟩:=aI a1;obtain⟨y0,y1,_,_,_⟩:=aI a2;clear hW e4 e5 e6 a1 a2;go_upto_region 4 with fail;generalize W3.alloc (L #[U false,Z (Y ⟨g1,0,M⟩) 8 8] 56)=W at*;generalize W3.heap.size=k7 at*;clear x0 x1 y0 y1 m1;go_wp2_with fail
 go_loopw [8] (λv8 wr=>∃j:Nat,j<=8/\v8=I O j/\Hid (jY C F l w k4 k5 k6 k7 g1 g2 e f (Ú (λk=>eO (e k) (f k)) e j) wr)) (λv8 _=>8-(intOf v8).toNat)
 case atStart=>exact⟨0,Ì,rfl,H⟩
 case round=>
  obtain⟨j,hj,rfl,hq⟩:=hrel;clear H;by_cases lV:j<8
  .have wJ:((j:Nat):Int)<8:=À
   obtain⟨J2,HJ⟩:∃J2,Hid (J2=j*2):=⟨_,rfl⟩;obtain⟨x,hx⟩:∃x,x=e ⟨j,lV⟩:=⟨_,rfl⟩;obtain⟨y,hy⟩:∃y,y=f ⟨j,lV⟩:=⟨_,rfl⟩;have HN:Hid (qM (Ú (λk=>eO (e k) (f k)) e j) j (eO x y)=Ú (λk=>eO (e k) (f k)) e (j+1)):=by unfold Hid;rw[hx,hy];exact AT (λk=>eO (e k) (f k)) e j lV
   have xR:Hid (∀W:Wd,(∃h,jY C F l w k4 k5 k6 k7 g1 g2 e f h W)->W.cell? ⟨g1,J2,M⟩=Y (I O x.a)/\W.cell? ⟨g1,J2+1,M⟩=Y (I O x.b)/\W.cell? ⟨g2,J2,M⟩=Y (I O y.a)/\W.cell? ⟨g2,J2+1,M⟩=Y (I O y.b)/\W.cell? ⟨k4,1,M⟩=Y (Z (Y ⟨g1,0,M⟩) 8 8)/\W.cell? ⟨k5,1,M⟩=Y (Z (Y ⟨g2,0,M⟩) 8 8)):=λW ⟨h,hW⟩=>by obtain⟨a1,a2⟩:=mi e j lV;obtain⟨a3,a4⟩:=mi f j lV;rw[HJ.out,hx,hy];exact⟨cell_of hW.e1 _ a1,cell_of hW.e1 _ a2,cell_of hW.e2 _ a3,cell_of hW.e2 _ a4,cell_of hW.x 1 rfl,cell_of hW.y 1 rfl⟩
   clear hx hy;generalize Ú (λk=>eO (e k) (f k)) e j=hh at*;obtain⟨p1,p2,p3,p4,p5,p6⟩:=xR.out wr ⟨_,hq.out⟩;rw[HJ.out]at p1 p2 p3 p4;have hX:=hq.call (below_alloc1 wr (L #[I O x.a,I O x.b] 117));have h9:=heap_alloc_new wr (L #[I O x.a,I O x.b] 117);have Zm:=hid hq.b.size;go_upto_region 8 with fail;generalize wr.alloc (L #[I O x.a,I O x.b] 117)=X at*;generalize wr.heap.size=k9 at*;have HV:Hid (jY C F l w k4 k5 k6 k7 g1 g2 e f hh X/\X.heap[k9]?=Y (L #[I O x.a,I O x.b] 117)):=⟨hX,h9⟩;clear p1 p2 p3 p4 p5 p6 hX h9 hq;have TX:Hid (∀(v:T) (g:Nat) (W:Wd),W.heap[g]?=Y (L (gi hh) 117)->Calls prog 59 #[J #[U false,Z (Y ⟨g,0,M⟩) 8 8],I O (j:Nat),J #[I O (pA v),I O (pB v)]] W λr w'=>∃u,r=υ u/\dL w' u (Y (qM hh j v))/\ω W w'):=λv g W h=>oJ g hh j lV v W h
   obtain⟨va,hva⟩:∃va,va=(eO x y).a:=⟨_,rfl⟩;obtain⟨vb,Dv⟩:∃vb,vb=(eO x y).b:=⟨_,rfl⟩;have Z2:Hid (eO x y=⟨va,vb⟩):=by unfold Hid;rw[hva,Dv]
   rw[Z2.out]at HN;clear Z2;by_cases h1:x.a=-32768
   case' pos=>
    have E1:Hid (va=y.a):=hva.trans (Á h1);obtain⟨p1,p2,p3,p4,p5,p6⟩:=xR.out X ⟨_,HV.1⟩;obtain⟨q0,q1,oR,oP,_⟩:=aI HV.2;rw[HJ.out]at p3;have HB:=hid (And.intro (HV.1.own HV.2 Zm.out 0 (I O y.a)) (ai HV.2 0 (I O y.a)));rw[h1]at q0;clear p1 p2 p4 p5 hva;go_upto_region 10 with fail;have HC:Hid (jY C F l w k4 k5 k6 k7 g1 g2 e f hh (X.setCell ⟨k9,0,M⟩ (I O y.a))/\(X.setCell ⟨k9,0,M⟩ (I O y.a)).heap[k9]?=Y (L #[I O y.a,I O x.b] 117)):=HB.out;generalize X.setCell ⟨k9,0,M⟩ (I O y.a)=κ at*;rw[<-E1.out]at HC;clear HB HV q0 q1 oR oP p3 p6 h1 E1
   case' neg=>
    have E1:Hid (va=x.a):=hva.trans (Â h1);obtain⟨q0,q1,oR,oP,_⟩:=aI HV.2;have hz:(x.a==-32768)=false:=by simpa using h1
    clear hva;go_upto_region 10 with fail;have HC:=hid HV.out;generalize X=κ at*;rw[<-E1.out]at HC;clear q0 q1 oR oP HV h1 hz E1
   all_goals
    by_cases h2:x.b=32767
    case' pos=>
     have E1:Hid (vb=y.b):=Dv.trans (Á h2);obtain⟨p1,p2,p3,p4,p5,p6⟩:=xR.out κ ⟨_,HC.1⟩;obtain⟨q0,q1,oR,oP,_⟩:=aI HC.2;rw[HJ.out]at p4;have HB:=hid (And.intro (HC.1.own HC.2 Zm.out 1 (I O y.b)) (ai HC.2 1 (I O y.b)));rw[h2]at q1;clear p1 p2 p3 p5 Dv;go_upto_region 12 with fail;have HD:Hid (jY C F l w k4 k5 k6 k7 g1 g2 e f hh (κ.setCell ⟨k9,1,M⟩ (I O y.b))/\(κ.setCell ⟨k9,1,M⟩ (I O y.b)).heap[k9]?=Y (L #[I O va,I O y.b] 117)):=HB.out;generalize κ.setCell ⟨k9,1,M⟩ (I O y.b)=Q at*;rw[<-E1.out]at HD;clear HB HC q0 q1 oR oP p4 p6 h2 E1
    case' neg=>
     have E1:Hid (vb=x.b):=Dv.trans (Â h2);obtain⟨q0,q1,oR,oP,_⟩:=aI HC.2;have hz:(x.b==32767)=false:=by simpa using h2
     clear Dv;go_upto_region 12 with fail;have HD:=hid HC.out;generalize κ=Q at*;rw[<-E1.out]at HD;clear q0 q1 oR oP HC h2 hz E1
   all_goals
    obtain⟨g,o1,o2⟩:=HD.1.o;obtain⟨s0,s1,_,_,_⟩:=aI o1;obtain⟨q0,q1,_,_,_⟩:=aI HD.2;have Za:=hid (TX.out ⟨va,vb⟩ g Q o2);clear o1 o2 xR TX;go_wp2_with fail;refine Za.mono ?_;rintro r w3⟨u,rfl,hu,b3⟩;obtain⟨gn,rfl,IY⟩:=hu;have h3:=HD.1.call b3;obtain⟨g',o1,o2⟩:=h3.o;obtain⟨z0,z1,xe,xo,_⟩:=aI o1;have HF:=hid (h3.put IY);rw[HN.out]at HF;clear s0 s1 q0 q1 Za HD h3 IY o1 o2 b3;go_wp2_with fail;exact⟨⟨j+1,À,by go_num,HF⟩,by simp[intOf];omega⟩
  .obtain rfl:j=8:=À
   have h9:=hq.out;rw[NW]at h9;obtain⟨g,o1,o2⟩:=h9.o;have c0:=cell_of o1 0 (v:=U false) rfl;have c1:=cell_of o1 1 (v:=Z (Y ⟨g,0,M⟩) 8 8) rfl;obtain⟨z0,z1,xe,xo,mq⟩:=aI h9.r;have MQ:=hid (mq (U false) (Z (Y ⟨g,0,M⟩) 8 8));have HT:=hid (And.intro ((show dL wr (J #[U false,Z (Y ⟨g,0,M⟩) 8 8]) (Y (λk=>eO (e k) (f k))) from⟨g,rfl,o2⟩).put h9.r (U false) (Z (Y ⟨g,0,M⟩) 8 8)) ((h9.b.setCell (p:=⟨k6,0,M⟩) h9.l6 (U false)).setCell (p:=⟨k6,1,M⟩) h9.l6 (Z (Y ⟨g,0,M⟩) 8 8)));clear mq h9 o1 o2 hq;go_wp2_with fail;exact Ç (v:=J #[U false,Z (Y ⟨g,0,M⟩) 8 8]) (by simp[results,results102,go_sem,MQ.1,MQ.2]) rfl ⟨_,rfl,HT.1,HT.2⟩
end RG
end
section
namespace RG
open Go.RowKit W
theorem mL(C:Rc true)(F:jg)(l:List Int)(g1 g2:Nat)(e f:di)(w:Wd)(hR:bE C F w)(hS:gw C l w)(h1:Bk w g1 (gi e) 117)(h2:Bk w g2 (gi f) 117) :
  Calls prog 101 #[ρ (Y ⟨C.b,0,M⟩),J #[U false,Z (Y ⟨g1,0,M⟩) 8 8],J #[U false,Z (Y ⟨g2,0,M⟩) 8 8]] w λr w'=>∃v,r=υ v/\dL w' v (Y (λk=>bY l (e k) (f k)))/\ω w w':=by
 have HW:=FT (e:=e) (f:=f) hR hS h1 h2 (g:=g2) (h:=f) (.inr ⟨rfl,rfl⟩);obtain⟨a1,a2,a3,kb⟩:=bQ (w:=w) (o1:=L #[U false,Z (Y ⟨g1,0,M⟩) 8 8] 56) (o2:=L #[U false,Z (Y ⟨g2,0,M⟩) 8 8] 56) (o3:=L #[U false,Z M 0 0] 56) Å;have m1:_=Y (Value.int O 0):=(hR.call kb).cells.1;obtain⟨W3,hW⟩:∃W3,((w.alloc (L #[U false,Z (Y ⟨g1,0,M⟩) 8 8] 56)).alloc (L #[U false,Z (Y ⟨g2,0,M⟩) 8 8] 56)).alloc (L #[U false,Z M 0 0] 56)=W3:=⟨_,rfl⟩;have h3:W3.heap.size=w.heap.size+1+1+1:=by rw[<-hW];simp
 rw[hW]at HW m1 a1 a2;rw[<-h3]at HW;have H:Hid (jY C F l w w.heap.size (w.heap.size+1) (w.heap.size+1+1) W3.heap.size g1 g2 e f (Ú (λk=>bY l (e k) (f k)) f 0) (W3.alloc (L #[U false,Z (Y ⟨g2,0,M⟩) 8 8] 56))):=by unfold Hid;rw[OO];exact HW
 clear hR hS h1 h2 HW a3 kb h3;go_enter func101,ntmps101;go_upto_region 1 with fail;try rw[hW]
 obtain⟨k4,e4⟩:∃k,k=w.heap.size:=⟨_,rfl⟩;obtain⟨k5,e5⟩:∃k,k=w.heap.size+1:=⟨_,rfl⟩;obtain⟨k6,e6⟩:∃k,k=w.heap.size+1+1:=⟨_,rfl⟩;rw[<-e6,<-e5,<-e4];rw[<-e6,<-e5,<-e4]at H;rw[<-e4]at a1;rw[<-e5]at a2;obtain⟨x0,x1,_,_,_⟩:=aI a1;obtain⟨y0,y1,_,_,_⟩:=aI a2;clear hW e4 e5 e6 a1 a2;go_upto_region 4 with fail;generalize W3.alloc (L #[U false,Z (Y ⟨g2,0,M⟩) 8 8] 56)=W at*;generalize W3.heap.size=k7 at*;clear x0 x1 y0 y1 m1;go_wp2_with fail
 go_loopw [8] (λv8 wr=>∃j:Nat,j<=8/\v8=I O j/\Hid (jY C F l w k4 k5 k6 k7 g1 g2 e f (Ú (λk=>bY l (e k) (f k)) f j) wr)) (λv8 _=>8-(intOf v8).toNat)
 case atStart=>exact⟨0,Ì,rfl,H⟩
 case round=>
  obtain⟨j,hj,rfl,hq⟩:=hrel;clear H;by_cases lV:j<8
  .have wJ:((j:Nat):Int)<8:=À
   obtain⟨J2,HJ⟩:∃J2,Hid (J2=j*2):=⟨_,rfl⟩;obtain⟨x,hx⟩:∃x,x=e ⟨j,lV⟩:=⟨_,rfl⟩;obtain⟨y,hy⟩:∃y,y=f ⟨j,lV⟩:=⟨_,rfl⟩;have HN:Hid (qM (Ú (λk=>bY l (e k) (f k)) f j) j (bY l x y)=Ú (λk=>bY l (e k) (f k)) f (j+1)):=by unfold Hid;rw[hx,hy];exact AT (λk=>bY l (e k) (f k)) f j lV
   have xR:Hid (∀W:Wd,(∃h,jY C F l w k4 k5 k6 k7 g1 g2 e f h W)->W.cell? ⟨g1,J2,M⟩=Y (I O x.a)/\W.cell? ⟨g1,J2+1,M⟩=Y (I O x.b)/\W.cell? ⟨g2,J2,M⟩=Y (I O y.a)/\W.cell? ⟨g2,J2+1,M⟩=Y (I O y.b)/\W.cell? ⟨k4,1,M⟩=Y (Z (Y ⟨g1,0,M⟩) 8 8)/\W.cell? ⟨k5,1,M⟩=Y (Z (Y ⟨g2,0,M⟩) 8 8)):=λW ⟨h,hW⟩=>by obtain⟨a1,a2⟩:=mi e j lV;obtain⟨a3,a4⟩:=mi f j lV;rw[HJ.out,hx,hy];exact⟨cell_of hW.e1 _ a1,cell_of hW.e1 _ a2,cell_of hW.e2 _ a3,cell_of hW.e2 _ a4,cell_of hW.x 1 rfl,cell_of hW.y 1 rfl⟩
   clear hx hy;generalize Ú (λk=>bY l (e k) (f k)) f j=hh at*;obtain⟨p1,p2,p3,p4,p5,p6⟩:=xR.out wr ⟨_,hq.out⟩;rw[HJ.out]at p1 p2 p3 p4;have hX:=hq.call (below_alloc1 wr (L #[I O x.a,I O x.b] 117));have h9:=heap_alloc_new wr (L #[I O x.a,I O x.b] 117);have Zm:=hid hq.b.size;go_upto_region 8 with fail;generalize wr.alloc (L #[I O x.a,I O x.b] 117)=X at*;generalize wr.heap.size=k9 at*;have HV:Hid (jY C F l w k4 k5 k6 k7 g1 g2 e f hh X/\X.heap[k9]?=Y (L #[I O x.a,I O x.b] 117)):=⟨hX,h9⟩;clear p1 p2 p3 p4 p5 p6 hX h9 hq;have HS:Hid (∀n (W:Wd),jY C F l w k4 k5 k6 k7 g1 g2 e f hh W->(Calls prog 144 #[ρ (Y ⟨C.b,0,M⟩),I O n,U false] W λr w'=>r=υ (I O (cM l n))/\w'=W)/\Calls prog 144 #[ρ (Y ⟨C.b,0,M⟩),I O n,U true] W λr w'=>r=υ (I O (cm l n))/\w'=W):=λn W h=>⟨Lx C l F n W h.ra h.st,Rr C l F n W h.ra h.st⟩
   have TX:Hid (∀(v:T) (g:Nat) (W:Wd),W.heap[g]?=Y (L (gi hh) 117)->Calls prog 59 #[J #[U false,Z (Y ⟨g,0,M⟩) 8 8],I O (j:Nat),J #[I O (pA v),I O (pB v)]] W λr w'=>∃u,r=υ u/\dL w' u (Y (qM hh j v))/\ω W w'):=λv g W h=>oJ g hh j lV v W h
   obtain⟨va,hva⟩:∃va,va=(bY l x y).a:=⟨_,rfl⟩;obtain⟨vb,Dv⟩:∃vb,vb=(bY l x y).b:=⟨_,rfl⟩;have Z2:Hid (bY l x y=⟨va,vb⟩):=by unfold Hid;rw[hva,Dv]
   rw[Z2.out]at HN;clear Z2;have HA:Hid (∀n,jY C F l w k4 k5 k6 k7 g1 g2 e f hh (X.drewN n)/\(X.drewN n).heap[k9]?=Y (L #[I O x.a,I O x.b] 117)):=λn=>⟨HV.1.call (qi _ _),HV.2⟩
   by_cases h1:y.a<x.a
   case' pos=>
    have e1:va=cM l y.a:=hva.trans (Á h1);obtain⟨p1,p2,p3,p4,p5,p6⟩:=xR.out X ⟨_,HV.1⟩;obtain⟨q0,q1,oR,oP,_⟩:=aI HV.2;rw[HJ.out]at p3;have HE1:=hid e1.symm;clear e1 p1 p2 p4 p5 hva HV;go_quiet (fail);obtain⟨ha,hb⟩:=HA.out nq;generalize X.drewN nq=ν at*;clear q0 q1 oR oP HA;have DJ:Hid (Calls _ _ _ _ _):=(HS.out y.a ν ha).1;rw[HE1.out]at DJ;obtain⟨p1,p2,p3,p4,p5,p6⟩:=xR.out ν ⟨_,ha⟩;obtain⟨q0,q1,oR,oP,_⟩:=aI hb;rw[HJ.out]at p3;have HB:=hid (And.intro (ha.own hb Zm.out 0 (I O va)) (ai hb 0 (I O va)));clear ha hb p1 p2 p4 p5;go_wp2_with fail;refine DJ.mono ?_;rintro r w2⟨rfl,rfl⟩;go_upto_region 10 with fail;have HC:Hid (jY C F l w k4 k5 k6 k7 g1 g2 e f hh (w2.setCell ⟨k9,0,M⟩ (I O va))/\(w2.setCell ⟨k9,0,M⟩ (I O va)).heap[k9]?=Y (L #[I O va,I O x.b] 117)):=HB.out;generalize w2.setCell ⟨k9,0,M⟩ (I O va)=κ at*;clear HB DJ q0 q1 oR oP p3 p6
   case' neg=>
    have E1:Hid (va=x.a):=hva.trans (Â h1);obtain⟨p1,p2,p3,p4,p5,p6⟩:=xR.out X ⟨_,HV.1⟩;obtain⟨q0,q1,oR,oP,_⟩:=aI HV.2;rw[HJ.out]at p3;clear p1 p2 p4 p5 hva HV;go_quiet (fail);have HC:=hid (HA.out nq);rw[<-E1.out]at HC;go_upto_region 10 with fail;generalize X.drewN nq=κ at*;clear q0 q1 oR oP HA p3 p6
   all_goals
    have HA:Hid (∀n,jY C F l w k4 k5 k6 k7 g1 g2 e f hh (κ.drewN n)/\(κ.drewN n).heap[k9]?=Y (L #[I O va,I O x.b] 117)):=λn=>⟨HC.1.call (qi _ _),HC.2⟩
    by_cases h2:x.b<y.b
    case' pos=>
     have e1:vb=cm l y.b:=Dv.trans (Á h2);obtain⟨p1,p2,p3,p4,p5,p6⟩:=xR.out κ ⟨_,HC.1⟩;obtain⟨q0,q1,oR,oP,_⟩:=aI HC.2;rw[HJ.out]at p4;have HE1:=hid e1.symm;clear e1 p1 p2 p3 p5 Dv HC;go_quiet (fail);obtain⟨ha,hb⟩:=HA.out nq;generalize κ.drewN nq=ν at*;clear q0 q1 oR oP HA;have DJ:Hid (Calls _ _ _ _ _):=(HS.out y.b ν ha).2;rw[HE1.out]at DJ;obtain⟨p1,p2,p3,p4,p5,p6⟩:=xR.out ν ⟨_,ha⟩;obtain⟨q0,q1,oR,oP,_⟩:=aI hb;rw[HJ.out]at p4;have HB:=hid (And.intro (ha.own hb Zm.out 1 (I O vb)) (ai hb 1 (I O vb)));clear ha hb p1 p2 p3 p5;go_wp2_with fail;refine DJ.mono ?_;rintro r w2⟨rfl,rfl⟩;go_upto_region 12 with fail;have HD:Hid (jY C F l w k4 k5 k6 k7 g1 g2 e f hh (w2.setCell ⟨k9,1,M⟩ (I O vb))/\(w2.setCell ⟨k9,1,M⟩ (I O vb)).heap[k9]?=Y (L #[I O va,I O vb] 117)):=HB.out;generalize w2.setCell ⟨k9,1,M⟩ (I O vb)=Q at*;clear HB DJ q0 q1 oR oP p4 p6
    case' neg=>
     have E1:Hid (vb=x.b):=Dv.trans (Â h2);obtain⟨p1,p2,p3,p4,p5,p6⟩:=xR.out κ ⟨_,HC.1⟩;obtain⟨q0,q1,oR,oP,_⟩:=aI HC.2;rw[HJ.out]at p4;clear p1 p2 p3 p5 Dv HC;go_quiet (fail);have HD:=hid (HA.out nq);rw[<-E1.out]at HD;go_upto_region 12 with fail;generalize κ.drewN nq=Q at*;clear q0 q1 oR oP HA p4 p6
   all_goals
    obtain⟨g,o1,o2⟩:=HD.1.o;obtain⟨s0,s1,_,_,_⟩:=aI o1;obtain⟨q0,q1,_,_,_⟩:=aI HD.2;have Za:=hid (TX.out ⟨va,vb⟩ g Q o2);clear o1 o2 HS xR TX;go_wp2_with fail;refine Za.mono ?_;rintro r w3⟨u,rfl,hu,b3⟩;obtain⟨gn,rfl,IY⟩:=hu;have h3:=HD.1.call b3;obtain⟨g',o1,o2⟩:=h3.o;obtain⟨z0,z1,xe,xo,_⟩:=aI o1;have HF:=hid (h3.put IY);rw[HN.out]at HF;clear s0 s1 q0 q1 Za HD h3 IY o1 o2 b3;go_wp2_with fail;exact⟨⟨j+1,À,by go_num,HF⟩,by simp[intOf];omega⟩
  .obtain rfl:j=8:=À
   have h9:=hq.out;rw[NW]at h9;obtain⟨g,o1,o2⟩:=h9.o;have c0:=cell_of o1 0 (v:=U false) rfl;have c1:=cell_of o1 1 (v:=Z (Y ⟨g,0,M⟩) 8 8) rfl;obtain⟨z0,z1,xe,xo,mq⟩:=aI h9.r;have MQ:=hid (mq (U false) (Z (Y ⟨g,0,M⟩) 8 8));have HT:=hid (And.intro ((show dL wr (J #[U false,Z (Y ⟨g,0,M⟩) 8 8]) (Y (λk=>bY l (e k) (f k))) from⟨g,rfl,o2⟩).put h9.r (U false) (Z (Y ⟨g,0,M⟩) 8 8)) ((h9.b.setCell (p:=⟨k6,0,M⟩) h9.l6 (U false)).setCell (p:=⟨k6,1,M⟩) h9.l6 (Z (Y ⟨g,0,M⟩) 8 8)));clear mq h9 o1 o2 hq;go_wp2_with fail;exact Ç (v:=J #[U false,Z (Y ⟨g,0,M⟩) 8 8]) (by simp[results,results101,go_sem,MQ.1,MQ.2]) rfl ⟨_,rfl,HT.1,HT.2⟩
end RG
end
section
namespace RG
open Go.RowKit W
variable {E: Bool}
structure bA(C:Rc E)(g cap:Nat)(ns:List aK)(l:List Int)(w:Wd)(k8:Nat)(o:List (Nat×Obj))(F:jg)(m:List (Nat×dT))(W:Wd):Prop where
 ra:bE C F W
 xD:gw C l W
 look:dC C.pb g cap ns W
 res:W.heap[k8]?=Y (L #[U false,Z M 0 0] 56)
 l8:w.heap.size<=k8
 st:∀x∈m,w.heap.size<=x.1/\x.1≠k8/\eR E x.2/\∃a n c,W.heap[x.1]?=Y (L #[U x.2.isNone,Z a n c] 56)/\dL W (J #[U x.2.isNone,Z a n c]) x.2
 apart:m.Pairwise λx y=>x.1≠y.1
 ob:∀x∈o,w.heap.size<=x.1/\W.heap[x.1]?=Y x.2/\∀c,x.2≠L c 56
 bH:RK C w W
 old:C.gf<w.heap.size/\C.gs<w.heap.size
section
variable {C: Rc E}{g cap: Nat}{ns: List aK}{l: List Int}{w: Wd}{k8: Nat}{o: List (Nat×Obj)}{F F': jg}{m: List (Nat×dT)}{W W': Wd}
section
variable{s s':dT}
variable{a:Option Addr}
variable{n c k:Nat}
variable{m':List (Nat×dT)}
variable{x y:Nat×dT}
theorem bA.step(π:Gd C g)(h:bA C g cap ns l w k8 o F m W)(hR:bE C F' W')(k:RK C W W'):bA C g cap ns l w k8 o F' m W':=by
 obtain⟨o1,o2⟩:=h.old;have bf:∀(b:Nat) (ob:Obj),w.heap.size<=b->W.heap[b]?=Y ob->W'.heap[b]?=Y ob:=λb ob hb ho=>(k.others b (ah ho) À À).trans ho
 exact⟨hR,h.xD.bH k,RG.look π h.look k,bf _ _ h.l8 h.res,h.l8,λx hx=>by
  obtain⟨a1,a2,a3,a,n,c,a4,a5⟩:=h.st x hx;exact⟨a1,a2,a3,a,n,c,bf _ _ a1 a4,a5.bH h.ra k⟩,h.apart,λx hx=>by
  obtain⟨a1,a2,a3⟩:=h.ob x hx;exact⟨a1,bf _ _ a1 a2,a3⟩,h.bH.trans k,h.old⟩
theorem bA.call(π:Gd C g)(h:bA C g cap ns l w k8 o F m W)(k:ω W W'):bA C g cap ns l w k8 o F m W':=h.step π (h.ra.call k) (RK.aF k h.ra.le)
theorem bA.new(π:Gd C g)(h:bA C g cap ns l w k8 o F m W)(hs:dL W (J #[U s.isNone,Z a n c]) s)(ws:eR E s):bA C g cap ns l w k8 o F ((W.heap.size,s)::m) (W.alloc (L #[U s.isNone,Z a n c] 56)):=by
 have b:=below_alloc1 W (L #[U s.isNone,Z a n c] 56);have h':=h.call π b;refine⟨h'.ra,h'.xD,h'.look,h'.res,h'.l8,λx hx=>?_,?_,h'.ob,h'.bH,h'.old⟩
 .rcases List.mem_cons.1 hx with rfl|hx
  .exact⟨h.bH.below.size,λe=>by have:=ah h.res;omega,ws,a,n,c,heap_alloc_new _ _,hs.below b⟩
  .exact h'.st x hx
 .refine List.pairwise_cons.2 ⟨λx hx e=>?_,h.apart⟩
  obtain⟨_,_,_,_,_,_,q,_⟩:=h.st x hx;have:=ah q;have e':W.heap.size=x.1:=e;omega
theorem bA.YR(π:Gd C g)(h:bA C g cap ns l w k8 o F m W)(ob:Obj)(ho:∀c,ob≠L c 56):bA C g cap ns l w k8 ((W.heap.size,ob)::o) F m (W.alloc ob):=by
 have h':=h.call π (below_alloc1 W ob);refine⟨h'.ra,h'.xD,h'.look,h'.res,h'.l8,h'.st,h'.apart,λx hx=>?_,h'.bH,h'.old⟩
 rcases List.mem_cons.1 hx with rfl|hx
 .exact⟨h.bH.below.size,heap_alloc_new _ _,ho⟩
 .exact h'.ob x hx
theorem bA.le(h:bA C g cap ns l w k8 o F m W):C.base<=w.heap.size:=Nat.le_trans h.ra.lf (Nat.le_of_lt h.old.1)
theorem bA.put(π:Gd C g)(h:bA C g cap ns l w k8 o F ((k,s)::m) W)(hs:dL W (J #[U s'.isNone,Z a n c]) s')(ws:eR E s'):bA C g cap ns l w k8 o F ((k,s')::m) ((W.setCell ⟨k,0,M⟩ (U s'.isNone)).setCell ⟨k,1,M⟩ (Z a n c)):=by
 obtain⟨o1,o2⟩:=h.old;obtain⟨a1,a2,a3,x,y,z,a4,a5⟩:=h.st (k,s) (List.mem_cons_self ..);simp only at a1 a2 a3 a4 a5;have hle:=h.le;have iO:∀j,j≠k->((W.setCell ⟨k,0,M⟩ (U s'.isNone)).setCell ⟨k,1,M⟩ (Z a n c)).heap[j]?=W.heap[j]?:=λj hj=>by rw[Æ _ _ _ _ hj,Æ _ _ _ _ hj]
 refine⟨h.ra.Mm a4 À _ _,h.xD.other iO a4 É,FI π h.look (((Å).setCell (p:=⟨k,0,M⟩) (Nat.le_trans hle a1) _).setCell (p:=⟨k,1,M⟩) (Nat.le_trans hle a1) _),(iO _ a2.symm).trans h.res,h.l8,λq hq=>?_,?_,λq hq=>?_,(h.bH.own a1 hle _ _).own a1 hle _ _,h.old⟩
 .rcases List.mem_cons.1 hq with rfl|hq
  .exact⟨a1,a2,ws,a,n,c,by rw[ai (ai a4 0 _) 1 _];rfl,hs.put a4 _ _⟩
  .obtain⟨b1,b2,b3,x',y',z',b4,b5⟩:=h.st q (List.mem_cons_of_mem _ hq)
   have db:=(List.pairwise_cons.1 h.apart).1 q hq;exact⟨b1,b2,b3,x',y',z',(iO _ (λe=>db e.symm)).trans b4,b5.put a4 _ _⟩
 .exact List.pairwise_cons.2 ⟨(List.pairwise_cons.1 h.apart).1,(List.pairwise_cons.1 h.apart).2⟩
 .obtain⟨b1,b2,b3⟩:=h.ob q hq
  exact⟨b1,(iO _ (λe=>by rw[e,a4]at b2;injection b2 with b2;exact b3 _ b2.symm)).trans b2,b3⟩
theorem bA.ret(h:bA C g cap ns l w k8 o F m W){u v:Value}(hs:dL W (J #[u,v]) s):bE C F ((W.setCell ⟨k8,0,M⟩ u).setCell ⟨k8,1,M⟩ v)/\RK C w ((W.setCell ⟨k8,0,M⟩ u).setCell ⟨k8,1,M⟩ v)/\dL ((W.setCell ⟨k8,0,M⟩ u).setCell ⟨k8,1,M⟩ v) (J #[u,v]) s/\((W.setCell ⟨k8,0,M⟩ u).setCell ⟨k8,1,M⟩ v).cell? ⟨k8,0,M⟩=Y u/\((W.setCell ⟨k8,0,M⟩ u).setCell ⟨k8,1,M⟩ v).cell? ⟨k8,1,M⟩=Y v:=by obtain⟨o1,o2⟩:=h.old;have l8:=h.l8;obtain⟨_,_,_,_,mq⟩:=aI h.res;exact⟨h.ra.Mm h.res À _ _,(h.bH.own l8 h.le _ _).own l8 h.le _ _,hs.put h.res _ _,(mq u v).1,(mq u v).2⟩
theorem bA.sub{o':List (Nat×Obj)}(h:bA C g cap ns l w k8 o F m W)(h1:∀x∈m',x∈m)(h2:m'.Pairwise λx y=>x.1≠y.1)(h3:∀x∈o',x∈o):bA C g cap ns l w k8 o' F m' W:=
 ⟨h.ra,h.xD,h.look,h.res,h.l8,λx hx=>h.st x (h1 x hx),h2,λx hx=>h.ob x (h3 x hx),h.bH,h.old⟩
theorem bA.dr(h:bA C g cap ns l w k8 o F (x::m) W):bA C g cap ns l w k8 o F m W:=h.sub (λ_ hx=>List.mem_cons_of_mem _ hx) (List.pairwise_cons.1 h.apart).2 (λ_ hx=>hx)
theorem bA.Rh{x:Nat×Obj}(h:bA C g cap ns l w k8 (x::o) F m W):bA C g cap ns l w k8 o F m W:=h.sub (λ_ hx=>hx) h.apart (λ_ hx=>List.mem_cons_of_mem _ hx)
theorem bA.perm(h:bA C g cap ns l w k8 o F m W)(hp:m'.Perm m):bA C g cap ns l w k8 o F m' W:=h.sub (λ_ hx=>hp.mem_iff.1 hx) ((hp.pairwise_iff (λ{_ _} h=>Ne.symm h)).2 h.apart) (λ_ hx=>hx)
theorem bA.sw(h:bA C g cap ns l w k8 o F (x::y::m) W):bA C g cap ns l w k8 o F (y::x::m) W:=h.perm (List.Perm.swap ..)
end
end
section
variable{g cap n c:Nat}
variable{ns:List aK}
variable{a:Option Addr}
theorem Sn{C:Rc E}{l:List Int}{w:Wd}{F:jg}(π:Gd C g)(hR:bE C F w)(hS:gw C l w)(hL:dC C.pb g cap ns w)(d:aK){s:dT}(hs:dL w (J #[U s.isNone,Z a n c]) s)(ws:eR E s) :
  bA C g cap ns l w (w.heap.size+1+1) [(w.heap.size,L (oV d) 200)] F [(w.heap.size+1,s)] (((w.alloc (L (oV d) 200)).alloc (L #[U s.isNone,Z a n c] 56)).alloc (L #[U false,Z M 0 0] 56)):=by
 obtain⟨h1,h2,h3,kb⟩:=bQ (w:=w) (o1:=L (oV d) 200) (o2:=L #[U s.isNone,Z a n c] 56) (o3:=L #[U false,Z M 0 0] 56) Å;obtain⟨c1,q1,_⟩:=hR.gf;obtain⟨c2,q2,_⟩:=hR.gs;have hk:=RK.aF kb hR.le;refine⟨hR.call kb,hS.bH hk,RG.look π hL hk,h3,À,λx hx=>?_,List.pairwise_singleton ..,λx hx=>?_,hk,⟨ah q1,ah q2⟩⟩
 .obtain rfl:=Ö.1 hx
  exact⟨by show _<=w.heap.size+1;omega,by show w.heap.size+1≠_;omega,ws,a,n,c,h2,hs.below kb⟩
 .obtain rfl:=Ö.1 hx
  exact⟨È,h1,λc e=>by injection e with _ e;exact absurd e É⟩
theorem Sr{C:Rc E}{l:List Int}{w:Wd}{F:jg}(π:Gd C g)(hR:bE C F w)(hS:gw C l w)(hL:dC C.pb g cap ns w){s:dT}(hs:dL w (J #[U s.isNone,Z a n c]) s)(ws:eR E s) :
  bA C g cap ns l w (w.heap.size+1) [] F [(w.heap.size,s)] ((w.alloc (L #[U s.isNone,Z a n c] 56)).alloc (L #[U false,Z M 0 0] 56)):=by
 obtain⟨h2,h3,kb⟩:=ft (w:=w) (o1:=L #[U s.isNone,Z a n c] 56) (o2:=L #[U false,Z M 0 0] 56) Å;obtain⟨c1,q1,_⟩:=hR.gf;obtain⟨c2,q2,_⟩:=hR.gs;have hk:=RK.aF kb hR.le;refine⟨hR.call kb,hS.bH hk,RG.look π hL hk,h3,À,λx hx=>?_,List.pairwise_singleton ..,λx hx=>(by cases hx),hk,⟨ah q1,ah q2⟩⟩;obtain rfl:=Ö.1 hx;exact⟨È,by show w.heap.size≠_;omega,ws,a,n,c,h2,hs.below kb⟩
def vT(p:Int):dT->List (fG T)
 |none=>[]
 |some s=>[.aA p s]
theorem C0(G:aw E)(p:Int)(s:dT):vT p s=qW (Dm G) p s:=by cases s<;>rfl
theorem yD(G:aw E)(C:Rc E)(F:jg)(p:Int)(s:dT)(v:Value)(rec:Bool)(w:Wd)(h:bE C F w)(hv:dL w v s)(ws:eR E s)(hr:dk rec F (vT p s)) :
  Calls prog 30 #[ρ (Y ⟨C.b,0,M⟩),I O p,v,U rec] w λr w'=>r=υ (φ #[])/\bE C (told G rec F (vT p s)) w'/\RK C w w':=by
 obtain⟨a,n,c,rfl⟩:=hv.form;cases rec with
 |false=>refine(EP C.b p s.isNone a n c false w (.inl rfl)).mono ?_;rintro r w'⟨rfl,b⟩;exact⟨rfl,h.call b,RK.aF b h.le⟩
 |true=>
  cases s with
  |none=>refine(EP C.b p true a n c true w (.inr rfl)).mono ?_;rintro r w'⟨rfl,b⟩;exact⟨rfl,h.call b,RK.aF b h.le⟩
  |some e=>obtain⟨ge,e1,e2⟩:=hv;obtain⟨q1,q2⟩:=hr rfl (.aA p e) (Ö.2 rfl);obtain⟨pn,rfl⟩:∃pn:Nat,p=(pn:Int):=⟨p.toNat,À⟩;rw[e1];refine(S5 C G F pn e ge w h (by simpa using q2) (ws e rfl) e2).mono ?_;rintro r w'⟨rfl,h1,h2⟩;exact⟨rfl,h1,h2⟩
end
end RG
end
section
namespace RG
open Go.RowKit W
variable {E: Bool}
section
variable{oj sj i s ο:dT}
variable{p:Int}
variable{m ao k f n:Nat}
abbrev jt:=List (fG T)
abbrev dQ:=dT->jt×dT×dT
abbrev dP:=dT->jt×dT
def iL(C:Rc E):z7:=⟨C.ao,C.narrow,C.aj⟩
def tz(G:aw E)(C:Rc E)(cond:dQ)(body:dP)(p:Int)(s:dT):jt×dT:=Sp.tz (Dm G) (iL C) cond body p s
def Yp(G:aw E)(cond:dQ)(body:dP)(p:Int)(n:Nat)(s:dT):jt×dT×dT:=kG (Dm G) cond body p n M s
def II(G:aw E)(C:Rc E)(cond:dQ)(body:dP)(s:dT):dT:=mU (Dm G) (iL C) cond body s
def DC(E:Bool)(cond:dQ)(body:dP)(s i:dT):dT:=xC E s (body (cond i).2.1).2
theorem N4(G:aw E)(cond:dQ)(body:dP)(s i:dT):DC E cond body s i=kK (Dm G) cond body s i:=oH G _ _
theorem CY(G:aw E)(C:Rc E)(cond:dQ)(body:dP)(p:Int)(s:dT){ej:jt}(hU:Yp G cond body p C.aj s=(ej,oj,sj))(hi:II G C cond body sj=i) :
  tz G C cond body p s=(ej++vT p i++(cond i).1++(body (cond i).2.1).1,xC E oj (cond i).2.2):=by
 have h1:kG (Dm G) cond body p (iL C).aj M s=(ej,oj,sj):=hU;have h2:mU (Dm G) (iL C) cond body sj=i:=hi;unfold tz Sp.tz;simp only;rw[h1];simp only;rw[h2,oH G,C0 G];rfl
structure KT(G:aw E)(cond:dQ)(body:dP):Prop where
 wc:gB (Kr G) cond
 wb:fJ (Kr G) body
 nc:cond M=([],M,M)
 nb:body M=([],M)
theorem KT.c{G:aw E}{cond:dQ}{body:dP}(h:KT G cond body)(hs:eR E s):eR E (cond s).2.1/\eR E (cond s).2.2:=h.wc s hs
theorem KT.b{G:aw E}{cond:dQ}{body:dP}(h:KT G cond body)(hs:eR E s):eR E (body s).2:=h.wb s hs
def LO(G:aw E)(cond:dQ)(body:dP)(p:Int)(ο:jt×dT×dT)(m:Nat)(ej:jt)(oj sj:dT):Prop:=nk (Kr G) cond body p ο m ej oj sj
theorem LO.start(G:aw E)(cond:dQ)(body:dP)(p:Int)(n:Nat)(hs:eR E s):LO G cond body p (Yp G cond body p n s) n [] M s:=nk.start (K:=Kr G) cond body p n hs
theorem LO.end{G:aw E}{cond:dQ}{body:dP}{ο:jt×dT×dT}{ej:jt}(h:LO G cond body p ο 0 ej oj sj):ο=(ej,oj,sj):=nk.end h
theorem LO.wf{G:aw E}{cond:dQ}{body:dP}{ο:jt×dT×dT}{ej:jt}(h:LO G cond body p ο m ej oj sj):eR E oj/\eR E sj:=⟨h.wo,h.ws⟩
theorem LO.on{G:aw E}{cond:dQ}{body:dP}(g:KT G cond body){ο:jt × dT × dT}{ej:jt}(h:LO G cond body p ο (m+1) ej oj sj) :
  LO G cond body p ο m (ej++vT p sj++(cond sj).1++(body (cond sj).2.1).1) (xC E oj (cond sj).2.2) (body (cond sj).2.1).2:=by
 rw[C0 G,oH G];exact nk.on g.wc g.wb h
theorem LO.rng{G:aw E}{cond:dQ}{body:dP}{ο:jt × dT × dT}{ej:jt}(h:LO G cond body p ο (m+1) ej oj sj){rec:Bool}{F:jg}(hr:dk rec F ο.1) :
  dk rec (told G rec F ej) (vT p sj)/\dk rec (told G rec (told G rec F ej) (vT p sj)) (cond sj).1/\dk rec (told G rec (told G rec (told G rec F ej) (vT p sj)) (cond sj).1) (body (cond sj).2.1).1:=by
 obtain⟨more,e⟩:∃more:jt,ο.1=ej++vT p sj++(cond sj).1++(body (cond sj).2.1).1++more:=by rw[C0 G];exact nk.parts h
 rw[e]at hr;have h1:=dk.left hr;have h2:=dk.left h1;refine⟨dk.right (dk.left h2),?_,?_⟩
 .rw[<-aH];exact dk.right h2
 .have q:=dk.right (G:=G) h1
  rw[aH,aH]at q;exact q
theorem J6(s t:dT):Sq s t=true↔s=t:=by rw[UP (⟨[]⟩:aw true)];exact oL (Dm (⟨[]⟩:aw true)) s t
def Jn(G:aw E)(cond:dQ)(body:dP)(s:dT)(ao:Nat)(ο:dT)(k f:Nat)(i:dT):Prop:=qV (Kr G) (DC E cond body s) ao ο k f i
def P8(G:aw E)(cond:dQ)(body:dP)(s:dT)(ao:Nat):dT:=Sp.fixF (Dm G) (DC E cond body s) ao 1100000 1 s
theorem UW{G:aw E}{cond:dQ}{body:dP}(g:KT G cond body):DC E cond body M M=M:=by unfold DC;rw[g.nc];show xC E M (body M).2=M;rw[g.nb];rfl
theorem Jn.start{G:aw E}{cond:dQ}{body:dP}(g:KT G cond body)(hs:eR E s)(ao:Nat):Jn G cond body s ao (P8 G cond body s ao) 1 1100000 s:=
 qV.start (K:=Kr G) rfl hs (λe=>by subst e;exact UW g)
theorem Jn.wf{G:aw E}{cond:dQ}{body:dP}(h:Jn G cond body s ao ο k f i):eR E i:=qV.wf h
theorem Jn.sum{G:aw E}{cond:dQ}{body:dP}(h:Jn G cond body s ao ο k f i):f+k=1100001:=qV.sum h
theorem Jn.end{G:aw E}{cond:dQ}{body:dP}(h:Jn G cond body s ao ο k f i)(he:Sq i (xC E i (DC E cond body s i))=true):i=ο:=
 qV.end h ((oL (Dm G) _ _).2 (((J6 _ _).1 he).trans (oH G _ _)).symm)
theorem Jn.on{G:aw E}{cond:dQ}{body:dP}(g:KT G cond body)(hs:eR E s)(h:Jn G cond body s ao ο k f i)(he:Sq i (xC E i (DC E cond body s i))=false) :
  ∃(e n:di) (f':Nat),i=Y e/\(∀q,Wv E (e q))/\xC E i (DC E cond body s i)=Y n/\(∀q,Wv E (n q))/\f=f'+1/\Jn G cond body s ao ο (k+1) f' (if ao<k then Y λq=>iB G (e q) (n q) else Y n):=by
 have hn:∀i,Sp.Wf (Kr G) i->Sp.Wf (Kr G) (DC E cond body s i):=λi hi=>pQ hs (g.b (g.c hi).1)
 have Ad:IG (Dm G) (Sp.jn (Dm G) i (DC E cond body s i)) i=false:=by
  cases hq:IG (Dm G) (Sp.jn (Dm G) i (DC E cond body s i)) i with
  |false=>rfl
  |true=>have q:=(oL (Dm G) _ _).1 hq;rw[(J6 _ _).2 (((oH G _ _).trans q).symm)]at he;cases he
 obtain⟨e,n,f',h1,h2,h3,h4,h5,h6⟩:=qV.on (K:=Kr G) h hn Ad;refine⟨e,n,f',h1,h2,(oH G _ _).trans h3,h4,h5,?_⟩;have q:pH (Dm G) (DC E cond body s) ao k i=(if ao<k then Y (λq=>iB G (e q) (n q)) else Y n:dT):=by
  unfold pH;rw[h3,h1];by_cases hd:ao<k
  .rw[Á hd,Á hd];rfl
  .rw[Â hd,Â hd];rfl
 rw[q]at h6;exact h6
def LF(G:aw E)(cond:dQ)(body:dP)(s ο:dT)(n:Nat)(i:dT):Prop:=sR (Kr G) cond body s ο n i
theorem Sf(G:aw E)(cond:dQ)(body:dP)(s:dT)(ao:Nat):P8 G cond body s ao=Sp.fixF (Dm G) (kK (Dm G) cond body s) ao (Dm G).fuel 1 s:=by
 have e:DC E cond body s=kK (Dm G) cond body s:=funext λi=>N4 G cond body s i
 unfold P8;rw[e];rfl
theorem LF.start{G:aw E}{cond:dQ}{body:dP}(g:KT G cond body)(C:Rc E)(hs:eR E s):LF G cond body s (II G C cond body s) C.narrow (P8 G cond body s C.ao):=by rw[Sf];exact sR.start (K:=Kr G) (P:=iL C) g.wc g.wb g.nc g.nb hs
theorem LF.end{G:aw E}{cond:dQ}{body:dP}(h:LF G cond body s ο 0 i):i=ο:=h.eq
theorem LF.wf'{G:aw E}{cond:dQ}{body:dP}(h:LF G cond body s ο n i):eR E i:=h.wf
theorem LF.on{G:aw E}{cond:dQ}{body:dP}(g:KT G cond body)(hs:eR E s)(h:LF G cond body s ο (n+1) i) :
  (i=M/\LF G cond body s ο n M)∨∃e e':di,i=Y e/\DC E cond body s i=Y e'/\(∀q,Wv E (e q))/\(∀q,Wv E (e' q))/\LF G cond body s ο n (Y λq=>kC E (e q) (e' q)):=by
 obtain⟨h1,h2⟩:=sR.on g.wc g.wb hs h
 rcases h2 with rfl|⟨e,e',q1,q2,q3,q4⟩
 .exact .inl ⟨rfl,h1⟩
 .refine .inr ⟨e,e',q1,(N4 G cond body s i).trans q2,q3,q4,?_⟩
  rw[q2,q1]at h1;exact h1
theorem GG(l:List Int){x y:T}(hx:lj x):bY ([-32768,32767]++l) x y=bY l x y:=by
 obtain⟨h1,h2,h3⟩:=hx;unfold bY;by_cases ha:y.a<x.a
 .have e1:cM ([-32768,32767]++l) y.a=cM l y.a:=by
   unfold cM;rw[List.foldl_append];congr 1;simp only[List.foldl];split<;>split<;>omega
  rw[e1];by_cases hb:x.b<y.b
  .have e2:cm ([-32768,32767]++l) y.b=cm l y.b:=by
    unfold cm;rw[List.foldl_append];congr 1;simp only[List.foldl];split<;>split<;>omega
   rw[e2]
  .rw[Â hb,Â hb]
 .rw[Â ha,Â ha]
  by_cases hb:x.b<y.b
  .have e2:cm ([-32768,32767]++l) y.b=cm l y.b:=by
    unfold cm;rw[List.foldl_append];congr 1;simp only[List.foldl];split<;>split<;>omega
   rw[e2]
  .rw[Â hb,Â hb]
theorem DQ(G:aw E)(l:List Int)(h:G.l=[-32768,32767]++l){x y:T}(hx:Wv E x):iB G x y=iB (⟨l⟩:aw E) x y:=by
 cases E
 .rfl
 .show bY G.l x y=bY l x y
  rw[h];exact GG l hx
theorem YU(G:aw E)(f:dT){e q:di}(wq:∀k,Wv E (q k))(h:∀k,(Kr G).sub (e k) (q k)):Sp.jn (Dm G) (Sp.jn (Dm G) f (Y e)) (Y q)=Sp.jn (Dm G) f (Y q):=by
 cases f with
 |none=>exact Ë Y (funext λk=>PZ G (wq k) (h k))
 |some z=>exact Ë Y (funext λk=>Sw G (z k) (h k))
theorem SJ{α:Type}(l:List α)(p:Nat)(f g h:α->α)(e:∀x,g (f x)=h x):(l.modify p f).modify p g=l.modify p h:=by
 refine List.ext_getElem? λi=>?_
 rw[List.getElem?_modify,List.getElem?_modify,List.getElem?_modify];cases l[i]? with
 |none=>rfl
 |some x=>
  by_cases hi:p=i
  .simp[hi,e]
  .simp[hi]
theorem N8(G:aw E)(F:jg)(p:Int)(e q:di)(wq:∀k,Wv E (q k))(h:∀k,(Kr G).sub (e k) (q k)):cY (Dm G) (cY (Dm G) F (.aA p e)) (.aA p q)=cY (Dm G) F (.aA p q):=
 Prod.ext (SJ (α:=dT) F.1 p.toNat _ _ _ (λx=>YU G x wq h)) rfl
theorem Mj(G:aw E)(C:Rc E){cond:dQ}{body:dP}(g:KT G cond body)(p:Int)(rec:Bool)(F:jg){e:di}(he:∀k,Wv E (e k)):told G rec F (.aA p e::(tz G C cond body p (Y e)).1)=told G rec F (tz G C cond body p (Y e)).1:=by
 cases rec with
 |false=>rfl
 |true=>
  show Sp.tell (Dm G) F (.aA p e::(tz G C cond body p (Y e)).1)=Sp.tell (Dm G) F (tz G C cond body p (Y e)).1;have main:∃(q:di) (es:jt),(∀k,Wv E (q k))/\(∀k,(Kr G).sub (e k) (q k))/\(tz G C cond body p (Y e)).1=.aA p q::es:=by
   cases hn:C.aj with
   |zero=>
    obtain⟨q,hq,wq,hs⟩:∃q:di,II G C cond body (Y e)=Y q/\(∀k,Wv E (q k))/\∀k,(Kr G).sub (e k) (q k):=by have h0:=ux (K:=Kr G) (P:=iL C) g.wc g.wb he;obtain⟨q,h1,h2⟩:=h0.2 e rfl;exact⟨q,h1,h0.1 q h1,λk=>h2 k⟩
    refine⟨q,(cond (Y q)).1++(body (cond (Y q)).2.1).1,wq,hs,?_⟩;have hU:Yp G cond body p C.aj (Y e)=([],M,Y e):=by rw[hn];rfl
    rw[CY G C cond body p (Y e) hU (i:=Y q) hq];simp[vT]
   |succ n=>
    obtain⟨ej,oj,sj,hU⟩:∃ej oj sj,Yp G cond body p C.aj (Y e)=(ej,oj,sj):=⟨_,_,_,rfl⟩;have h1:∃es,ej=.aA p e::es:=by have:=Ë Prod.fst hU;rw[hn]at this;exact⟨_,this.symm⟩
    obtain⟨es,rfl⟩:=h1;refine⟨e,es++vT p (II G C cond body sj)++(cond (II G C cond body sj)).1++(body (cond (II G C cond body sj)).2.1).1,he,λk=>(Kr G).sub_refl _,?_⟩;rw[CY G C cond body p (Y e) hU rfl];simp
  obtain⟨q,es,h0,h1,h2⟩:=main;rw[h2];show Sp.tell (Dm G) (cY (Dm G) (cY (Dm G) F (.aA p e)) (.aA p q)) es=Sp.tell (Dm G) (cY (Dm G) F (.aA p q)) es;rw[N8 G F p e q h0 h1]
end
end RG
end
end Go.Proofs.YtiopfihjmkfdmabGreatDoor
