import Derived.Test.YtiopfihjmkfdmabGreatDoorC18
import Derived.Deep.CutRange
namespace Go.Proofs.YtiopfihjmkfdmabGreatDoor
open Go.Value renaming int->I,agg->J,bool->U,string->χ,tuple->φ,slice->Z,pointer->ρ
open Go.IntKind renaming i64->O
open Go.Ending renaming returned->υ
open Option renaming none->M,some->Y
open Go.Obj renaming cells->L
open Go.Proofs.Tryz Sp
open Go.RowKit
set_option maxRecDepth 100000
set_option maxHeartbeats 16000000
section
variable{a b c d p q:Int}
variable{w W w2 W2:Wd}
variable{kx kr k base:Nat}
variable{v v':Value}
variable{zs:List Int}
theorem KY(a b c d:Int)(w:Wd) :
  Calls prog 140 #[J #[I O a,I O b],χ ⟨#[60]⟩,J #[I O c,I O d]] w λe w'=>e=υ (U (!dO 0 ⟨a,b⟩ ⟨c,d⟩))/\ω w w':=by
 have δ:Hid (dO 0 ⟨a,b⟩ ⟨c,d⟩=decide (a<d)):=rfl;rw[δ.out];go_enter func140,ntmps140;go_wp2_with fail;go_returns;exact⟨bt (by rw[Bool.eq_iff_iff];simp;try omega),by go_grown⟩
theorem KV(a b c d:Int)(w:Wd) :
  Calls prog 140 #[J #[I O a,I O b],χ ⟨#[60,61]⟩,J #[I O c,I O d]] w λe w'=>e=υ (U (!dO 1 ⟨a,b⟩ ⟨c,d⟩))/\ω w w':=by
 have δ:Hid (dO 1 ⟨a,b⟩ ⟨c,d⟩=decide (a<=d)):=rfl;rw[δ.out];go_enter func140,ntmps140;go_wp2_with fail;go_returns;exact⟨bt (by rw[Bool.eq_iff_iff];simp;try omega),by go_grown⟩
theorem Mu(a b c d:Int)(w:Wd) :
  Calls prog 140 #[J #[I O a,I O b],χ ⟨#[62,61]⟩,J #[I O c,I O d]] w λe w'=>e=υ (U (!dO 4 ⟨a,b⟩ ⟨c,d⟩))/\ω w w':=by
 have δ:Hid (dO 4 ⟨a,b⟩ ⟨c,d⟩=decide (c<=b)):=rfl;rw[δ.out];go_enter func140,ntmps140;go_wp2_with fail;go_returns;exact⟨bt (by rw[Bool.eq_iff_iff];simp;try omega),by go_grown⟩
theorem L7(a b c d:Int)(w:Wd) :
  Calls prog 140 #[J #[I O a,I O b],χ ⟨#[62]⟩,J #[I O c,I O d]] w λe w'=>e=υ (U (!dO 5 ⟨a,b⟩ ⟨c,d⟩))/\ω w w':=by
 have δ:Hid (dO 5 ⟨a,b⟩ ⟨c,d⟩=decide (c<b)):=rfl;rw[δ.out];go_enter func140,ntmps140;go_wp2_with fail;go_returns;exact⟨bt (by rw[Bool.eq_iff_iff];simp;try omega),by go_grown⟩
theorem MF(a b c d:Int)(w:Wd)(h2:a<=b)(h5:c<=d) :
  Calls prog 140 #[J #[I O a,I O b],χ ⟨#[61,61]⟩,J #[I O c,I O d]] w λe w'=>e=υ (U (!dO 2 ⟨a,b⟩ ⟨c,d⟩))/\ω w w':=by
 have δ:Hid ((!dO 2 ⟨a,b⟩ ⟨c,d⟩)=(decide (d<a)||decide (b<c))):=by
  unfold Hid;show(!(dB ⟨a,b⟩ ⟨c,d⟩).isSome)=_;unfold dB;simp only;by_cases h:max a c<=min b d
  .rw[Á h,decide_eq_false À,decide_eq_false À];rfl
  .rw[Â h]
   by_cases h':d<a
   .rw[decide_eq_true h'];rfl
   .rw[decide_eq_false h',decide_eq_true À];rfl
 rw[δ.out];by_cases h:d<a
 .go_enter func140,ntmps140
  go_wp2_with fail;go_returns;exact⟨bt (by first|rfl|(rw[decide_eq_true h];rfl)),by go_grown⟩
 .have h':decide (d<a)=false:=by simpa using h
  go_enter func140,ntmps140;go_wp2_with fail;go_returns;exact⟨bt (by first|rfl|(rw[h'];rfl)),by go_grown⟩
theorem Ll(a b c d:Int)(w:Wd) :
  Calls prog 140 #[J #[I O a,I O b],χ ⟨#[33,61]⟩,J #[I O c,I O d]] w λe w'=>e=υ (U (!dO 3 ⟨a,b⟩ ⟨c,d⟩))/\ω w w':=by
 have δ:Hid ((!dO 3 ⟨a,b⟩ ⟨c,d⟩)=(decide (a=b)&&(decide (c=d)&&decide (a=c)))):=by unfold Hid;show(!!(decide ((⟨a,b⟩:Sp.Iv)=⟨c,d⟩)&&decide (a=b)))=_;rw[Bool.not_not,Bool.eq_iff_iff];simp only[à,Õ,Sp.Iv.mk.injEq];omega
 rw[δ.out];by_cases h:a=b
 .subst h
  by_cases h':c=d
  .subst h'
   go_enter func140,ntmps140;go_wp2_with fail;go_returns;exact⟨bt (by rw[Bool.eq_iff_iff];simp),by go_grown⟩
  .have hb:(c==d)=false:=by simpa using h'
   go_enter func140,ntmps140;go_wp2_with fail;go_returns;exact⟨bt (by first|rfl|(rw[decide_eq_false h'];simp)),by go_grown⟩
 .have hb:(a==b)=false:=by simpa using h
  go_enter func140,ntmps140;go_wp2_with fail;go_returns;exact⟨bt (by first|rfl|(rw[decide_eq_false h];rfl)),by go_grown⟩
theorem N7(k:Nat)(hk:k<6)(a b c d:Int)(w:Wd)(h2:a<=b)(h5:c<=d) :
  Calls prog 140 #[J #[I O a,I O b],χ ⟨(aM k).toArray⟩,J #[I O c,I O d]] w λe w'=>e=υ (U (!dO k ⟨a,b⟩ ⟨c,d⟩))/\ω w w':=by
 rcases(show k=0∨k=1∨k=2∨k=3∨k=4∨k=5 from À) with rfl|rfl|rfl|rfl|rfl|rfl
 .exact KY a b c d w
 .exact KV a b c d w
 .exact MF a b c d w h2 h5
 .exact Ll a b c d w
 .exact Mu a b c d w
 .exact L7 a b c d w
def kH(k:Nat)(x y:Sp.Iv):Sp.Iv:=
 if k=0 then⟨-32768,y.b-1⟩ else if k=1 then⟨-32768,y.b⟩ else if k=2 then y
 else if k=3 then⟨if y.a=y.b/\x.a=y.a then x.a+1 else -32768,if y.a=y.b/\x.b=y.a then x.b-1 else 32767⟩
 else if k=4 then⟨y.a,32767⟩ else⟨y.a+1,32767⟩
theorem VV(k:Nat)(hk:k<6){x y z:Sp.Iv}(hz:lj z)(hy:lj y)(h:z=x∨k≠3∨y.a≠y.b) :
  nY k z y=if max z.a (kH k x y).a<=min z.b (kH k x y).b then Y ⟨max z.a (kH k x y).a,min z.b (kH k x y).b⟩ else M:=by
 obtain⟨z1,z2,z3⟩:=hz;obtain⟨y1,y2,y3⟩:=hy
 rcases(show k=0∨k=1∨k=2∨k=3∨k=4∨k=5 from À) with rfl|rfl|rfl|rfl|rfl|rfl
 .show fh z y.b=if max z.a (-32768)<=min z.b (y.b-1) then Y ⟨max z.a (-32768),min z.b (y.b-1)⟩ else M
  unfold fh;by_cases h0:y.b=-32768
  .rw[Á h0,Â À]
  .rw[Â h0];rfl
 .rfl
 .rfl
 .show fw z y=if max z.a (if y.a=y.b/\x.a=y.a then x.a+1 else -32768)<=min z.b (if y.a=y.b/\x.b=y.a then x.b-1 else 32767) then Y ⟨max z.a (if y.a=y.b/\x.a=y.a then x.a+1 else -32768),min z.b (if y.a=y.b/\x.b=y.a then x.b-1 else 32767)⟩ else M
  generalize hp:(if y.a=y.b/\x.a=y.a then x.a+1 else -32768:Int)=p;generalize hq:(if y.a=y.b/\x.b=y.a then x.b-1 else 32767:Int)=q;unfold fw;by_cases he:y.a=y.b
  .have hx:z=x:=by
    rcases h with h|h|h
    .exact h
    .exact absurd rfl h
    .exact absurd he h
   subst hx;rw[Â (λh=>h he)];by_cases h1:z.a=y.a
   .have hp':p=y.a+1:=by rw[<-hp,Á ⟨he,h1⟩,h1]
    rw[Á h1];unfold fj;by_cases h2:z.b=y.a
    .have MM:q=y.a-1:=by rw[<-hq,Á ⟨he,h2⟩,h2]
     rw[Â (show ¬max z.a p<=min z.b q by omega)];split
     .rfl
     .unfold dB;rw[Â (by simp only;omega)]
    .have MM:q=32767:=by rw[<-hq,Â (λh=>h2 h.2)]
     split
     .rw[Â À]
     .rw[hp',MM];rfl
   .have hp':p=-32768:=by rw[<-hp,Â (λh=>h1 h.2)]
    rw[Â h1];by_cases h2:z.b=y.a
    .have MM:q=y.a-1:=by rw[<-hq,Á ⟨he,h2⟩,h2]
     rw[Á (h2.trans he)];unfold fh;rw[Â À,hp',MM,he];rfl
    .have MM:q=32767:=by rw[<-hq,Â (λh=>h2 h.2)]
     have e1:max z.a p=z.a:=À;have e2:min z.b q=z.b:=À;rw[Â (λh=>h2 (h.trans he.symm)),e1,e2,Á z2]
  .have hp':p=-32768:=by rw[<-hp,Â (λh=>he h.1)]
   have MM:q=32767:=by rw[<-hq,Â (λh=>he h.1)]
   have e1:max z.a p=z.a:=À;have e2:min z.b q=z.b:=À;rw[Á he,e1,e2,Á z2]
 .rfl
 .show fj z y.a=if max z.a (y.a+1)<=min z.b 32767 then Y ⟨max z.a (y.a+1),min z.b 32767⟩ else M
  unfold fj;by_cases h0:y.a=32767
  .rw[Á h0,Â À]
  .rw[Â h0];rfl
theorem L2(a b c d:Int)(w:Wd)(h4:-32768<=c)(h5:c<=d)(h6:d<=32767) :
  Calls prog 175 #[J #[I O a,I O b],χ ⟨#[60]⟩,J #[I O c,I O d]] w λe w'=>e=υ (J #[I O (kH 0 ⟨a,b⟩ ⟨c,d⟩).a,I O (kH 0 ⟨a,b⟩ ⟨c,d⟩).b])/\ω w w':=by
 go_enter func175,ntmps175;go_wp2_with fail;go_returns;exact⟨rfl,by go_grown⟩
theorem Mr(a b c d:Int)(w:Wd) :
  Calls prog 175 #[J #[I O a,I O b],χ ⟨#[60,61]⟩,J #[I O c,I O d]] w λe w'=>e=υ (J #[I O (kH 1 ⟨a,b⟩ ⟨c,d⟩).a,I O (kH 1 ⟨a,b⟩ ⟨c,d⟩).b])/\ω w w':=by
 go_enter func175,ntmps175;go_wp2_with fail;go_returns;exact⟨rfl,by go_grown⟩
theorem Lc(a b c d:Int)(w:Wd) :
  Calls prog 175 #[J #[I O a,I O b],χ ⟨#[61,61]⟩,J #[I O c,I O d]] w λe w'=>e=υ (J #[I O (kH 2 ⟨a,b⟩ ⟨c,d⟩).a,I O (kH 2 ⟨a,b⟩ ⟨c,d⟩).b])/\ω w w':=by
 go_enter func175,ntmps175;go_wp2_with fail;go_returns;exact⟨rfl,by go_grown⟩
theorem LU(a b c d:Int)(w:Wd) :
  Calls prog 175 #[J #[I O a,I O b],χ ⟨#[62,61]⟩,J #[I O c,I O d]] w λe w'=>e=υ (J #[I O (kH 4 ⟨a,b⟩ ⟨c,d⟩).a,I O (kH 4 ⟨a,b⟩ ⟨c,d⟩).b])/\ω w w':=by
 go_enter func175,ntmps175;go_wp2_with fail;go_returns;exact⟨rfl,by go_grown⟩
theorem Mc(a b c d:Int)(w:Wd)(h4:-32768<=c)(h5:c<=d)(h6:d<=32767) :
  Calls prog 175 #[J #[I O a,I O b],χ ⟨#[62]⟩,J #[I O c,I O d]] w λe w'=>e=υ (J #[I O (kH 5 ⟨a,b⟩ ⟨c,d⟩).a,I O (kH 5 ⟨a,b⟩ ⟨c,d⟩).b])/\ω w w':=by
 go_enter func175,ntmps175;go_wp2_with fail;go_returns;exact⟨rfl,by go_grown⟩
theorem LB(a b c d:Int)(w:Wd)(_:-32768<=a)(h2:a<=b)(_:b<=32767)(h4:-32768<=c)(_:c<=d)(h6:d<=32767) :
  Calls prog 175 #[J #[I O a,I O b],χ ⟨#[33,61]⟩,J #[I O c,I O d]] w λe w'=>e=υ (J #[I O (kH 3 ⟨a,b⟩ ⟨c,d⟩).a,I O (kH 3 ⟨a,b⟩ ⟨c,d⟩).b])/\ω w w':=by
 have δ:Hid (∀p q:Int,p=(if c=d/\a=c then a+1 else -32768)->q=(if c=d/\b=c then b-1 else 32767)->Ending.returned (J #[I O p,I O q])=υ (J #[I O (kH 3 ⟨a,b⟩ ⟨c,d⟩).a,I O (kH 3 ⟨a,b⟩ ⟨c,d⟩).b])):=λp q hp hq=>by rw[hp,hq];rfl
 by_cases wK:c=d
 .by_cases KC:a=c
  .by_cases QD:b=c
   .go_enter func175,ntmps175
    go_wp2_with fail;go_returns;exact⟨δ.out _ _ (by rw[Á ⟨wK,KC⟩];try omega) (by rw[Á ⟨wK,QD⟩];try omega),by go_grown⟩
   .have Gm:(b==c)=false:=by simpa using QD
    go_enter func175,ntmps175;go_wp2_with fail;go_returns;exact⟨δ.out _ _ (by rw[Á ⟨wK,KC⟩];try omega) (by rw[Â (λh=>QD h.2)];try omega),by go_grown⟩
  .have Kz:(a==c)=false:=by simpa using KC
   by_cases QD:b=c
   .go_enter func175,ntmps175
    go_wp2_with fail;go_returns;exact⟨δ.out _ _ (by rw[Â (λh=>KC h.2)];try omega) (by rw[Á ⟨wK,QD⟩];try omega),by go_grown⟩
   .have Gm:(b==c)=false:=by simpa using QD
    go_enter func175,ntmps175;go_wp2_with fail;go_returns;exact⟨δ.out _ _ (by rw[Â (λh=>KC h.2)];try omega) (by rw[Â (λh=>QD h.2)];try omega),by go_grown⟩
 .have Z6:(c==d)=false:=by simpa using wK
  go_enter func175,ntmps175;go_wp2_with fail;go_returns;exact⟨δ.out _ _ (by rw[Â (λh=>wK h.1)]) (by rw[Â (λh=>wK h.1)]),by go_grown⟩
theorem OH(k:Nat)(hk:k<6)(a b c d:Int)(w:Wd)(h1:-32768<=a)(h2:a<=b)(h3:b<=32767)(h4:-32768<=c)(h5:c<=d)(h6:d<=32767) :
  Calls prog 175 #[J #[I O a,I O b],χ ⟨(aM k).toArray⟩,J #[I O c,I O d]] w λe w'=>e=υ (J #[I O (kH k ⟨a,b⟩ ⟨c,d⟩).a,I O (kH k ⟨a,b⟩ ⟨c,d⟩).b])/\ω w w':=by
 rcases(show k=0∨k=1∨k=2∨k=3∨k=4∨k=5 from À) with rfl|rfl|rfl|rfl|rfl|rfl
 .exact L2 a b c d w h4 h5 h6
 .exact Mr a b c d w
 .exact Lc a b c d w
 .exact LB a b c d w h1 h2 h3 h4 h5 h6
 .exact LU a b c d w
 .exact Mc a b c d w h4 h5 h6
def wV:Option Sp.Iv->Value
 |some x=>φ #[J #[I O x.a,I O x.b],U true]
 |none=>φ #[J #[I O 0,I O 0],U false]
theorem Bn{r:Option Sp.Iv}(h:r=Y ⟨a,b⟩):Ending.returned (φ #[J #[I O a,I O b],U true])=υ (wV r):=by rw[h];rfl
theorem qz(a b:Int)(w:Wd) :
  Calls prog 131 #[I O a,I O b] w λe w'=>e=υ (J #[I O (dE a b).a,I O (dE a b).b])/\ω w w':=by
 by_cases h1:a < -32768
 .have δ:Hid (dE a b=⟨-32768,32767⟩):=by unfold Hid dE;rw[Á (.inl h1)];rfl
  go_enter func131,ntmps131;go_wp2_with fail;go_returns;exact⟨by rw[δ.out],by go_grown⟩
 .have o8:decide (a < -32768)=false:=by simpa using h1
  by_cases h2:32767<b
  .have δ:Hid (dE a b=⟨-32768,32767⟩):=by unfold Hid dE;rw[Á (.inr h2)];rfl
   go_enter func131,ntmps131;go_wp2_with fail;go_returns;exact⟨by rw[δ.out],by go_grown⟩
  .have Gq:decide (32767<b)=false:=by simpa using h2
   have δ:Hid (dE a b=⟨a,b⟩):=by unfold Hid dE;rw[Â À]
   go_enter func131,ntmps131;go_wp2_with fail;go_returns;exact⟨by rw[δ.out],by go_grown⟩
theorem SN(n:Int)(w:Wd) :
  Calls prog 92 #[I O 0,I O n] w λe w'=>e=υ (J #[I O n,I O n])/\ω w w':=by
 go_enter func92,ntmps92;go_wp2_with fail;go_returns;exact⟨rfl,by go_grown⟩
theorem Nv(w:Wd) :
  Calls prog 60 #[I O 0] w λe w'=>e=υ (J #[I O (-32768),I O 32767])/\ω w w':=by
 go_enter func60,ntmps60;go_wp2_with fail;go_returns;exact⟨rfl,by go_grown⟩
theorem VO(a b:Int)(w:Wd) :
  Calls prog 94 #[J #[I O a,I O b],I O 0,I O 0] w λe w'=>e=υ (U (decide (a<=0)&&decide (0<=b)))/\ω w w':=by
 by_cases h:a<=0
 .go_enter func94,ntmps94
  go_wp2_with fail;go_returns;exact⟨bt (by simp[h]),by go_grown⟩
 .have h0:decide (a<=0)=false:=by simpa using h
  go_enter func94,ntmps94;go_wp2_with fail;go_returns;exact⟨rfl,by go_grown⟩
theorem Oj(a b:Int)(w:Wd)(h1:-32768<=a)(h2:a<=b)(h3:b<=32767) :
  Calls prog 93 #[I O 0,J #[I O a,I O b]] w λe w'=>e=υ (J #[I O (dE (-b) (-a)).a,I O (dE (-b) (-a)).b])/\ω w w':=by
 have HW:Hid (∀W:Wd,Calls prog 131 #[I O (-b),I O (-a)] W λe w'=>e=υ (J #[I O (dE (-b) (-a)).a,I O (dE (-b) (-a)).b])/\ω W w'):=λW=>qz _ _ W
 generalize dE (-b) (-a)=t at*;go_enter func93,ntmps93;go_wp2_with fail;refine(HW.out _).mono ?_;rintro e w1⟨rfl,b1⟩;obtain⟨hx,hz,bw⟩:=ft b1;obtain⟨m0,m1,jo,jH,mq⟩:=aI hz;have MQ:=hid (mq (I O t.a) (I O t.b));have BW:=hid bw;clear mq b1 hx hz bw HW;go_wp2_with fail;exact Ç (v:=J #[I O t.a,I O t.b]) (by simp[results,results93,go_sem,MQ.1,MQ.2]) rfl ⟨rfl,(BW.setCell (p:=⟨w.heap.size+1,0,M⟩) (Nat.le_succ _) _).setCell (p:=⟨w.heap.size+1,1,M⟩) (Nat.le_succ _) _⟩
theorem Ml(zs:List Int)(j:Nat)(z:Int)(hj:0<j)(h:zs[j]?=Y z):pq (zs.take (j+1))=min (pq (zs.take j)) z/\pj (zs.take (j+1))=max (pj (zs.take j)) z:=by
 obtain⟨h1,h2⟩:=Í.1 h;rw[ä h1,h2];cases zs with
 |nil=>simp at h
 |cons x xs=>obtain⟨j,rfl⟩:∃i,j=i+1:=⟨j-1,À⟩;simp[pq,pj,List.foldl_append]
theorem JL(g cap:Nat)(zs:List Int)(w:Wd)(hg:g<w.heap.size)(hn:0<zs.length)(hbig:zs.length<=1000)(hc:∀(j:Nat) (z:Int),zs[j]?=Y z->w.cell? ⟨g,j,M⟩=Y (I O z)) :
  Calls prog 133 #[Z (Y ⟨g,0,M⟩) zs.length cap] w λe w'=>e=υ (J #[I O (cZ zs).a,I O (cZ zs).b])/\ω w w':=by
 obtain⟨x,hx⟩:∃x,zs[0]?=Y x:=⟨_,Î hn⟩;have HW:Hid (∀(p q:Int) (W:Wd),p=pq zs->q=pj zs->Calls prog 131 #[I O p,I O q] W λe w'=>e=υ (J #[I O (cZ zs).a,I O (cZ zs).b])/\ω W w'):=λp q W h1 h2=>by rw[h1,h2];exact qz _ _ W
 generalize cZ zs=t at*;have HC:Hid (∀(W:Wd),ω w W->∀(j:Nat) (z:Int),zs[j]?=Y z->W.cell? ⟨g,j,M⟩=Y (I O z)):=λW hW j z hz=>by rw[hW.cell (p:=⟨g,j,M⟩) hg];exact hc j z hz
 have kh:Hid (pq (zs.take 1)=x/\pj (zs.take 1)=x):=by
  unfold Hid;cases zs with
  |nil=>simp at hx
  |cons y ys=>simp at hx;subst hx;exact⟨rfl,rfl⟩
 have B0:Hid (ω w (w.alloc (L #[I O 0,I O 0] 117))):=below_alloc1 _ _;have Z0:Hid (_=_):=heap_alloc_new w (L #[I O 0,I O 0] 117);have c0:=HC.out _ B0.out 0 x hx;have Gb:(0:Int)<((zs.length:Nat):Int):=À;have DK:((zs.length:Nat):Int)<=1000:=À;clear hc hx;go_enter func133,ntmps133;go_wp2_with fail;generalize w.alloc (L #[I O 0,I O 0] 117)=W0 at*;obtain⟨k2,hk⟩:∃k2,k2=w.heap.size:=⟨_,rfl⟩;rw[<-hk]at Z0;rw[<-hk];have HK:=hid hk;clear hk
 go_loopw [3,4,5] (λv3 v4 v5 wr=>∃(j:Nat) (p q:Int),0<j/\j<=zs.length/\v5=I O j/\v3=I O p/\v4=I O q/\Hid (p=pq (zs.take j)/\q=pj (zs.take j))/\wr=W0) (λ_ _ v5 _=>zs.length-(intOf v5).toNat)
 case atStart=>exact⟨1,x,x,À,hn,rfl,rfl,rfl,⟨kh.1.symm,kh.2.symm⟩,rfl⟩
 case round=>
  obtain⟨j,p,q,hj0,hj,rfl,rfl,rfl,BN,rfl⟩:=hrel;by_cases Ga:j<zs.length
  .have wJ:((j:Nat):Int)<((zs.length:Nat):Int):=À
   obtain⟨z,hz⟩:∃z,zs[j]?=Y z:=⟨_,Î Ga⟩;have cz:=HC.out _ B0.out j z hz;obtain⟨e1,e2⟩:=Ml zs j z hj0 hz;have HP:Hid (min p z=pq (zs.take (j+1))/\max q z=pj (zs.take (j+1))):=by unfold Hid;rw[e1,e2,BN.1,BN.2];exact⟨rfl,rfl⟩
   clear e1 e2 hz BN c0;by_cases hp:z<p
   .by_cases hq:q<z
    .have HQ:Hid (z=pq (zs.take (j+1))/\z=pj (zs.take (j+1))):=by unfold Hid;rw[<-HP.1,<-HP.2];omega
     clear HP;go_wp2_with fail;exact⟨⟨j+1,z,z,À,À,by go_num,rfl,rfl,HQ,trivial⟩,by simp[intOf];omega⟩
    .have HQ:Hid (z=pq (zs.take (j+1))/\q=pj (zs.take (j+1))):=by unfold Hid;rw[<-HP.1,<-HP.2];omega
     clear HP;go_wp2_with fail;exact⟨⟨j+1,z,q,À,À,by go_num,rfl,rfl,HQ,trivial⟩,by simp[intOf];omega⟩
   .by_cases hq:q<z
    .have HQ:Hid (p=pq (zs.take (j+1))/\z=pj (zs.take (j+1))):=by unfold Hid;rw[<-HP.1,<-HP.2];omega
     clear HP;go_wp2_with fail;exact⟨⟨j+1,p,z,À,À,by go_num,rfl,rfl,HQ,trivial⟩,by simp[intOf];omega⟩
    .have HQ:Hid (p=pq (zs.take (j+1))/\q=pj (zs.take (j+1))):=by unfold Hid;rw[<-HP.1,<-HP.2];omega
     clear HP;go_wp2_with fail;exact⟨⟨j+1,p,q,À,À,by go_num,rfl,rfl,HQ,trivial⟩,by simp[intOf];omega⟩
  .obtain rfl:j=zs.length:=À
   have h1:=BN.out;rw[List.take_length]at h1;have HWW:=hid (HW.out p q wr h1.1 h1.2);clear h1 BN HW c0;go_wp2_with fail;refine HWW.mono ?_;rintro e w1⟨rfl,b1⟩;have hz:=(b1.block _ (ah Z0.out)).trans Z0.out;obtain⟨m0,m1,jo,jH,mq⟩:=aI hz;have MQ:=hid (mq (I O t.a) (I O t.b));have BW:Hid (ω w w1):=B0.trans (b1.mono B0.size);clear mq b1 hz HWW;go_wp2_with fail;exact Ç (v:=J #[I O t.a,I O t.b]) (by simp[results,results133,go_sem,MQ.1,MQ.2]) rfl ⟨rfl,(BW.setCell (p:=⟨k2,0,M⟩) (Nat.le_of_eq HK.symm) _).setCell (p:=⟨k2,1,M⟩) (Nat.le_of_eq HK.symm) _⟩
theorem BC(p q r s:Int)(W:Wd)(k:Nat)(hk:k=W.heap.size) :
  Calls prog 133 #[Z (Y ⟨k,0,M⟩) 4 4] (W.alloc (L #[I O p,I O q,I O r,I O s] 3)) λe w'=>e=υ (J #[I O (cZ [p,q,r,s]).a,I O (cZ [p,q,r,s]).b])/\ω W w':=by
 subst hk;have hn:=heap_alloc_new W (L #[I O p,I O q,I O r,I O s] 3);refine(JL W.heap.size 4 [p,q,r,s] (W.alloc (L #[I O p,I O q,I O r,I O s] 3)) Ä Ä Ä (λj z hz=>by
  match j,hz with
  |0,hz=>cases hz;exact cell_of hn 0 rfl
  |1,hz=>cases hz;exact cell_of hn 1 rfl
  |2,hz=>cases hz;exact cell_of hn 2 rfl
  |3,hz=>cases hz;exact cell_of hn 3 rfl)).mono ?_
 rintro e w'⟨rfl,b⟩;exact⟨rfl,(fN b).1⟩
theorem Lz(h1:-32768<=a)(h2:a<=b)(h3:b<=32767)(h4:-32768<=c)(h5:c<=d)(h6:d<=32767):cZ [a,b,c,d]=⟨min a c,max b d⟩:=by
 have e1:pq [a,b,c,d]=min a c:=by show min (min (min a b) c) d=_;omega
 have e2:pj [a,b,c,d]=max b d:=by show max (max (max a b) c) d=_;omega
 unfold cZ dE;rw[e1,e2,Â À]
theorem RZ(a b c d:Int)(w:Wd)(h1:-32768<=a)(h2:a<=b)(h3:b<=32767)(h4:-32768<=c)(h5:c<=d)(h6:d<=32767) :
  Calls prog 99 #[I O 0,J #[I O a,I O b],J #[I O c,I O d]] w λe w'=>e=υ (J #[I O (min a c),I O (max b d)])/\ω w w':=by
 have HS:Hid (∀(W:Wd) (k:Nat),k=W.heap.size->Calls prog 133 #[Z (Y ⟨k,0,M⟩) 4 4] (W.alloc (L #[I O a,I O b,I O c,I O d] 3)) λe w'=>e=υ (J #[I O (min a c),I O (max b d)])/\ω W w'):=λW k hk=>by have:=BC a b c d W k hk;rw[Lz h1 h2 h3 h4 h5 h6]at this;exact this
 generalize min a c=p at*;generalize max b d=q at*;go_enter func99,ntmps99;go_wp2_with fail;refine(HS.out _ _ Ä).mono ?_;rintro e w1⟨rfl,b1⟩;obtain⟨_,_,hz,bw⟩:=bQ b1;obtain⟨m0,m1,jo,jH,mq⟩:=aI hz;have MQ:=hid (mq (I O p) (I O q));have BW:=hid bw;clear mq b1 hz bw HS;go_wp2_with fail;exact Ç (v:=J #[I O p,I O q]) (by simp[results,results99,go_sem,MQ.1,MQ.2]) rfl ⟨rfl,(BW.setCell (p:=⟨w.heap.size+1+1,0,M⟩) (by show w.heap.size<=w.heap.size+1+1;omega) _).setCell (p:=⟨w.heap.size+1+1,1,M⟩) (by show w.heap.size<=w.heap.size+1+1;omega) _⟩
theorem NH(n:Int)(w:Wd)(h1:-100000<=n)(h2:n<=100000) :
  Calls prog 174 #[I O n] w λe w'=>e=υ (I O (max n (-n)))/\w'=w:=by
 by_cases h:n<0
 .go_enter func174,ntmps174
  go_wp2_with fail;go_ret;exact⟨Ë (λz:Int=>Ending.returned (I O z)) (show -n=max n (-n) by omega),rfl⟩
 .go_enter func174,ntmps174
  go_wp2_with fail;go_ret;exact⟨Ë (λz:Int=>Ending.returned (I O z)) (show n=max n (-n) by omega),rfl⟩
structure pk(w:Wd)(kx kr:Nat)(p q:Int)(W:Wd):Prop where
 x:W.heap[kx]?=Y (L #[I O p,I O q] 117)
 r:∃u v,W.heap[kr]?=Y (L #[u,v] 117)
 b:ω w W
theorem pk.cells(h:pk w kx kr p q W):W.cell? ⟨kx,0,M⟩=Y (I O p)/\W.cell? ⟨kx,1,M⟩=Y (I O q):=⟨cell_of h.x 0 rfl,cell_of h.x 1 rfl⟩
theorem pk.put{p:Int}(h:pk w kx kr p q W)(h1:kx≠kr)(h3:w.heap.size<=kr)(y z:Value):pk w kx kr p q ((W.setCell ⟨kr,0,M⟩ y).setCell ⟨kr,1,M⟩ z):=by obtain⟨u,v,hr⟩:=h.r;have e1:=ai (ai hr 0 y) 1 z;exact⟨by rw[Æ _ _ _ _ h1,Æ _ _ _ _ h1];exact h.x,⟨_,_,e1⟩,(h.b.setCell (p:=⟨kr,0,M⟩) h3 _).setCell (p:=⟨kr,1,M⟩) h3 _⟩
theorem pk.there(h:pk w kx kr p q W)(y z:Value):((W.setCell ⟨kr,0,M⟩ y).setCell ⟨kr,1,M⟩ z).cell? ⟨kr,0,M⟩=Y y/\((W.setCell ⟨kr,0,M⟩ y).setCell ⟨kr,1,M⟩ z).cell? ⟨kr,1,M⟩=Y z:=by obtain⟨u,v,hr⟩:=h.r;exact(aI hr).2.2.2.2 y z
theorem RY(a b c d:Int)(w:Wd) :
  Calls prog 141 #[I O 0,J #[I O a,I O b],J #[I O c,I O d]] w λe w'=>e=υ (φ #[J #[I O (max a c),I O (min b d)],U (decide (max a c<=min b d))])/\ω w w':=by
 obtain⟨p,hp⟩:∃p,Hid (p=max a c):=⟨_,rfl⟩;obtain⟨q,hq⟩:∃q,Hid (q=min b d):=⟨_,rfl⟩;rw[<-hp.out,<-hq.out];obtain⟨k0,k1,k2,kb⟩:=bQ (w:=w) (o1:=L #[I O a,I O b] 117) (o2:=L #[I O c,I O d] 117) (o3:=L #[I O 0,I O 0] 117) Å;have HX:Hid (pk w w.heap.size (w.heap.size+1+1) a b _):=⟨k0,⟨_,_,k2⟩,kb⟩;have HY:Hid (pk w (w.heap.size+1) (w.heap.size+1+1) c d _):=⟨k1,⟨_,_,k2⟩,kb⟩;clear k0 k1 k2 kb;go_enter func141,ntmps141;go_upto_if 20 with fail;generalize ((w.alloc (L #[I O a,I O b] 117)).alloc (L #[I O c,I O d] 117)).alloc (L #[I O 0,I O 0] 117)=W at*;obtain⟨kx,hkx⟩:∃kx,kx=w.heap.size:=⟨_,rfl⟩;obtain⟨ky,hky⟩:∃ky,ky=w.heap.size+1:=⟨_,rfl⟩;obtain⟨kr,hkr⟩:∃kr,kr=w.heap.size+1+1:=⟨_,rfl⟩;have n1:kx≠kr:=À;have n2:ky≠kx:=À;have n3:kr≠kx:=À;have l1:w.heap.size<=kx:=À;have l3:w.heap.size<=kr:=À;rw[<-hkr,<-hky,<-hkx];rw[<-hkr,<-hkx]at HX;rw[<-hkr,<-hky]at HY;clear hkx hky hkr
 go_cut [] from 21 to 23 (λwc=>Hid (pk w kx kr p b wc/\pk w ky kr c d wc))
 case first=>
  obtain⟨x0,x1⟩:=HX.cells;obtain⟨y0,y1⟩:=HY.cells;have xf:=ay HX.x 0;by_cases h1:a<c
  .have H1:Hid (pk w kx kr p b (W.setCell ⟨kx,0,M⟩ (I O c))/\pk w ky kr c d (W.setCell ⟨kx,0,M⟩ (I O c))):=by
    unfold Hid;obtain⟨u,v,hr⟩:=HX.r;have e:p=c:=by rw[hp.out];omega
    have Ks:(W.setCell ⟨kx,0,M⟩ (I O c)).heap[kr]?=Y (L #[u,v] 117):=by rw[Æ _ _ _ _ n3];exact hr
    have hb:=HX.b.setCell (p:=⟨kx,0,M⟩) l1 (I O c);exact⟨⟨by rw[e];exact ai HX.x 0 (I O c),⟨u,v,Ks⟩,hb⟩,⟨by rw[Æ _ _ _ _ n2];exact HY.x,⟨u,v,Ks⟩,hb⟩⟩
   clear HX HY;go_wp2_with fail;go_meet
   case rel=>exact H1
  .have e:p=a:=by rw[hp.out];omega
   have H1:Hid (pk w kx kr p b W/\pk w ky kr c d W):=by unfold Hid;rw[e];exact⟨HX.out,HY.out⟩
   clear HX HY e;go_wp2_with fail;go_meet
   case rel=>exact H1
 case rest=>
  have DN:=hid hcut.1;have Qp:=hid hcut.2;clear HX HY hcut;obtain⟨x0,x1⟩:=DN.cells;obtain⟨y0,y1⟩:=Qp.cells;go_upto_if 28 with fail
  go_cut [] from 29 to 31 (λwd=>Hid (pk w kx kr p q wd))
  case first=>
   have xf:=ay DN.x 1;by_cases h1:d<b
   .have H1:Hid (pk w kx kr p q (wc.setCell ⟨kx,1,M⟩ (I O d))):=by
     unfold Hid;obtain⟨u,v,hr⟩:=DN.r;have e:q=d:=by rw[hq.out];omega
     exact⟨by rw[e];exact ai DN.x 1 (I O d),⟨u,v,by rw[Æ _ _ _ _ n3];exact hr⟩,DN.b.setCell (p:=⟨kx,1,M⟩) l1 _⟩
    clear DN Qp;go_wp2_with fail;go_meet
    case rel=>exact H1
   .have e:q=b:=by rw[hq.out];omega
    have H1:Hid (pk w kx kr p q wc):=by unfold Hid;rw[e];exact DN.out
    clear DN Qp e;go_wp2_with fail;go_meet
    case rel=>exact H1
  case rest=>
   have h0:=hcut.out;clear hcut DN Qp x0 x1 y0 y1;obtain⟨x0,x1⟩:=h0.cells;obtain⟨u0,v0,hr⟩:=h0.r;obtain⟨m0,m1,jo,jH,_⟩:=aI hr;have MQ:=hid (h0.there (I O p) (I O q));have BQ:Hid (ω w _):=(h0.put n1 l3 (I O p) (I O q)).b.drew;have d0:∀u v:Value,((wc.setCell ⟨kr,0,M⟩ u).setCell ⟨kr,1,M⟩ v).cell? ⟨kx,0,M⟩=Y (I O p):=λu v=>(h0.put n1 l3 u v).cells.1
   have d1:∀u v:Value,((wc.setCell ⟨kr,0,M⟩ u).setCell ⟨kr,1,M⟩ v).cell? ⟨kx,1,M⟩=Y (I O q):=λu v=>(h0.put n1 l3 u v).cells.2
   clear hr h0;go_wp2_with fail
   go_region_with (fail)
   all_goals
    go_wp2_with fail;exact Ç (v:=φ #[J #[I O p,I O q],U (decide (p<=q))]) (by simp[results,results141,go_sem,MQ.1,MQ.2]) rfl ⟨rfl,BQ.out⟩
theorem Rf(a b c d:Int)(w:Wd)(h1:-32768<=a)(h2:a<=b)(h3:b<=32767)(h4:-32768<=c)(h5:c<=d)(h6:d<=32767) :
  Calls prog 135 #[J #[I O a,I O b],J #[I O c,I O d]] w λe w'=>e=υ (wV (lO ⟨a,b⟩ ⟨c,d⟩))/\ω w w':=by
 by_cases hz:c=0/\d=0
 .obtain⟨rfl,rfl⟩:=hz
  have δ:Hid (lO ⟨a,b⟩ ⟨0,0⟩=M):=rfl;go_enter func135,ntmps135;go_wp2_with fail;go_returns;exact⟨by rw[δ.out];rfl,by go_grown⟩
 .have δ:Hid (∀p q:Int,p=(if a<0 then max a (-(max (-c) d-1)) else 0)->q=(if 0<b then min b (max (-c) d-1) else 0)->lO ⟨a,b⟩ ⟨c,d⟩=Y ⟨p,q⟩):=λp q hp hq=>by
   unfold lO dE;simp only;rw[Â À,Â À];have e1:min (max a (-(max (-c) d-1))) 0=p:=by split at hp<;>omega
   have e2:max (min b (max (-c) d-1)) 0=q:=by split at hq<;>omega
   rw[e1,e2]
  by_cases hc:c=0
  .subst hc
   have hd:¬d=0:=λh=>hz ⟨rfl,h⟩
   have Yk:(d==0)=false:=by simpa using hd
   clear hz;go_enter func135,ntmps135;go_wp2_with (go_at_call 174;refine(NH _ _ À À).mono ?_;rintro e wN ⟨rfl,rfl⟩)
   all_goals go_returns
   all_goals exact⟨Bn (δ.out _ _ À À),by go_grown⟩
  .have px:(c==0)=false:=by simpa using hc
   clear hz;go_enter func135,ntmps135;go_wp2_with (go_at_call 174;refine(NH _ _ À À).mono ?_;rintro e wN ⟨rfl,rfl⟩)
   all_goals go_returns
   all_goals exact⟨Bn (δ.out _ _ À À),by go_grown⟩
structure tw(w:Wd)(kx ky kr:Nat)(a b c d:Int)(v6:Value)(zs:List Int)(W:Wd):Prop where
 x:W.heap[kx]?=Y (L #[I O a,I O b] 117)
 y:W.heap[ky]?=Y (L #[I O c,I O d] 117)
 r:W.heap[kr]?=Y (L #[I O 0,I O 0] 117)
 z:oD w.heap.size W v6 zs
 b:ω w W
theorem rZ{o:Obj}(hg:(w.alloc o).grownBy w2 v.ownBlock){u:Obj}(h:w.heap[k]?=Y u)(hn:v.ownBlock≠Y k):w2.heap[k]?=Y u:=
 (hg.block k (by simp;have:=ah h;omega) hn.symm).trans (heap_alloc_old h)
theorem oD.apart(h:oD base w v zs){cs:Array Value}(hk:Bk w k cs 117):v.ownBlock≠Y k:=by intro e;obtain⟨_,_,c,hc⟩:=bk h k e;rw[hk]at hc;cases hc
theorem tw.more{ky:Nat}(h:tw w kx ky kr a b c d v zs W){o:Obj}(kO:W2.ownsRow w.heap.size 3 1 v' (zs.length+2) (ints zs++[I O p,I O q]))(hg:(W.alloc o).grownBy W2 v.ownBlock):tw w kx ky kr a b c d v' (zs++[p,q]) W2:=by obtain⟨r2,b2⟩:=jG (o:=o) h.b.size h.z kO hg h.b;exact⟨rZ hg h.x (h.z.apart h.x),rZ hg h.y (h.z.apart h.y),rZ hg h.r (h.z.apart h.r),r2,b2⟩
theorem DY(a b c d:Int)(w:Wd)(h1:-32768<=a)(h2:a<=b)(h3:b<=32767)(h4:-32768<=c)(_:c<=d)(h6:d<=32767) :
  Calls prog 134 #[J #[I O a,I O b],J #[I O c,I O d]] w λe w'=>e=υ (wV (ig ⟨a,b⟩ ⟨c,d⟩))/\ω w w':=by
 obtain⟨i64,xw,xh,xu,wZ⟩:=info_parts BX;obtain⟨k0,k1,k2,kb⟩:=bQ (w:=w) (o1:=L #[I O a,I O b] 117) (o2:=L #[I O c,I O d] 117) (o3:=L #[I O 0,I O 0] 117) Å;have H0:Hid (tw w w.heap.size (w.heap.size+1) (w.heap.size+1+1) a b c d (Z M 0 0) [] _):=⟨k0,k1,k2,World.ownsRow_nil _ _ _ _,kb⟩;clear k0 k1 k2 kb;go_enter func134,ntmps134;go_upto_if 14 with fail;generalize ((w.alloc (L #[I O a,I O b] 117)).alloc (L #[I O c,I O d] 117)).alloc (L #[I O 0,I O 0] 117)=W at*;obtain⟨kx,hkx⟩:∃kx,kx=w.heap.size:=⟨_,rfl⟩;obtain⟨ky,hky⟩:∃ky,ky=w.heap.size+1:=⟨_,rfl⟩;obtain⟨kr,hkr⟩:∃kr,kr=w.heap.size+1+1:=⟨_,rfl⟩;have l3:w.heap.size<=kr:=À;rw[<-hkr,<-hky,<-hkx];rw[<-hkr,<-hky,<-hkx]at H0;clear hkx hky hkr;obtain⟨z1,kh⟩:∃z1,Hid (z1=if c<0 then [c,min d (-1)] else []):=⟨_,rfl⟩;obtain⟨zs,UC⟩:∃zs,Hid (zs=dz ⟨c,d⟩):=⟨_,rfl⟩;have ff:Hid (zs=z1++if 0<d then [max c 1,d] else []):=by unfold Hid;rw[UC.out,kh.out];rfl
 go_cut [6] from 7 to 24 (λv6 wc=>Hid (tw w kx ky kr a b c d v6 z1 wc))
 case first=>
  have y0:=cell_of H0.y 0 (v:=I O c) rfl;have y1:=cell_of H0.y 1 (v:=I O d) rfl;have Ky:=H0.b.size;by_cases hc:c<0
  .by_cases hd:-1<d
   .have e1:min d (-1)=-1:=À
    go_wp2_with (first
    |(at_builtin;refine wpList_append_own_at _ rfl _ _ 25 rfl w.heap.size 3 i64 (I O 0) 1 8 underlying25 xw xh xu wZ rfl É _ _ _ rfl (H0.z.alloc _) ⟨W.heap.size,0,M⟩ 2 2 [I O (c),I O (-1)] rfl rfl (World.news_of_block (cs:=#[I O (c),I O (-1)]) (t:=3) (fr:=(0,0)) (heap_alloc_new _ _)) (by intro u hu;simp at hu;rcases hu with rfl|rfl<;>rfl) (by unfold maxLen;first|omega|(simp;done)|(simp;omega)) (by first|omega|(simp;done)|(simp;omega)) (by simp;omega) ?_))
    intro v2 w2 gO eo _ _;have H2:Hid (tw w kx ky kr a b c d v2 z1 w2):=by unfold Hid;rw[kh.out,Á hc,e1];exact H0.more gO eo
    clear gO eo;go_wp2_with fail;go_meet
    case rel=>exact H2
   .have e1:min d (-1)=d:=À
    go_wp2_with (first
    |(at_builtin;refine wpList_append_own_at _ rfl _ _ 25 rfl w.heap.size 3 i64 (I O 0) 1 8 underlying25 xw xh xu wZ rfl É _ _ _ rfl (H0.z.alloc _) ⟨W.heap.size,0,M⟩ 2 2 [I O (c),I O (d)] rfl rfl (World.news_of_block (cs:=#[I O (c),I O (d)]) (t:=3) (fr:=(0,0)) (heap_alloc_new _ _)) (by intro u hu;simp at hu;rcases hu with rfl|rfl<;>rfl) (by unfold maxLen;first|omega|(simp;done)|(simp;omega)) (by first|omega|(simp;done)|(simp;omega)) (by simp;omega) ?_))
    intro v2 w2 gO eo _ _;have H2:Hid (tw w kx ky kr a b c d v2 z1 w2):=by unfold Hid;rw[kh.out,Á hc,e1];exact H0.more gO eo
    clear gO eo;go_wp2_with fail;go_meet
    case rel=>exact H2
  .have H2:Hid (tw w kx ky kr a b c d (Z M 0 0) z1 W):=by unfold Hid;rw[kh.out,Â hc];exact H0.out
   go_wp2_with fail;go_meet
   case rel=>exact H2
 case rest=>
  have H1:Hid (tw w kx ky kr a b c d u6 z1 wc):=hcut;obtain⟨a6,c6,e6⟩:=H1.z.form;subst e6;clear hcut H0;have xS:z1.length<=2:=by rw[kh.out];split<;>simp
  have y0:=cell_of H1.y 0 (v:=I O c) rfl;have y1:=cell_of H1.y 1 (v:=I O d) rfl;go_upto_if 27 with fail
  go_cut [6] from 8 to 37 (λv6 wd=>Hid (tw w kx ky kr a b c d v6 zs wd))
  case first=>
   have Ky:=H1.b.size;by_cases hd:0<d
   .by_cases hc:c<1
    .have e1:max c 1=1:=À
     go_wp2_with (first
    |(at_builtin;refine wpList_append_own_at _ rfl _ _ 25 rfl w.heap.size 3 i64 (I O 0) 1 8 underlying25 xw xh xu wZ rfl É _ _ _ rfl (H1.z.alloc _) ⟨wc.heap.size,0,M⟩ 2 2 [I O (1),I O (d)] rfl rfl (World.news_of_block (cs:=#[I O (1),I O (d)]) (t:=3) (fr:=(0,0)) (heap_alloc_new _ _)) (by intro u hu;simp at hu;rcases hu with rfl|rfl<;>rfl) (by unfold maxLen;first|omega|(simp;done)|(simp;omega)) (by first|omega|(simp;done)|(simp;omega)) (by simp;omega) ?_))
     intro v2 w2 gO eo _ _;have H2:Hid (tw w kx ky kr a b c d v2 zs w2):=by unfold Hid;rw[ff.out,Á hd,e1];exact H1.more gO eo
     clear gO eo;go_wp2_with fail;go_meet
     case rel=>exact H2
    .have e1:max c 1=c:=À
     go_wp2_with (first
    |(at_builtin;refine wpList_append_own_at _ rfl _ _ 25 rfl w.heap.size 3 i64 (I O 0) 1 8 underlying25 xw xh xu wZ rfl É _ _ _ rfl (H1.z.alloc _) ⟨wc.heap.size,0,M⟩ 2 2 [I O (c),I O (d)] rfl rfl (World.news_of_block (cs:=#[I O (c),I O (d)]) (t:=3) (fr:=(0,0)) (heap_alloc_new _ _)) (by intro u hu;simp at hu;rcases hu with rfl|rfl<;>rfl) (by unfold maxLen;first|omega|(simp;done)|(simp;omega)) (by first|omega|(simp;done)|(simp;omega)) (by simp;omega) ?_))
     intro v2 w2 gO eo _ _;have H2:Hid (tw w kx ky kr a b c d v2 zs w2):=by unfold Hid;rw[ff.out,Á hd,e1];exact H1.more gO eo
     clear gO eo;go_wp2_with fail;go_meet
     case rel=>exact H2
   .have H2:Hid (tw w kx ky kr a b c d (Z a6 z1.length c6) zs wc):=by unfold Hid;rw[ff.out,Â hd,List.append_nil];exact H1.out
    go_wp2_with fail;go_meet
    case rel=>exact H2
  case rest=>
   have H2:Hid (tw w kx ky kr a b c d u6 zs wc):=hcut;obtain⟨a6',c6',e6⟩:=H2.z.form;subst e6;have HNE:Hid (∀q∈zs,q≠0):=λq hq=>ye (by rw[UC.out]at hq;exact hq)
   have hlen:zs.length<=4:=by rw[UC.out];unfold dz;rw[List.length_append];split<;>split<;>simp
   have hli:(zs.length:Int)<=4:=À;have EQ:Hid (ig ⟨a,b⟩ ⟨c,d⟩=if zs=[] then M else Y (cZ (eD a b zs))):=by unfold Hid;rw[UC.out];rfl
   clear hcut H1 kh UC ff xS y0 y1;go_wp2_with fail
   go_loopw [9,10] (λv9 v10 wr=>∃j:Nat,j<=zs.length/\v10=I O j/\Hid (oD wc.heap.size wr v9 (eD a b (zs.take j))/\ω wc wr)) (λ_ v10 _=>zs.length-(intOf v10).toNat)
   case atStart=>exact⟨0,Ì,rfl,World.ownsRow_nil _ _ _ _,Å⟩
   case round=>
    obtain⟨j,hj,rfl,hq⟩:=hrel;obtain⟨aq,cq,rfl⟩:=hq.1.form;by_cases dZ:j<zs.length
    .have wJ:((j:Nat):Int)<((zs.length:Nat):Int):=À
     obtain⟨z,hz⟩:∃z,zs[j]?=Y z:=⟨_,Î dZ⟩;have db:zs≠[]:=by intro e;subst e;simp at dZ
     obtain⟨g,cv',hv,zR,hg,il⟩:=H2.z.cell db;injection hv with e1 e2 e3
     subst e1;subst e3;clear e2;have Nh:=il j z hz;have Xi:Hid (∀W:Wd,ω wc W->W.cell? ⟨g,j,M⟩=Y (I O z)/\W.cell? ⟨kx,0,M⟩=Y (I O a)/\W.cell? ⟨kx,1,M⟩=Y (I O b)):=λW hW=>by
      refine⟨by rw[hW.cell (p:=⟨g,j,M⟩) hg];exact Nh,?_,?_⟩
      .rw[hW.cell (p:=⟨kx,0,M⟩) (ah H2.x)];exact cell_of H2.x 0 rfl
      .rw[hW.cell (p:=⟨kx,1,M⟩) (ah H2.x)];exact cell_of H2.x 1 rfl
     have Kv:z≠0:=HNE.out z (Ù hz);have Ky:=hq.2.size;have Dr:Hid (eD a b (zs.take (j+1))=eD a b (zs.take j)++[a.tdiv z,b.tdiv z]):=by have hk:=Í.1 hz;unfold Hid eD;rw[ä hk.1,hk.2,List.flatMap_append];simp
     obtain⟨ta1,ta2⟩:=oG (q:=z) h1 (by omega:a<=32767);obtain⟨tb1,tb2⟩:=oG (a:=b) (q:=z) À h3;have uf:IntKind.i64.wrap (a.tdiv z)=a.tdiv z:=by rw[IntWalk.i64_in]<;>omega
     have Zi:IntKind.i64.wrap (b.tdiv z)=b.tdiv z:=by rw[IntWalk.i64_in]<;>omega
     have Zd:(eD a b (zs.take j)).length<=100:=by
      have h2:(zs.take j).length<=4:=by rw[List.length_take];omega
      rw[nf];omega
     have ZH:Hid (oD wc.heap.size wr.drew (Z aq (eD a b (zs.take j)).length cq) (eD a b (zs.take j))):=aY hq.1 (λ_ _=>rfl);have HB:=hid hq.2.drew;generalize eD a b (zs.take j)=μ at*;clear hz il Nh;go_wp2_with fail;refine wp_region_held_drew (S:=λw':Wd=>ω wc w') Ã HB.out (λaa=>?_);generalize wr.drew=V at*;refine tq 0 (Z aq μ.length cq) aa ?_;refine tq 1 (ρ (Y ⟨kx,0,M⟩)) aa ?_;refine tk 2 (I O a) rfl (λw' h=>by have q:=(Xi.out _ h).2.1;go_simp) aa ?_;refine tq 3 (Z (Y ⟨g,0,M⟩) zs.length c6') aa ?_;refine tq 4 (I O (j:Nat)) aa ?_;refine tq 5 (ρ (Y ⟨g,j,M⟩)) aa ?_;refine tk 6 (I O z) rfl (λw' h=>by have q:=(Xi.out _ h).1;go_simp) aa ?_;refine tq 7 (I O (a.tdiv z)) aa ?_;refine tq 8 (ρ (Y ⟨kx,1,M⟩)) aa ?_;refine tk 9 (I O b) rfl (λw' h=>by have q:=(Xi.out _ h).2.2;go_simp) aa ?_;refine tq 10 (Z (Y ⟨g,0,M⟩) zs.length c6') aa ?_;refine tq 11 (I O (j:Nat)) aa ?_;refine tq 12 (ρ (Y ⟨g,j,M⟩)) aa ?_;refine tk 13 (I O z) rfl (λw' h=>by have q:=(Xi.out _ h).1;go_simp) aa ?_;refine tq 14 (I O (b.tdiv z)) aa ?_;refine bP 15 λK hK=>?_
     simp only[bG,gd];go_simp;refine hK.out _ _ (aa.alloc aa.size _) (λ_=>?_);clear hK K;refine bP 16 λK hK=>?_
     refine step_append_lies _ Ê _ _ _ Ê wc.heap.size 3 i64 (I O 0) 1 8 underlying25 xw xh xu wZ rfl À (Z aq μ.length cq) μ.length (ints μ) Ê (ZH.alloc _)
      ⟨V.heap.size,0,M⟩ 2 2 [I O (a.tdiv z),I O (b.tdiv z)] Ê Ê (World.news_of_block (cs:=#[I O (a.tdiv z),I O (b.tdiv z)]) (t:=3) (fr:=(0,0)) (heap_alloc_new V _)) (by simp[Value.oneCell'])
      À (by unfold maxLen;omega) À (by simp;have:=aa.size;omega) (V.heap.size+1) Ä ?_
     intro gg cap w3 jf eZ XC Xk;have HQ:Hid (oD wc.heap.size w3 (Z (Y ⟨gg,0,M⟩) (μ.length+2) cap) (eD a b (zs.take (j+1)))/\ω wc w3):=by unfold Hid;rw[Dr.out];exact jG (o:=L #[I O (a.tdiv z),I O (b.tdiv z)] 3) aa.size ZH.out jf eZ aa
     clear jf eZ XC Xk;refine hK.out _ _ HQ.2 (λ_=>?_);clear hK K;refine bP 17 λK hK=>?_
     simp only[bG];go_simp;refine hK.out _ _ HQ.2 (λ_=>?_);clear hK K;refine wpAnyH_done Ã ?_ _;go_wp2_with fail;exact⟨⟨j+1,À,by go_num,HQ⟩,by simp[intOf];omega⟩
    .have ej:zs.take j=zs:=List.take_of_length_le À
     have DL:=(hq.2.block _ (ah H2.r)).trans H2.r;have HR3:=hid DL;have B3:Hid (ω w wr):=H2.b.trans (hq.2.mono H2.b.size);have eu:oD wc.heap.size wr (Z aq (eD a b (zs.take j)).length cq) (eD a b (zs.take j)):=hq.1;rw[ej]at eu⊢;by_cases db:zs=[]
     .subst db
      have δ:Hid (ig ⟨a,b⟩ ⟨c,d⟩=M):=by unfold Hid;rw[EQ.out,Á rfl]
      obtain⟨m0,m1,jo,jH,mq⟩:=aI DL;have MQ:=hid (mq (I O 0) (I O 0));clear mq eu DL hq;have e0:(eD a b []).length=0:=rfl;rw[e0];go_wp2_with fail;exact Ç (v:=φ #[J #[I O 0,I O 0],U false]) (by simp[results,results134,go_sem,MQ.1,MQ.2]) rfl ⟨by rw[δ.out];rfl,(B3.setCell (p:=⟨kr,0,M⟩) l3 _).setCell (p:=⟨kr,1,M⟩) l3 _⟩
     .have δ:Hid (ig ⟨a,b⟩ ⟨c,d⟩=Y (cZ (eD a b zs))):=by unfold Hid;rw[EQ.out,Â db]
      have Qv:eD a b zs≠[]:=by
       intro e;have h1:=nf a b zs;rw[e]at h1;have h2:zs.length=0:=by simp at h1;omega
       exact db (List.eq_nil_of_length_eq_zero h2)
      have Zd:(eD a b zs).length<=100:=by rw[nf];omega
      obtain⟨g,cc,hv,zR,hg,il⟩:=eu.cell Qv;injection hv with e1 e2 e3
      subst e1;subst e3;have tR:0<(eD a b zs).length:=List.length_pos_iff.2 Qv;have HH:=hid (JL g cq (eD a b zs) wr hg tR À il);generalize cZ (eD a b zs)=hvv at*;generalize (eD a b zs).length=m at*;have hm0:¬((m:Int)=0):=À;have tZ:((m:Int)==0)=false:=by simpa using hm0
      clear eu DL hq il;go_wp2_with fail;refine HH.mono ?_;rintro e w4⟨rfl,b4⟩;have pC:=(b4.block _ (ah HR3.out)).trans HR3.out;have B4:Hid (ω w (w4.alloc (L #[I O hvv.a,I O hvv.b] 117))):=(B3.trans (b4.mono B3.size)).alloc (B3.trans (b4.mono B3.size)).size _;have tQ:(w4.alloc (L #[I O hvv.a,I O hvv.b] 117)).heap[kr]?=_:=heap_alloc_old pC;have lX:=heap_alloc_new w4 (L #[I O hvv.a,I O hvv.b] 117);have n0:=cell_of lX 0 (v:=I O hvv.a) rfl;have n1:=cell_of lX 1 (v:=I O hvv.b) rfl;obtain⟨m0,m1,jo,jH,mq⟩:=aI tQ;have MQ:=hid (mq (I O hvv.a) (I O hvv.b));clear mq b4 pC tQ lX;go_wp2_with fail;exact Ç (v:=φ #[J #[I O hvv.a,I O hvv.b],U true]) (by simp[results,results134,go_sem,MQ.1,MQ.2]) rfl ⟨by rw[δ.out];rfl,(B4.setCell (p:=⟨kr,0,M⟩) l3 _).setCell (p:=⟨kr,1,M⟩) l3 _⟩
theorem SY(o:Option Sp.Iv):∃p q ok,wV o=φ #[J #[I O p,I O q],U ok]:=by cases o<;>exact⟨_,_,_,rfl⟩
theorem D3(k:Nat)(hk:k<5)(a b c d:Int)(w:Wd)(h1:-32768<=a)(h2:a<=b)(h3:b<=32767)(h4:-32768<=c)(h5:c<=d)(h6:d<=32767) :
  Calls prog 95 #[J #[I O a,I O b],χ ⟨(bB k).toArray⟩,J #[I O c,I O d]] w λe w'=>e=υ (wV (nP k ⟨a,b⟩ ⟨c,d⟩))/\ω w w':=by
 obtain⟨o,ho⟩:∃o,Hid (o=nP k ⟨a,b⟩ ⟨c,d⟩):=⟨_,rfl⟩;rw[<-ho.out];obtain⟨p,q,ok,hp⟩:=SY o;obtain⟨p1,p2⟩:=iH h1 (by omega:a<=32767) h4 (by omega:c<=32767);obtain⟨p3,p4⟩:=iH h1 (by omega:a<=32767) (by omega:-32768<=d) h6;obtain⟨p5,p6⟩:=iH (by omega:-32768<=b) h3 h4 (by omega:c<=32767);obtain⟨p7,p8⟩:=iH (by omega:-32768<=b) h3 (by omega:-32768<=d) h6;have HO:=hid hp;rw[hp];clear hp
 rcases(show k=0∨k=1∨k=2∨k=3∨k=4 from À) with rfl|rfl|rfl|rfl|rfl
 all_goals
  simp only[bB];go_enter func95,ntmps95;go_wp2_with fail
 have E0:o=Y (dE (a+c) (b+d)):=ho.out;refine(qz (a+c) (b+d) _).mono ?_
 rotate_left 1
 have E0:o=Y (dE (a-d) (b-c)):=ho.out;refine(qz (a-d) (b-c) _).mono ?_
 rotate_left 1
 have E0:o=Y (cZ [a*c,a*d,b*c,b*d]):=ho.out;refine(BC (a*c) (a*d) (b*c) (b*d) _ _ Ä).mono ?_
 rotate_left 1
 have E0:wV o=wV _:=Ë wV ho.out;refine(DY a b c d _ h1 h2 h3 h4 h5 h6).mono ?_
 rotate_left 1
 have E0:wV o=wV _:=Ë wV ho.out;refine(Rf a b c d _ h1 h2 h3 h4 h5 h6).mono ?_
 rotate_left 1
 all_goals
  rintro e w1⟨he,b1⟩;obtain⟨_,_,hz,bw⟩:=bQ b1;have H2:=HO.out
  first
   | (rw[E0]at H2
      simp[wV]at H2;obtain⟨⟨r1,r2⟩,rfl⟩:=H2;rw[r1,r2]at he;subst he;clear E0 HO ho r1 r2;have tQ:=heap_alloc_old (o':=L #[I O p,I O q] 117) hz;have lX:=heap_alloc_new w1 (L #[I O p,I O q] 117);have n0:=cell_of lX 0 (v:=I O p) rfl;have n1:=cell_of lX 1 (v:=I O q) rfl;obtain⟨m0,m1,jo,jH,mq⟩:=aI tQ;have MQ:=hid (mq (I O p) (I O q));have BW:Hid (ω w (w1.alloc (L #[I O p,I O q] 117))):=bw.alloc bw.size _;clear mq b1 hz tQ lX bw;go_wp2_with fail;exact Ç (by simp[results,results95,go_sem,MQ.1,MQ.2]) rfl ⟨rfl,(BW.setCell (p:=⟨w.heap.size+1+1,0,M⟩) (by show w.heap.size<=w.heap.size+1+1;omega) _).setCell (p:=⟨w.heap.size+1+1,1,M⟩) (by show w.heap.size<=w.heap.size+1+1;omega) _⟩)
   | (rw[ho.out]at H2
      replace he:=he.trans (Ë Ending.returned H2);subst he;obtain⟨m0,m1,jo,jH,mq⟩:=aI hz;have MQ:=hid (mq (I O p) (I O q));have BW:=hid bw;clear mq b1 hz bw E0 HO ho H2;go_wp2_with fail;exact Ç (by simp[results,results95,go_sem,MQ.1,MQ.2]) rfl ⟨rfl,(BW.setCell (p:=⟨w.heap.size+1+1,0,M⟩) (by show w.heap.size<=w.heap.size+1+1;omega) _).setCell (p:=⟨w.heap.size+1+1,1,M⟩) (by show w.heap.size<=w.heap.size+1+1;omega) _⟩)
end
end Go.Proofs.YtiopfihjmkfdmabGreatDoor
