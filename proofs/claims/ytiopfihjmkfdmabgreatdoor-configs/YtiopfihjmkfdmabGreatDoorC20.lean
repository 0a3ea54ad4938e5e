import Derived.Test.YtiopfihjmkfdmabGreatDoorC10
import Derived.Test.YtiopfihjmkfdmabGreatDoorC12
namespace Go.Proofs.YtiopfihjmkfdmabGreatDoor
open Go.Value renaming int->I,bool->U,string->χ,pointer->ρ,tuple->φ,agg->J,slice->Z
open Go.IntKind renaming i64->O
open Go.Ending renaming returned->υ
open Option renaming none->M,some->Y
open Go.Obj renaming cells->L
open Go.Proofs.Tryz Sp
open Go.RowKit
set_option maxRecDepth 100000
set_option maxHeartbeats 16000000
section
variable{b pb base k j gg cap:Nat}
variable{w w' w1 w2:Wd}
variable{s t x:ByteArray}
variable{l l':Sp.Bs}
variable{o i a at_ ii o' first oo:Int}
variable{er:Nat×Nat}
theorem Ix(n:Int):(n.tmod 65536=n%65536/\0<=n.tmod 65536)∨(n.tmod 65536=n%65536-65536/\n.tmod 65536<0):=by
 have h:=Int.tmod_eq_emod (a:=n) (b:=65536);have h0:=Int.emod_nonneg n (show(65536:Int)≠0 by decide);have h1:=Int.emod_lt_of_pos n (show(0:Int)<65536 by decide);by_cases hc:0<=n∨(65536:Int)∣n
 .rw[Á hc]at h
  omega
 .rw[Â hc]at h
  have e:((65536:Int).natAbs:Int)=65536:=rfl;omega
theorem Ay(n:Int)(w:Wd) :
  Calls prog 139 #[I O n,I O 65536] w λe w'=>e=υ (I O (n%65536))/\w'=w:=by
 rcases Ix n with⟨h1,h2⟩|⟨h1,h2⟩
 .have h3:¬n.tmod 65536<0:=À
  go_enter func139,ntmps139;go_wp2_with fail;go_ret;exact⟨by rw[<-h1];rfl,rfl⟩
 .have h3:RowKit.wrap64 (n.tmod 65536+65536)=n%65536:=by
   have:=Int.emod_nonneg n (show(65536:Int)≠0 by decide);rw[h1];unfold RowKit.wrap64;omega
  go_enter func139,ntmps139;go_wp2_with fail;go_ret;exact⟨by rw[<-h3];rfl,rfl⟩
theorem Ve(n:Int):wh n=(n+32768)%65536-32768:=by
 have h:wh n=if(32768:Int)<=n%65536 then n%65536-65536 else n%65536:=by unfold wh IntKind.wrap;simp[IntKind.bits,IntKind.signed]
 rw[h];split<;>omega
theorem vz(n:Int)(w:Wd) :
  Calls prog 107 #[I O n] w λe w'=>e=υ (I O (wh n))/\w'=w:=by
 have h0:=Int.emod_nonneg n (show(65536:Int)≠0 by decide);have h1:=Int.emod_lt_of_pos n (show(0:Int)<65536 by decide);have HW:Hid (wh n=if 32767<n%65536 then n%65536-65536 else n%65536):=by unfold Hid;rw[Ve];split<;>omega
 obtain⟨q,hq⟩:∃q,Hid (q=n%65536):=⟨_,rfl⟩;have Q4:0<=q:=by rw[hq.out];exact h0
 have zU:q<65536:=by rw[hq.out];exact h1
 have HM:=Ay n w;rw[<-hq.out]at HM;have Ty:Hid (wh n=if 32767<q then q-65536 else q):=by rw[hq.out];exact HW
 clear h0 h1 HW;by_cases hc:32767<q
 .go_enter func107,ntmps107
  go_wp2_with fail;refine HM.mono ?_;rintro e w1⟨rfl,rfl⟩;go_wp2_with fail;go_ret;exact⟨by rw[Ty.out,Á hc];rfl,rfl⟩
 .go_enter func107,ntmps107
  go_wp2_with fail;refine HM.mono ?_;rintro e w1⟨rfl,rfl⟩;go_wp2_with fail;go_ret;exact⟨by rw[Ty.out,Â À];rfl,rfl⟩
theorem Cv(k:Nat)(hk:k<6)(x y:Int)(w:Wd) :
  Calls prog 108 #[I O x,χ ⟨(aM k).toArray⟩,I O y] w λe w'=>e=υ (U (Sp.holds k x y))/\w'=w:=by
 have:k=0∨k=1∨k=2∨k=3∨k=4∨k=5:=À
 rcases this with rfl|rfl|rfl|rfl|rfl|rfl
 all_goals
  simp only[aM];go_enter func108,ntmps108;go_wp2_with fail;go_ret;refine⟨bt ?_,rfl⟩;simp[Sp.holds]
structure oy(b:Nat)(w w':Wd):Prop where
 os:w'.os=w.os
 tape:w'.tape=w.tape
 output:w'.output=w.output
 size:w.heap.size<=w'.heap.size
 block:∀k,k<w.heap.size->k≠b->w'.heap[k]?=w.heap[k]?
theorem oy.refl(b:Nat)(w:Wd):oy b w w:=⟨rfl,rfl,rfl,È,λ_ _ _=>rfl⟩
theorem oy.setCell(h:oy b w w'){p:Addr}(hp:p.block=b∨w.heap.size<=p.block)(u:Value):oy b w (w'.setCell p u):=
 ⟨h.os,h.tape,h.output,by have:=h.size;simp[World.setCell];omega,λk hk hb=>by rw[Æ _ _ _ _ (by rcases hp with rfl|hp<;>omega)];exact h.block k hk hb⟩
theorem oy.aF(h:ω w w'):oy b w w':=
 ⟨h.os,h.tape,h.output,h.size,λk hk _=>h.block k hk⟩
structure aK where
 kind:Int:=0
 a:Int:=0
 b:Int:=0
 c:Int:=0
 n:Int:=0
 next:Int:=0
 sign:Sp.Bs:=[]
 site:Int:=0
 aA:Int:=0
 els:Bool:=false
def cA(x:aK):List Value:=[I O x.kind,I O x.a,I O x.b,I O x.c,I O x.n,I O x.next,χ ⟨x.sign.toArray⟩,I O x.site,I O x.aA,U x.els]
def gL(ns:List aK):List Value:=(ns.map cA).flatten
structure FP where
 ns:List aK
 ct:Int×Int
 qs:List Int
 nv:Value
 qv:Value
def cQ(p:FP)(first:Int):Array Value:=#[p.nv,I O first,I O p.ct.1,I O p.ct.2,p.qv]
def cu(s:ByteArray)(i at_:Int)(t:ByteArray)(pb:Nat)(o er:Int):Array Value:=
 #[χ s,I O i,I O at_,χ t,ρ (Y ⟨pb,0,M⟩),I O o,I O er]
structure mG(base pb:Nat)(p:FP)(w:Wd):Prop where
 aV:w.heap[pb]?=Y (L (cQ p 0) 110)
 kQ:w.ownsRow base 200 10 p.nv p.ns.length (gL p.ns)
 lU:w.ownsRow base 3 1 p.qv p.qs.length (p.qs.map λn=>I O n)
 ge:base<=pb
 n5:p.ns.length<=1000000
 q5:p.qs.length<=1000000
structure FR(base b pb:Nat)(s:ByteArray)(l:Sp.Bs)(o:Int)(p:FP)(w:Wd):Prop where
 aV:w.heap[b]?=Y (L (cu s ((s.size-l.length+bh l:Nat):Int) ((s.size-l.length:Nat):Int) ⟨(Sp.tok l).toArray⟩ pb o 0) 198)
 prog:mG base pb p w
 suf:l <:+ s.data.toList
 sz:s.size<=400
 ge:base<=b
 ne:b≠pb
structure FE(base b pb:Nat)(s:ByteArray)(er:Nat×Nat)(p:FP)(w:Wd):Prop where
 aV:∃(i:Int) (l:Sp.Bs) (o:Int),w.heap[b]?=Y (L (cu s i ((s.size-er.2:Nat):Int) ⟨(Sp.tok l).toArray⟩ pb o er.1) 198)/\l.length<=400
 prog:mG base pb p w
 nz:er.1≠0
 ge:base<=b
 ne:b≠pb
structure FK(b pb:Nat)(p p':FP)(w w':Wd):Prop where
 os:w'.os=w.os
 tape:w'.tape=w.tape
 output:w'.output=w.output
 size:w.heap.size<=w'.heap.size
 kQ:∀g,p'.nv.ownBlock=Y g->p.nv.ownBlock=Y g∨w.heap.size<=g
 lU:∀g,p'.qv.ownBlock=Y g->p.qv.ownBlock=Y g∨w.heap.size<=g
 block:∀k,k<w.heap.size->k≠b->k≠pb->p.nv.ownBlock≠Y k->p.qv.ownBlock≠Y k->w'.heap[k]?=w.heap[k]?
theorem FK.refl(b pb:Nat)(p:FP)(w:Wd):FK b pb p p w w:=⟨rfl,rfl,rfl,È,λ_ h=>.inl h,λ_ h=>.inl h,λ_ _ _ _ _ _=>rfl⟩
theorem FK.trans{p p1 p2:FP}(h:FK b pb p p1 w w1)(k:FK b pb p1 p2 w1 w2):FK b pb p p2 w w2:=by
 have hs:=h.size;refine⟨k.os.trans h.os,k.tape.trans h.tape,k.output.trans h.output,Nat.le_trans h.size k.size,?_,?_,?_⟩
 .intro g hg
  rcases k.kQ g hg with h1|h1
  .exact h.kQ g h1
  .exact .inr À
 .intro g hg
  rcases k.lU g hg with h1|h1
  .exact h.lU g h1
  .exact .inr À
 .intro i hi h1 h2 h3 h4
  rw[k.block i À h1 h2 (λe=>by rcases h.kQ i e with e'|e';exact h3 e';omega) (λe=>by rcases h.lU i e with e'|e';exact h4 e';omega)];exact h.block i hi h1 h2 h3 h4
theorem FK.aF{p:FP}(h:ω w w'):FK b pb p p w w':=
 ⟨h.os,h.tape,h.output,h.size,λ_ h=>.inl h,λ_ h=>.inl h,λk hk _ _ _ _=>h.block k hk⟩
theorem FK.below{p p':FP}(h:FK b pb p p' w w')(hp:mG base pb p w)(hb:base<=b)(hw:base<=w.heap.size):Below base w w':=
 ⟨h.os,h.tape,h.output,h.size,λk hk=>h.block k À À (by have:=hp.ge;omega) (λe=>by have:=(bk hp.kQ k e).1;omega) (λe=>by have:=(bk hp.lU k e).1;omega)⟩
theorem FR.len{p:FP}(h:FR base b pb s l o p w):l.length<=s.size:=by have:=h.suf.length_le;simpa using this
theorem mG.dX{p:FP}(h:mG base pb p w){c:Array Value}{t:TypeId}(hb:Bk w b c t)(ht:t≠200/\t≠3):p.nv.ownBlock≠Y b/\p.qv.ownBlock≠Y b:=by
 constructor
 .intro e
  obtain⟨_,_,c',hc⟩:=bk h.kQ b e;rw[hb]at hc;cases hc;exact ht.1 rfl
 .intro e
  obtain⟨_,_,c',hc⟩:=bk h.lU b e;rw[hb]at hc;cases hc;exact ht.2 rfl
theorem mG.after{p:FP}(h:mG base pb p w)(hb:ω w w'):mG base pb p w':=
 ⟨by rw[hb.block _ (ah h.aV)];exact h.aV,aY h.kQ (λg hg=>hb.block g (bk h.kQ g hg).2.1),aY h.lU (λg hg=>hb.block g (bk h.lU g hg).2.1),h.ge,h.n5,h.q5⟩
theorem ij(c:UInt8)(w:Wd):Calls prog 87 #[I .u8 c.toNat] w λe w'=>e=υ (U (Sp.isLet c))/\w'=w:=by
 go_enter func87,ntmps87
 go_wp2
 all_goals
  go_ret;exact⟨bt (by unfold Sp.isLet;rw[Bool.eq_iff_iff];simp;omega),rfl⟩
theorem gV(c:UInt8)(w:Wd):Calls prog 88 #[I .u8 c.toNat] w λe w'=>e=υ (U (bC c))/\w'=w:=by
 go_enter func88,ntmps88
 go_wp2
 all_goals
  go_ret;exact⟨bt (by unfold bC;rw[Bool.eq_iff_iff];simp;omega),rfl⟩
def zh:ByteArray:=⟨#[60,62,61,43,45,42,47,37,40,41,123,125,59]⟩
theorem GO:zh.size=13:=rfl
theorem G7:zh.data.toList=qU:=rfl
theorem drop_cons(s:ByteArray)(i:Nat)(h:i<s.size):s.data.toList.drop i=s[i]::s.data.toList.drop (i+1):=by rw[ë (by simpa using h)];rfl
theorem ts(s:ByteArray)(i:Nat)(h:i<s.size):bM (s.data.toList.drop i)=if(∃h1:i+1<s.size,s[i+1].toNat=61)/\s[i]∈wR then 2 else if s[i]∈qU then 1 else 0:=by
 rw[drop_cons s i h,kt];have e:(s.data.toList.drop (i+1)).head?=Y 61↔∃h1:i+1<s.size,s[i+1].toNat=61:=by
  by_cases h1:i+1<s.size
  .rw[drop_cons s (i+1) h1]
   simp only[List.head?_cons,Option.some.injEq];constructor
   .intro e;exact⟨h1,by rw[e];rfl⟩
   .rintro⟨_,e⟩;exact ç.1 e
  .rw[ê (by simpa using h1)]
   simp[h1]
 by_cases hc:(∃h1:i+1<s.size,s[i+1].toNat=61)/\s[i]∈wR
 .rw[Á hc,Á ⟨e.2 hc.1,hc.2⟩]
 .rw[Â hc,Â (λk=>hc ⟨e.1 k.1,k.2⟩)]
theorem Fm(c:UInt8):c∈wR↔((c.toNat:Int)=60∨(c.toNat:Int)=62∨(c.toNat:Int)=61∨(c.toNat:Int)=33):=by unfold wR;simp only[List.mem_cons,List.not_mem_nil,or_false,<-ç];show c.toNat=60∨c.toNat=62∨c.toNat=61∨c.toNat=33↔_;omega
theorem RH(j:Nat)(h:j<zh.size):qU[j]?=Y zh[j]:=by have:=byte_at zh j h;rw[<-G7];exact this
theorem Hv(s:ByteArray)(i:Nat)(h:i<s.size)(hs:s.size<=400)(w:Wd)(ht:¬ ((∃h1:i+1<s.size,s[i+1].toNat=61)/\s[i]∈wR)) :
  Calls prog 89 #[χ s,I O i] w λe w'=>e=υ (I O (bM (s.data.toList.drop i)))/\ω w w':=by
 have aW:Hid (bM (s.data.toList.drop i)=if s[i]∈qU then 1 else 0):=by unfold Hid;rw[ts s i h,Â ht]
 have WD:(i:Int)<(s.size:Int):=À;have Wt:(¬(i:Int)+1<(s.size:Int))∨(∃h1:i+1<s.size,(i:Int)+1<(s.size:Int)/\¬(s[i+1].toNat:Int)=61)∨(∃h1:i+1<s.size,(i:Int)+1<(s.size:Int)/\(s[i+1].toNat:Int)=61/\((s[i].toNat:Int)==60)=false/\((s[i].toNat:Int)==62)=false/\((s[i].toNat:Int)==61)=false/\((s[i].toNat:Int)==33)=false):=by
  by_cases h1:i+1<s.size
  .by_cases Yf:(s[i+1].toNat:Int)=61
   .have hn:¬s[i]∈wR:=λk=>ht ⟨⟨h1,À⟩,k⟩
    rw[Fm]at hn;exact .inr (.inr ⟨h1,À,Yf,beq_eq_false_iff_ne.2 (λe=>hn (.inl e)),beq_eq_false_iff_ne.2 (λe=>hn (.inr (.inl e))),beq_eq_false_iff_ne.2 (λe=>hn (.inr (.inr (.inl e)))),beq_eq_false_iff_ne.2 (λe=>hn (.inr (.inr (.inr e))))⟩)
   .exact .inr (.inl ⟨h1,À,Yf⟩)
  .exact .inl À
 clear ht
 rcases Wt with h1|⟨h1,h1i,Yf⟩|⟨h1,h1i,Yf,n1,n2,n3,n4⟩
 all_goals
  go_enter func89,ntmps89;go_wp2_with fail;have hSs:=GO;have TZ:=hid RH;rw[show(⟨#[60,62,61,43,45,42,47,37,40,41,123,125,59]⟩:ByteArray)=zh from rfl];generalize zh=S at*
  go_loopw [6] (λn wr=>∃j:Nat,j<=13/\Hid (∀q,q<j->qU[q]?≠Y s[i])/\n=I O j/\Hid (ω w wr)) (λn _=>13-(intOf n).toNat)
  case atStart=>exact⟨0,Ì,λq hq=>absurd hq (Nat.not_lt_zero _),rfl,Å⟩
  case round=>
   obtain⟨j,hj,hm,rfl,hB⟩:=hrel;by_cases Ga:j<13
   .have wJ:(j:Int)<(S.size:Int):=À
    have Uo:j<S.size:=À;have hSi:(S.size:Int)=13:=À;by_cases he:(s[i].toNat:Int)=(S[j].toNat:Int)
    .have hE:Hid (bM (s.data.toList.drop i)=1):=by
      unfold Hid;rw[aW.out,Á];have h2:=TZ.out j Uo;have h3:s[i]=S[j]:=ç.1 À;rw[h3];exact Ù h2
     go_wp2_with fail
     go_region_with (fail)
     all_goals
      go_wp2_with fail;go_ret;exact⟨by rw[hE.out];rfl,hB.drew⟩
    .have hM:Hid (∀q,q<j+1->qU[q]?≠Y s[i]):=by
      intro q hq e;by_cases Y8:q=j
      .subst Y8
       rw[TZ.out q Uo]at e;apply he;have:S[q]=s[i]:=Ï e;rw[this]
      .exact hm.out q À e
     go_wp2_with fail
     go_region_with (fail)
     all_goals
      go_wp2_with fail;exact⟨⟨j+1,À,hM,by go_num,hB.drew⟩,by simp[intOf];omega⟩
   .have wJ:¬(j:Int)<(S.size:Int):=À
    have hE:Hid (bM (s.data.toList.drop i)=0):=by unfold Hid;rw[aW.out,Â];intro abh;obtain⟨q,hq⟩:=List.getElem?_of_mem abh;refine hm.out q ?_ hq;have:=(Í.1 hq).1;have h13:qU.length=13:=rfl;omega
    go_wp2_with fail;go_ret;exact⟨by rw[hE.out];rfl,hB.out⟩
theorem D9(s:ByteArray)(i:Nat)(h:i<s.size)(hs:s.size<=400)(w:Wd) :
  Calls prog 89 #[χ s,I O i] w λe w'=>e=υ (I O (bM (s.data.toList.drop i)))/\ω w w':=by
 by_cases ht:(∃h1:i+1<s.size,s[i+1].toNat=61)/\s[i]∈wR
 .have aW:Hid (bM (s.data.toList.drop i)=2):=by unfold Hid;rw[ts s i h,Á ht]
  obtain⟨⟨h1,Yf⟩,hm⟩:=ht;have h1i:(i:Int)+1<(s.size:Int):=À;have abp:(s[i+1].toNat:Int)=61:=À;have WD:(i:Int)<(s.size:Int):=À;rw[Fm]at hm
  rcases(show(s[i].toNat:Int)=60∨(¬(s[i].toNat:Int)=60/\(s[i].toNat:Int)=62)∨(¬(s[i].toNat:Int)=60/\¬(s[i].toNat:Int)=62/\(s[i].toNat:Int)=61)∨(¬(s[i].toNat:Int)=60/\¬(s[i].toNat:Int)=62/\¬(s[i].toNat:Int)=61/\(s[i].toNat:Int)=33) from À) with k1|⟨k1,k2⟩|⟨k1,k2,k3⟩|⟨k1,k2,k3,k4⟩
  all_goals
   clear hm Yf;go_enter func89,ntmps89;go_wp2_with fail;go_ret;exact⟨by rw[aW.out];rfl,Å⟩
 .exact Hv s i h hs w ht
theorem AP{p:UInt8->Bool}(h:dp p (s.data.toList.drop k) j)(hk:k+j<s.size)(hp:p s[k+j]=true):dp p (s.data.toList.drop k) (j+1):=by
 intro q c hq hc;by_cases e:q=j
 .subst e
  rw[List.getElem?_drop,byte_at s (k+q) hk]at hc;cases hc;exact hp
 .exact h q c À hc
theorem qt{p:UInt8->Bool}(h:dp p (s.data.toList.drop k) j)(hkj:k+j<=s.size)(hp:∀hk:k+j<s.size,p s[k+j]=false):bT p (s.data.toList.drop k)=j:=by
 refine jD p _ j ?_ h (λc hc=>?_)
 .rw[List.length_drop];have:s.data.toList.length=s.size:=Ä
  omega
 .rw[List.getElem?_drop]at hc
  by_cases hk:k+j<s.size
  .rw[byte_at s _ hk]at hc
   cases hc;exact hp hk
  .rw[qC s _ hk]at hc;cases hc
theorem Lh{er:Int}(hb:Bk w b (cu s i a t pb o er) 198)(h1:ω w w1)(i' a':Int)(t':ByteArray) :
  (((w1.setCell ⟨b,2,M⟩ (I O a')).setCell ⟨b,3,M⟩ (χ t')).setCell ⟨b,1,M⟩ (I O i')).heap[b]?=Y (L (cu s i' a' t' pb o er) 198)/\oy b w (((w1.setCell ⟨b,2,M⟩ (I O a')).setCell ⟨b,3,M⟩ (χ t')).setCell ⟨b,1,M⟩ (I O i')):=by
 have F5:w1.heap[b]?=Y (L (cu s i a t pb o er) 198):=by rw[h1.block _ (ah hb)];exact hb
 refine⟨?_,(((oy.aF h1).setCell (p:=⟨b,2,M⟩) (.inl rfl) _).setCell (p:=⟨b,3,M⟩) (.inl rfl) _).setCell (p:=⟨b,1,M⟩) (.inl rfl) _⟩;rw[ai (ai (ai F5 2 (I O a')) 3 (χ t')) 1 (I O i')];rfl
theorem Ej{er:Int}(hb:Bk w b (cu s i a t pb o er) 198)(h1:ω w w1) :
  w1.cell? ⟨b,0,M⟩=Y (χ s)/\w1.cell? ⟨b,1,M⟩=Y (I O i)/\w1.cell? ⟨b,2,M⟩=Y (I O a)/\w1.cell? ⟨b,3,M⟩=Y (χ t)/\w1.frozen? ⟨b,1,M⟩=false/\w1.frozen? ⟨b,2,M⟩=false/\w1.frozen? ⟨b,3,M⟩=false:=by
 have F5:w1.heap[b]?=Y (L (cu s i a t pb o er) 198):=by rw[h1.block _ (ah hb)];exact hb
 exact⟨cell_of F5 0 rfl,cell_of F5 1 rfl,cell_of F5 2 rfl,cell_of F5 3 rfl,ay F5 1,ay F5 2,ay F5 3⟩
theorem ï{er:Int}{a k:Nat}(hb:Bk w b (cu s i at_ t pb o er) 198)(h1:ω w w1)(hk:k<=s.size)(im:Sp.skip (s.data.toList.drop a)=s.data.toList.drop k)(hj:bh (s.data.toList.drop k)=j)(hi:ii=(k:Int)+j)(hx:x=s.extract k (k+j)) :
  (((w1.setCell ⟨b,2,M⟩ (I O (k:Int))).setCell ⟨b,3,M⟩ (χ x)).setCell ⟨b,1,M⟩ (I O ii)).heap[b]?=Y (L (cu s ((s.size-(Sp.skip (s.data.toList.drop a)).length+bh (Sp.skip (s.data.toList.drop a)):Nat):Int) ((s.size-(Sp.skip (s.data.toList.drop a)).length:Nat):Int) ⟨(Sp.tok (Sp.skip (s.data.toList.drop a))).toArray⟩ pb o er) 198)/\oy b w (((w1.setCell ⟨b,2,M⟩ (I O (k:Int))).setCell ⟨b,3,M⟩ (χ x)).setCell ⟨b,1,M⟩ (I O ii)):=by
 have e:=Be s k hk;unfold om at e;have hl:s.size-(s.data.toList.drop k).length=k:=by
  rw[List.length_drop];have:s.data.toList.length=s.size:=Ä;omega
 have e3:(⟨(Sp.tok (s.data.toList.drop k)).toArray⟩:ByteArray)=s.extract k (k+j):=by rw[hj]at e;have:=Ë (λx:Array Value=>x[2]?) e;simpa using this
 rw[im,hl,hj,e3];have h2:=Lh hb h1 ii (k:Int) x;subst hx;rw[hi]at h2⊢;exact h2
theorem vH{er:Int}(a:Nat)(hb:Bk w b (cu s (a:Int) at_ t pb o er) 198)(ha:a<=s.size)(hs:s.size<=400) :
  Calls prog 55 #[ρ (Y ⟨b,0,M⟩)] w λe w'=>e=υ (φ #[]) /\
   w'.heap[b]?=Y (L (cu s ((s.size-(Sp.skip (s.data.toList.drop a)).length+bh (Sp.skip (s.data.toList.drop a)):Nat):Int) ((s.size-(Sp.skip (s.data.toList.drop a)).length:Nat):Int) ⟨(Sp.tok (Sp.skip (s.data.toList.drop a))).toArray⟩ pb o er) 198)/\oy b w w':=by
 have c1:=cell_of hb 1 (v:=I O (a:Int)) rfl;have HB:=hid hb;clear hb;go_enter func55,ntmps55;go_wp2_with fail;clear c1
 go_loopw [2] (λn wr=>∃k:Nat,k<=s.size/\Hid (j8 s.data.toList a k)/\n=I O k/\Hid (ω w wr)) (λn _=>s.size-(intOf n).toNat)
 case atStart=>exact⟨a,ha,rfl,rfl,Å⟩
 case round=>
  obtain⟨k,hk,hm,rfl,hB⟩:=hrel;obtain⟨c0,c1,c2,c3,f1,f2,f3⟩:=Ej HB.out hB.out;by_cases df:k<s.size
  .have hki:(k:Int)<(s.size:Int):=À
   by_cases MS:(s[k].toNat:Int)=32
   .have tZ:Hid (j8 s.data.toList a (k+1)):=hm.succ df ((kT _).2 (.inl MS))
    go_wp2_with fail;exact⟨⟨k+1,À,tZ,by go_num,hB⟩,by simp[intOf];omega⟩
   .have abj:((s[k].toNat:Int)==32)=false:=by simpa using MS
    by_cases gW:(s[k].toNat:Int)=10
    .have tZ:Hid (j8 s.data.toList a (k+1)):=hm.succ df ((kT _).2 (.inr gW))
     go_wp2_with fail;exact⟨⟨k+1,À,tZ,by go_num,hB⟩,by simp[intOf];omega⟩
    .have aa8:((s[k].toNat:Int)==10)=false:=by simpa using gW
     have im:Hid (Sp.skip (s.data.toList.drop a)=s.data.toList.drop k):=hm.stop (λ_=>by
      cases hb:ov s[k]
      .rfl
      .exact absurd ((kT _).1 hb) (λh=>h.elim MS gW))
     clear hm;have MV:Hid (bh (s.data.toList.drop k)=if Sp.isLet s[k] then bT Sp.isLet (s.data.toList.drop k) else if bC s[k] then bT bC (s.data.toList.drop k) else bM (s.data.toList.drop k)):=by unfold Hid;rw[drop_cons s k df,eN]
     by_cases hL:Sp.isLet s[k]=true
     .go_wp2_with fail
      refine(ij _ _).mono ?_;rintro e w'⟨rfl,rfl⟩;rw[hL];go_wp2_with fail
      go_loopw [3] (λn wx=>∃j:Nat,k+j<=s.size/\Hid (dp Sp.isLet (s.data.toList.drop k) j)/\n=I O ((k+j:Nat):Int)/\wx=w') (λn _=>s.size-(intOf n).toNat)
      case atStart=>exact⟨0,À,(λq c hq _=>absurd hq (Nat.not_lt_zero _)),rfl,rfl⟩
      case round=>
       obtain⟨j,hj,hM,rfl,rfl⟩:=hrel;by_cases Ga:k+j<s.size
       .have wJ:((k+j:Nat):Int)<(s.size:Int):=À
        by_cases hJ:Sp.isLet s[k+j]=true
        .have hM1:Hid (dp Sp.isLet (s.data.toList.drop k) (j+1)):=AP hM.out Ga hJ
         go_wp2_with fail;refine(ij _ _).mono ?_;rintro e w'⟨rfl,rfl⟩;rw[hJ];go_wp2_with fail;exact⟨⟨j+1,À,hM1,by go_num,trivial⟩,by simp[intOf];omega⟩
        .have ZM:Sp.isLet s[k+j]=false:=by simpa using hJ
         have hN:Hid (bh (s.data.toList.drop k)=j):=by unfold Hid;rw[MV.out,Á hL];exact qt hM.out hj (λ_=>ZM)
         go_wp2_with fail;refine(ij _ _).mono ?_;rintro e w'⟨rfl,rfl⟩;rw[ZM];go_wp2_with fail
         go_end0
         exact⟨rfl,ï HB.out hB.out hk im.out hN.out À (by first|rfl|simp)⟩
       .have wJ:¬((k+j:Nat):Int)<(s.size:Int):=À
        have hN:Hid (bh (s.data.toList.drop k)=j):=by unfold Hid;rw[MV.out,Á hL];exact qt hM.out hj (λh=>absurd h Ga)
        go_wp2_with fail
        go_end0
        exact⟨rfl,ï HB.out hB.out hk im.out hN.out À (by first|rfl|simp)⟩
     .have hL0:Sp.isLet s[k]=false:=by simpa using hL
      by_cases hD:bC s[k]=true
      .go_wp2_with fail
       refine(ij _ _).mono ?_;rintro e w'⟨rfl,rfl⟩;rw[hL0];go_wp2_with fail;refine(gV _ _).mono ?_;rintro e w'⟨rfl,rfl⟩;rw[hD];go_wp2_with fail
       go_loopw [3] (λn wx=>∃j:Nat,k+j<=s.size/\Hid (dp bC (s.data.toList.drop k) j)/\n=I O ((k+j:Nat):Int)/\wx=w') (λn _=>s.size-(intOf n).toNat)
       case atStart=>exact⟨0,À,(λq c hq _=>absurd hq (Nat.not_lt_zero _)),rfl,rfl⟩
       case round=>
        obtain⟨j,hj,hM,rfl,rfl⟩:=hrel;by_cases Ga:k+j<s.size
        .have wJ:((k+j:Nat):Int)<(s.size:Int):=À
         by_cases hJ:bC s[k+j]=true
         .have hM1:Hid (dp bC (s.data.toList.drop k) (j+1)):=AP hM.out Ga hJ
          go_wp2_with fail;refine(gV _ _).mono ?_;rintro e w'⟨rfl,rfl⟩;rw[hJ];go_wp2_with fail;exact⟨⟨j+1,À,hM1,by go_num,trivial⟩,by simp[intOf];omega⟩
         .have ZM:bC s[k+j]=false:=by simpa using hJ
          have hN:Hid (bh (s.data.toList.drop k)=j):=by unfold Hid;rw[MV.out,Â hL,Á hD];exact qt hM.out hj (λ_=>ZM)
          go_wp2_with fail;refine(gV _ _).mono ?_;rintro e w'⟨rfl,rfl⟩;rw[ZM];go_wp2_with fail
          go_end0
          exact⟨rfl,ï HB.out hB.out hk im.out hN.out À (by first|rfl|simp)⟩
        .have wJ:¬((k+j:Nat):Int)<(s.size:Int):=À
         have hN:Hid (bh (s.data.toList.drop k)=j):=by unfold Hid;rw[MV.out,Â hL,Á hD];exact qt hM.out hj (λh=>absurd h Ga)
         go_wp2_with fail
         go_end0
         exact⟨rfl,ï HB.out hB.out hk im.out hN.out À (by first|rfl|simp)⟩
      .have hD0:bC s[k]=false:=by simpa using hD
       have hN:Hid (bh (s.data.toList.drop k)=bM (s.data.toList.drop k)):=by unfold Hid;rw[MV.out,Â hL,Â hD]
       have jm:Hid (k+bM (s.data.toList.drop k)<=s.size):=by have:=vN s k hk;unfold Hid;rw[hN.out]at this;exact this
       go_wp2_with fail;refine(ij _ _).mono ?_;rintro e w'⟨rfl,rfl⟩;rw[hL0];go_wp2_with fail;refine(gV _ _).mono ?_;rintro e w'⟨rfl,rfl⟩;rw[hD0];go_wp2_with fail;refine(D9 s k df hs _).mono ?_;rintro e w1⟨rfl,hB1⟩;have hB2:Hid (ω w w1):=hB.trans (hB1.mono hB.size);obtain⟨c0',c1',c2',Ze,f1',f2',f3'⟩:=Ej HB.out hB2.out;generalize bM (s.data.toList.drop k)=j at*;have hr:=jm.out;clear c0 c1 c2 c3 f1 f2 f3 hB1;go_wp2_with fail
       go_end0
       exact⟨rfl,ï HB.out hB2.out hk im.out hN.out À (by first|rfl|simp)⟩
  .have hki:¬(k:Int)<(s.size:Int):=À
   have im:Hid (Sp.skip (s.data.toList.drop a)=s.data.toList.drop k):=hm.stop (λh=>absurd h df);have hN:Hid (bh (s.data.toList.drop k)=0):=by unfold Hid;rw[ê (by simp;omega)];rfl
   clear hm;go_wp2_with fail
   go_end0
   exact⟨rfl,ï HB.out hB.out hk im.out hN.out À (by first|rfl|simp)⟩
theorem mG.ext{p:FP}(h:mG base pb p w)(x:oy b w w')(h1:b≠pb)(h2:p.nv.ownBlock≠Y b)(h3:p.qv.ownBlock≠Y b):mG base pb p w':=
 ⟨by rw[x.block _ (ah h.aV) (Ne.symm h1)];exact h.aV,aY h.kQ (λg hg=>x.block g (bk h.kQ g hg).2.1 (λe=>h2 (by rw[<-e];exact hg))),aY h.lU (λg hg=>x.block g (bk h.lU g hg).2.1 (λe=>h3 (by rw[<-e];exact hg))),h.ge,h.n5,h.q5⟩
theorem FK.Di{p:FP}(x:oy b w w'):FK b pb p p w w':=
 ⟨x.os,x.tape,x.output,x.size,λ_ h=>.inl h,λ_ h=>.inl h,λk hk h1 _ _ _=>x.block k hk h1⟩
theorem lM:(198:TypeId)≠200/\(198:TypeId)≠3:=É
def FX(base b pb:Nat)(s:ByteArray)(r:Except (Nat×Nat) Sp.Bs)(o:Int)(p:FP)(w:Wd):Prop:=match r with
 |.ok l=>FR base b pb s l o p w
 |.error e=>FE base b pb s e p w
theorem FR.drop_eq{p:FP}(h:FR base b pb s l o p w):s.data.toList.drop (s.size-l.length+bh l)=l.drop (bh l):=by
 obtain⟨t,ht⟩:=h.suf;have e:s.size=t.length+l.length:=by
  have:s.data.toList.length=s.size:=Ä;rw[<-this,<-ht];simp
 rw[<-ht,e,show t.length+l.length-l.length+bh l=t.length+bh l by omega,<-List.drop_drop];simp
theorem FR.ext{p:FP}(h:FR base b pb s l o p w)(x:oy b w w')(hb:w'.heap[b]?=Y (L (cu s ((s.size-l'.length+bh l':Nat):Int) ((s.size-l'.length:Nat):Int) ⟨(Sp.tok l').toArray⟩ pb o' 0) 198))(hl:l' <:+ s.data.toList):FR base b pb s l' o' p w':=
 ⟨hb,h.prog.ext x h.ne (h.prog.dX h.aV lM).1 (h.prog.dX h.aV lM).2,hl,h.sz,h.ge,h.ne⟩
theorem FR.fe{p:FP}(h:FR base b pb s l o p w)(x:oy b w w')(er:Nat)(hb:w'.heap[b]?=Y (L (cu s ((s.size-l.length+bh l:Nat):Int) ((s.size-l.length:Nat):Int) ⟨(Sp.tok l).toArray⟩ pb o er) 198))(he:er≠0):FE base b pb s (er,l.length) p w':=
 ⟨⟨_,_,_,hb,by have:=h.len;have:=h.sz;omega⟩,h.prog.ext x h.ne (h.prog.dX h.aV lM).1 (h.prog.dX h.aV lM).2,he,h.ge,h.ne⟩
theorem FE.ext{p:FP}(h:FE base b pb s er p w)(x:oy b w w')(hb:∃(i:Int) (l:Sp.Bs) (o:Int),w'.heap[b]?=Y (L (cu s i ((s.size-er.2:Nat):Int) ⟨(Sp.tok l).toArray⟩ pb o er.1) 198)/\l.length<=400):FE base b pb s er p w':=by obtain⟨_,_,_,Tj,_⟩:=h.aV;exact⟨hb,h.prog.ext x h.ne (h.prog.dX Tj lM).1 (h.prog.dX Tj lM).2,h.nz,h.ge,h.ne⟩
theorem tA(i:Nat)(u:Value):oy b w (w.setCell ⟨b,i,M⟩ u):=(oy.refl b w).setCell (p:=⟨b,i,M⟩) (.inl rfl) u
theorem Ka{er:Int}(hb:Bk w b (cu s i a t pb o er) 198)(o':Int):(w.setCell ⟨b,5,M⟩ (I O o')).heap[b]?=Y (L (cu s i a t pb o' er) 198):=by rw[ai hb 5 (I O o')];rfl
theorem UT{er:Int}(hb:Bk w b (cu s i a t pb o er) 198)(e':Int):(w.setCell ⟨b,6,M⟩ (I O e')).heap[b]?=Y (L (cu s i a t pb o e') 198):=by rw[ai hb 6 (I O e')];rfl
theorem J9{t:Sp.Bs}(h:Sp.tok l≠t):(Sp.tok l==t)=false:=by simpa using h
theorem JC{t:Sp.Bs}(h:Sp.tok l=t):(Sp.tok l==t)=true:=by simpa using h
theorem ek{p:FP}(h:FR base b pb s l o p w) :
  Calls prog 55 #[ρ (Y ⟨b,0,M⟩)] w λe w'=>e=υ (φ #[])/\FR base b pb s (Sp.next l) o p w'/\FK b pb p p w w':=by
 have hl:=h.len;have ht:=fY l;refine(vH (s.size-l.length+bh l) h.aV À h.sz).mono ?_;rintro e w'⟨rfl,hb,hx⟩;rw[h.drop_eq]at hb;exact⟨rfl,h.ext hx hb ((pJ l).trans h.suf),FK.Di hx⟩
theorem pP{p:FP}(h:FR base b pb s l o p w)(er:Nat)(he:er≠0)(ei:Int)(hei:ei=er) :
  Calls prog 57 #[ρ (Y ⟨b,0,M⟩),I O ei] w λe w'=>e=υ (φ #[])/\FE base b pb s (er,l.length) p w'/\FK b pb p p w w':=by
 subst hei;have c6:=cell_of h.aV 6 (v:=I O 0) rfl;have f6:=ay h.aV 6;have x:=tA (b:=b) (w:=w) 6 (I O (er:Int));have H:=h.fe x er (UT h.aV _) he;go_enter func57,ntmps57;go_wp2_with fail
 go_end0
 exact⟨rfl,H,FK.Di x⟩
theorem YO{p:FP}(h:FE base b pb s er p w)(ei:Int) :
  Calls prog 57 #[ρ (Y ⟨b,0,M⟩),I O ei] w λe w'=>e=υ (φ #[])/\w'=w:=by
 obtain⟨i,l0,o,hb,Ym⟩:=h.aV;have c6:=cell_of hb 6 (v:=I O er.1) rfl;have hz:((er.1:Int)==0)=false:=by have:=h.nz;simp;omega
 have ff:¬((er.1:Int)=0):=by have:=h.nz;omega
 clear h hb;generalize (er.1:Int)=q at*;go_enter func57,ntmps57;go_wp2_with fail
 go_end0
 exact⟨rfl,rfl⟩
theorem Cj{p:FP}(h:FE base b pb s er p w)(t:ByteArray) :
  Calls prog 127 #[ρ (Y ⟨b,0,M⟩),χ t] w λe w'=>e=υ (φ #[])/\w'=w:=by
 obtain⟨i,l0,o,hb,Ym⟩:=h.aV;have c6:=cell_of hb 6 (v:=I O er.1) rfl;have hz:((er.1:Int)==0)=false:=by have:=h.nz;simp;omega
 have ff:¬((er.1:Int)=0):=by have:=h.nz;omega
 clear h hb;generalize (er.1:Int)=q at*;go_enter func127,ntmps127;go_wp2_with fail
 ((try simp only[Exit.inBlock,Exit.then]);refine Ç (results_none rfl _ _ _) rfl ?_)
 exact⟨rfl,rfl⟩
theorem Dk{p:FP}(h:FR base b pb s l o p w)(t:Sp.Bs) :
  Calls prog 127 #[ρ (Y ⟨b,0,M⟩),χ ⟨t.toArray⟩] w λe w'=>e=υ (φ #[])/\FX base b pb s (Sp.take t l) o p w'/\FK b pb p p w w':=by
 have c6:=cell_of h.aV 6 (v:=I O 0) rfl;have c3:=cell_of h.aV 3 (v:=χ ⟨(Sp.tok l).toArray⟩) rfl;by_cases ht:Sp.tok l=t
 .have δ:Hid (Sp.take t l=.ok (Sp.next l)):=by unfold Hid Sp.take;rw[Á ht]
  have Tm:=JC ht;go_enter func127,ntmps127;go_wp2_with fail;refine(ek h).mono ?_;rintro e w1⟨rfl,h1,k1⟩;go_wp2_with fail
  go_end0
  exact⟨rfl,by rw[δ.out];exact h1,k1⟩
 .have δ:Hid (Sp.take t l=.error (2,l.length)):=by unfold Hid Sp.take;rw[Â ht];rfl
  have Tm:=J9 ht;go_enter func127,ntmps127;go_wp2_with fail;refine(pP h 2 É 2 rfl).mono ?_;rintro e w1⟨rfl,h1,k1⟩;go_wp2_with fail
  ((try simp only[Exit.inBlock,Exit.then]);refine Ç (results_none rfl _ _ _) rfl ?_)
  exact⟨rfl,by rw[δ.out];exact h1,k1⟩
theorem tF{r:Except (Nat × Nat) Sp.Bs}{p:FP}(h:FX base b pb s r o p w)(t:Sp.Bs) :
  Calls prog 127 #[ρ (Y ⟨b,0,M⟩),χ ⟨t.toArray⟩] w λe w'=>e=υ (φ #[])/\FX base b pb s (r.bind (Sp.take t)) o p w'/\FK b pb p p w w':=by
 cases r with
 |ok l=>exact Dk h t
 |error e=>refine(Cj (show FE base b pb s e p w from h) _).mono ?_;rintro _ _⟨rfl,rfl⟩;exact⟨rfl,h,FK.refl _ _ _ _⟩
theorem FX.nm{r:Except (Nat × Nat) Sp.Bs}{p:FP}(h:FX base b pb s r o p w)(_d:Int) :
  ∃q:Int,w.cell? ⟨b,5,M⟩=Y (I O q)/\w.frozen? ⟨b,5,M⟩=false/\(∀l,r=.ok l->q=o)/\(∀q' o':Int,(∀l,r=.ok l->q'=o')->FX base b pb s r o' p (w.setCell ⟨b,5,M⟩ (I O q'))/\FK b pb p p w (w.setCell ⟨b,5,M⟩ (I O q'))):=by
 cases r with
 |ok l=>have h':FR base b pb s l o p w:=h;refine⟨o,cell_of h'.aV 5 rfl,ay h'.aV 5,λ_ _=>rfl,?_⟩;intro q' o' hq;have:=hq l rfl;subst this;exact⟨h'.ext (tA 5 _) (Ka h'.aV _) h'.suf,FK.Di (tA 5 _)⟩
 |error e=>have h':FE base b pb s e p w:=h;obtain⟨i,t,q,hb,Ym⟩:=h'.aV;refine⟨q,cell_of hb 5 rfl,ay hb 5,(λ_ hh=>nomatch hh),?_⟩;intro q' o' hq;exact⟨h'.ext (tA 5 _) ⟨i,t,q',Ka hb _,Ym⟩,FK.Di (tA 5 _)⟩
theorem JU{r:Except (Nat × Nat) Sp.Bs}{o:Nat}{p:FP}(ho:o<=20)(h:FX base b pb s r ((o+1:Nat):Int) p w)(t:Sp.Bs) :
  Calls prog 171 #[ρ (Y ⟨b,0,M⟩),χ ⟨t.toArray⟩] w λe w'=>e=υ (φ #[])/\FX base b pb s (r.bind (Sp.take t)) (o:Int) p w'/\FK b pb p p w w':=by
 go_enter func171,ntmps171;go_wp2_with fail;refine(tF h t).mono ?_;rintro e w1⟨rfl,h1,k1⟩;obtain⟨q,c5,f5,hq,hs⟩:=h1.nm 0;obtain⟨h2,k2⟩:=hs (RowKit.wrap64 (q-1)) (o:Int) (λl e=>by rw[hq l e,IntWalk.wrap64_in _ À];omega);go_wp2_with fail
 go_end0
 exact⟨rfl,h2,k1.trans k2⟩
theorem CT{o:Nat}{p:FP}(ho:o<=12)(h:FR base b pb s l o p w)(t:Sp.Bs) :
  Calls prog 170 #[ρ (Y ⟨b,0,M⟩),χ ⟨t.toArray⟩] w λe w'=>e=υ (φ #[])/\FX base b pb s (Sp.enter t o l) ((o+1:Nat):Int) p w'/\FK b pb p p w w':=by
 have c6:=cell_of h.aV 6 (v:=I O 0) rfl;have c5:=cell_of h.aV 5 (v:=I O (o:Int)) rfl;have c3:=cell_of h.aV 3 (v:=χ ⟨(Sp.tok l).toArray⟩) rfl;by_cases ht:Sp.tok l=t
 .have Tm:=JC ht
  by_cases ud:o=12
  .subst ud
   have δ:Hid (Sp.enter t 12 l=.error (3,l.length)):=by unfold Hid Sp.enter;rw[Á ht,Á rfl];rfl
   go_enter func170,ntmps170;go_wp2_with fail;refine(pP h 3 É 3 rfl).mono ?_;rintro e w1⟨rfl,h1,k1⟩;go_wp2_with fail;refine(Cj h1 _).mono ?_;rintro e w2⟨rfl,rfl⟩;obtain⟨q,c5,f5,hq,hs⟩:=FX.nm (r:=.error (3,l.length)) (o:=0) h1 0;obtain⟨h2,k2⟩:=hs (RowKit.wrap64 (q+1)) ((12+1:Nat):Int) (λ_ hh=>nomatch hh);go_wp2_with fail
   go_end0
   exact⟨rfl,by rw[δ.out];exact h2,k1.trans k2⟩
  .have δ:Hid (Sp.enter t o l=Sp.take t l):=by unfold Hid Sp.enter Sp.take;rw[Á ht,Â ud,Á ht]
   have df:¬((12:Int)<=(o:Int)):=À;go_enter func170,ntmps170;go_wp2_with fail;refine(Dk h t).mono ?_;rintro e w1⟨rfl,h1,k1⟩;rw[<-δ.out]at h1;obtain⟨q,c5,f5,hq,hs⟩:=h1.nm 0;obtain⟨h2,k2⟩:=hs (RowKit.wrap64 (q+1)) ((o+1:Nat):Int) (λl e=>by rw[hq l e,IntWalk.wrap64_in _ À];omega);go_wp2_with fail
   go_end0
   exact⟨rfl,h2,k1.trans k2⟩
 .have Tm:=J9 ht
  have δ:Hid (Sp.enter t o l=Sp.take t l):=by unfold Hid Sp.enter Sp.take;rw[Â ht,Â ht]
  go_enter func170,ntmps170;go_wp2_with fail;refine(Dk h t).mono ?_;rintro e w1⟨rfl,h1,k1⟩;rw[<-δ.out]at h1;obtain⟨q,c5,f5,hq,hs⟩:=h1.nm 0;obtain⟨h2,k2⟩:=hs (RowKit.wrap64 (q+1)) ((o+1:Nat):Int) (λl e=>by rw[hq l e,IntWalk.wrap64_in _ À];omega);go_wp2_with fail
  go_end0
  exact⟨rfl,h2,k1.trans k2⟩
theorem RP{p:FP}(h:FE base b pb s er p w)(t:ByteArray) :
  Calls prog 170 #[ρ (Y ⟨b,0,M⟩),χ t] w λe w'=>e=υ (φ #[])/\FE base b pb s er p w'/\FK b pb p p w w':=by
 obtain⟨i,l0,o,hb,Ym⟩:=h.aV;have c6:=cell_of hb 6 (v:=I O er.1) rfl;have hz:((er.1:Int)==0)=false:=by have:=h.nz;simp;omega
 have ff:¬((er.1:Int)=0):=by have:=h.nz;omega
 go_enter func170,ntmps170;go_wp2_with fail;refine(Cj h t).mono ?_;rintro e w1⟨rfl,rfl⟩;obtain⟨q,c5,f5,hq,hs⟩:=FX.nm (r:=.error er) (o:=0) h 0;obtain⟨h2,k2⟩:=hs (RowKit.wrap64 (q+1)) 0 (λ_ hh=>nomatch hh);go_wp2_with fail
 go_end0
 exact⟨rfl,h2,k2⟩
theorem Rj{r:Except (Nat × Nat) Sp.Bs}{o:Nat}{p:FP}(ho:o<=12)(h:FX base b pb s r o p w)(t:Sp.Bs) :
  Calls prog 170 #[ρ (Y ⟨b,0,M⟩),χ ⟨t.toArray⟩] w λe w'=>e=υ (φ #[])/\FX base b pb s (r.bind (Sp.enter t o)) ((o+1:Nat):Int) p w'/\FK b pb p p w w':=by
 cases r with
 |ok l=>exact CT ho h t
 |error e=>exact RP (show FE base b pb s e p w from h) _
theorem Ov:(prog.info? 200).map (λi=>(i.zero,i.size,i.bytes))=Y (Y (J #[I O 0,I O 0,I O 0,I O 0,I O 0,I O 0,χ ByteArray.empty,I O 0,I O 0,U false]),10,88):=Ã
theorem El(ns:List aK)(n:aK):gL (ns++[n])=gL ns++cA n:=by unfold gL;simp
theorem OY{p:FP}(h:Bk w pb (cQ p first) 110)(v:Value)(ns:List aK):(w.setCell ⟨pb,0,M⟩ v).heap[pb]?=Y (L (cQ {p with ns:=ns,nv:=v} first) 110):=by rw[ai h 0 v];rfl
theorem mv:(110:TypeId)≠200/\(110:TypeId)≠3:=É
theorem mG.sf{p:FP}(h:mG base pb p w):∀g,p.nv.ownBlock=Y g->p.qv.ownBlock≠Y g:=by intro g hg hq;obtain⟨_,_,c,hc⟩:=bk h.kQ g hg;obtain⟨_,_,c',Ti⟩:=bk h.lU g hq;rw[hc]at Ti;cases Ti
theorem FX.OS{r:Except (Nat×Nat) Sp.Bs}{p:FP}(h:FX base b pb s r o p w):∃i a t o' er,w.heap[b]?=Y (L (cu s i a t pb o' er) 198):=by
 cases r with
 |ok l=>exact⟨_,_,_,_,_,(show FR base b pb s l o p w from h).aV⟩
 |error e=>obtain⟨i,t,o',hb,_⟩:=(show FE base b pb s e p w from h).aV;exact⟨_,_,_,_,_,hb⟩
theorem FX.prog{r:Except (Nat×Nat) Sp.Bs}{p:FP}(h:FX base b pb s r o p w):mG base pb p w:=by
 cases r with
 |ok l=>exact(show FR base b pb s l o p w from h).prog
 |error e=>exact(show FE base b pb s e p w from h).prog
theorem FX.ne{r:Except (Nat×Nat) Sp.Bs}{p:FP}(h:FX base b pb s r o p w):b≠pb:=by
 cases r with
 |ok l=>exact(show FR base b pb s l o p w from h).ne
 |error e=>exact(show FE base b pb s e p w from h).ne
theorem FX.move{r:Except (Nat×Nat) Sp.Bs}{p p':FP}(h:FX base b pb s r o p w)(hb:w'.heap[b]?=w.heap[b]?)(hp:mG base pb p' w'):FX base b pb s r o p' w':=by
 cases r with
 |ok l=>have h':FR base b pb s l o p w:=h;exact⟨by rw[hb];exact h'.aV,hp,h'.suf,h'.sz,h'.ge,h'.ne⟩
 |error e=>have h':FE base b pb s e p w:=h;exact⟨by rw[hb];exact h'.aV,hp,h'.nz,h'.ge,h'.ne⟩
theorem FX.after{r:Except (Nat×Nat) Sp.Bs}{p:FP}(h:FX base b pb s r o p w)(hb:ω w w'):FX base b pb s r o p w':=by obtain⟨_,_,_,_,_,h1⟩:=h.OS;exact h.move (hb.block _ (ah h1)) (h.prog.after hb)
theorem NQ{r:Except (Nat × Nat) Sp.Bs}{p:FP}{o:Obj}(h:FX base b pb s r oo p w)(hn:p.ns.length+1<=1000000)(n:aK)
  (kO:w1.ownsRow base 200 10 (Z (Y ⟨gg,0,M⟩) (p.ns.length+1) cap) (p.ns.length+1) (gL p.ns++cA n)) (hg:(w.alloc o).drew.grownBy w1 p.nv.ownBlock) (BP:p.nv.ownBlock=Y gg∨gg=w.heap.size+1):
  FX base b pb s r oo {p with ns:=p.ns++[n],nv:=Z (Y ⟨gg,0,M⟩) (p.ns.length+1) cap} (w1.setCell ⟨pb,0,M⟩ (Z (Y ⟨gg,0,M⟩) (p.ns.length+1) cap))/\FK b pb p {p with ns:=p.ns++[n],nv:=Z (Y ⟨gg,0,M⟩) (p.ns.length+1) cap} w (w1.setCell ⟨pb,0,M⟩ (Z (Y ⟨gg,0,M⟩) (p.ns.length+1) cap)):=by
 have hp:=h.prog;have df:=ah hp.aV;obtain⟨i,a,t,o',er,hb⟩:=h.OS;have iD:∀k,k<w.heap.size->p.nv.ownBlock≠Y k->w1.heap[k]?=w.heap[k]?:=λk hk hn=>by rw[hg.block k (by show k<(w.alloc o).heap.size;simp;omega) (λe=>hn e.symm)];exact Below.heap_alloc _ _ _ hk
 have ea:w.heap.size<=w1.heap.size:=by
  have:=hg.size;have h2:(w.alloc o).drew.heap.size=w.heap.size+1:=by show(w.alloc o).heap.size=_;simp
  omega
 have Ng:=hp.dX hp.aV mv;have eQ:=hp.dX hb lM;have tV:w1.heap[pb]?=Y (L (cQ p 0) 110):=by rw[iD pb df Ng.1];exact hp.aV
 have hpn:mG base pb {p with ns:=p.ns++[n],nv:=Z (Y ⟨gg,0,M⟩) (p.ns.length+1) cap} (w1.setCell ⟨pb,0,M⟩ (Z (Y ⟨gg,0,M⟩) (p.ns.length+1) cap)):=by
  refine⟨OY tV _ _,?_,?_,hp.ge,by simp;omega,hp.q5⟩
  .show World.ownsRow _ base 200 10 _ (p.ns++[n]).length (gL (p.ns++[n]))
   rw[El,List.length_append];exact aY kO (λg rf=>Æ _ _ _ _ (λe=>by obtain⟨_,_,c,hc⟩:=bk kO g rf;have e':g=pb:=e;rw[e',tV]at hc;cases hc))
  .refine aY hp.lU (λg rf=>?_)
   have xQ:=(bk hp.lU g rf).2.1;rw[Æ _ _ _ _ (λe=>Ng.2 (by rw[<-show g=pb from e];exact rf))];exact iD g xQ (λe=>hp.sf g e rf)
 refine⟨h.move ?_ hpn,hg.os,hg.tape,hg.output,by simp[World.setCell];omega,?_,λ_ e=>.inl e,?_⟩
 .rw[Æ _ _ _ _ h.ne]
  exact iD b (ah hb) eQ.1
 .intro g rf
  have e:gg=g:=by simpa[Value.ownBlock] using rf
  subst e
  rcases BP with h1|h1
  .exact .inl h1
  .exact .inr À
 .intro k hk _ h2 h3 _
  rw[Æ _ _ _ _ h2];exact iD k hk h3
end
attribute [local go_sem ↓] Go.wp_at_zero Go.wp_at_succ
theorem eU{base b pb:Nat}{s:ByteArray}{r:Except (Nat × Nat) Sp.Bs}{o:Int}{p:FP}{w:Wd}(h:FX base b pb s r o p w)(n:aK)(hn:p.ns.length+1<=1000000) :
  Calls prog 125 #[ρ (Y ⟨b,0,M⟩),J (cA n).toArray] w λe w'=>e=υ (I O (p.ns.length:Nat))/\∃v,FX base b pb s r o {p with ns:=p.ns++[n],nv:=v} w'/\FK b pb p {p with ns:=p.ns++[n],nv:=v} w w':=by
 obtain⟨i0,hi,Kv,kh,ff⟩:=info_parts Ov;have abg:pb<w.heap.size/\b<w.heap.size:=⟨ah h.prog.aV,by obtain⟨_,_,_,_,_,hb⟩:=h.OS;exact ah hb⟩;have hA:ω w (w.alloc (L (cA n).toArray 200)):=(Å).alloc È _;have h:=h.after hA;have kA:FK b pb p p w (w.alloc (L (cA n).toArray 200)):=FK.aF hA;have hsA:(w.alloc (L (cA n).toArray 200)).heap.size=w.heap.size+1:=Ä;obtain⟨ii,a,t,o',er,hb⟩:=h.OS;have hp:=h.prog;have c4:=cell_of hb 4 (v:=ρ (Y ⟨pb,0,M⟩)) rfl;have c0:=cell_of hp.aV 0 (v:=p.nv) rfl;have f0:=ay hp.aV 0;have I1:pb<(w.alloc (L (cA n).toArray 200)).heap.size:=ah hp.aV;have zX:b<(w.alloc (L (cA n).toArray 200)).heap.size:=ah hb;have ag:p.nv.ownBlock≠Y pb:=(hp.dX hp.aV mv).1;have ab:p.nv.ownBlock≠Y b:=(hp.dX hb lM).1;have hox:=hp.kQ;have nN:=hp.ge;have XO:p.ns.length+1<=maxLen:=by unfold maxLen;omega
 have XW:(p.ns.length+1)*88<=140737488355328:=À;have re:((w.alloc (L (cA n).toArray 200)).alloc (L (cA n).toArray 200)).heap[w.heap.size+1]?=Y (L (cA n).toArray 200):=by have:=heap_alloc_new (w.alloc (L (cA n).toArray 200)) (L (cA n).toArray 200);rw[hsA]at this;exact this
 have H:Hid (FX base b pb s r o p (w.alloc (L (cA n).toArray 200))/\FK b pb p p w (w.alloc (L (cA n).toArray 200))):=⟨h,kA⟩;have dd:(w.alloc (L (cA n).toArray 200))=(w.alloc (L #[I O n.kind,I O n.a,I O n.b,I O n.c,I O n.n,I O n.next,χ ⟨n.sign.toArray⟩,I O n.site,I O n.aA,U n.els] 200)):=rfl;have hwl:pb<w.heap.size/\b<w.heap.size:=abg;have c4w:w.cell? ⟨b,4,M⟩=Y (ρ (Y ⟨pb,0,M⟩)):=by rw[<-hA.cell (p:=⟨b,4,M⟩) hwl.2];exact c4
 have c0w:w.cell? ⟨pb,0,M⟩=Y p.nv:=by rw[<-hA.cell (p:=⟨pb,0,M⟩) hwl.1];exact c0
 rw[dd]at c4 c0 f0 I1 zX hox hsA;clear hA h kA hb hp;show Calls prog 125 #[ρ (Y ⟨b,0,M⟩),J #[I O n.kind,I O n.a,I O n.b,I O n.c,I O n.n,I O n.next,χ ⟨n.sign.toArray⟩,I O n.site,I O n.aA,U n.els]] w _;go_enter func125,ntmps125;go_wp2_with fail
 go_region_law
  ((refine step_append_lies _ Ê _ _ _ Ê base 200 i0 _ 10 88 underlying108 hi Kv kh ff rfl À p.nv p.ns.length (gL p.ns) Ê ((hox.alloc _).drew)
     ⟨w.heap.size+1,0,M⟩ 1 1 (cA n) Ê Ê (World.news_of_block (cs:=(cA n).toArray) (t:=200) (fr:=(0,0)) re) (by simp[Value.oneCell',cA])
     À XO XW (by simp;omega) (w.heap.size+1+1) Ä ?_;intro gg cap w1 tU qp BP df;have f1:w1.frozen? ⟨pb,0,M⟩=false:=(by rw[qp.frozen_far _ (by simp;omega) (Ne.symm ag)];exact sY I1 f0);have d1:w1.cell? ⟨pb,0,M⟩=Y p.nv:=(by rw[qp.cell_far _ (by simp;omega) (Ne.symm ag)];exact ox I1 c0);have d4:w1.cell? ⟨b,4,M⟩=Y (ρ (Y ⟨pb,0,M⟩)):=(by rw[qp.cell_far _ (by simp;omega) (Ne.symm ab)];exact ox zX c4)))
 all_goals
  have hr:Hid (RowKit.wrap64 ((p.ns.length:Int)+1-1)=p.ns.length):=by unfold Hid;rw[IntWalk.wrap64_in _ À];omega
  have HF:=NQ H.1 hn n tU qp (by rw[dd,hsA];exact BP);have HH:=hid HF;clear HF tU qp BP df c0 c4 c0w c4w f0 hox re dd hsA I1 zX;go_wp2_with fail;go_ret;exact⟨by go_num,_,HH.1,H.2.trans HH.2⟩
end Go.Proofs.YtiopfihjmkfdmabGreatDoor
