import Derived.Test.YtiopfihjmkfdmaaGreatDoorR5
import Derived.Test.YtiopfihjmkfdmaaGreatDoorR12
namespace Go.Proofs.YtiopfihjmkfdmaaGreatDoor
open Go.Value renaming int→I,bool→U,string→χ,pointer→ρ,tuple→φ,agg→J,slice→Z
open Go.IntKind renaming i64→O
open Option renaming none→M,some→Y
open Go.Obj renaming cells→L
open Go.Ending renaming returned→υ
open Go.Proofs.Tryz Sp
open Go.RowKit
set_option maxRecDepth 100000
set_option maxHeartbeats 16000000
section
variable{b pb base k j gg cap:Nat}
variable{w w' w1 w2:Wd}
variable{s t x:ByteArray}
variable{l l':Sp.Bs}
variable{o i a at_ ii o' first oo:Int}
variable{er:Nat × Nat}
structure nB(b:Nat)(w w':Wd):Prop where
 os:w'.os=w.os
 tape:w'.tape=w.tape
 output:w'.output=w.output
 size:w.heap.size<=w'.heap.size
 block:∀k,k<w.heap.size->k≠b->w'.heap[k]?=w.heap[k]?
theorem nB.refl(b:Nat)(w:Wd):nB b w w:=⟨rfl,rfl,rfl,Nat.le_refl _,fun _ _ _=>rfl⟩
theorem nB.setCell(h:nB b w w'){p:Addr}(hp:p.block=b∨w.heap.size<=p.block)(u:Value):nB b w (w'.setCell p u) :=
 ⟨h.os,h.tape,h.output,by have:=h.size;simp[World.setCell];omega,fun k hk hb=>by rw[Below.heap_setCell _ _ _ _ (by rcases hp with rfl | hp<;>omega)];exact h.block k hk hb⟩
theorem nB.aB(h:ω w w'):nB b w w' :=
 ⟨h.os,h.tape,h.output,h.size,fun k hk _=>h.block k hk⟩
structure aH where
 kind:Int:=0
 a:Int:=0
 b:Int:=0
 c:Int:=0
 n:Int:=0
 next:Int:=0
 sign:Sp.Bs:=[]
 site:Int:=0
 ay:Int:=0
 els:Bool:=false
def cm(x:aH):List Value:=[I O x.kind,I O x.a,I O x.b,I O x.c,I O x.n,I O x.next,χ ⟨x.sign.toArray⟩,I O x.site,I O x.ay,U x.els]
def fW(ns:List aH):List Value:=(ns.map cm).flatten
structure FP where
 ns:List aH
 ct:Int × Int
 qs:List Int
 nv:Value
 qv:Value
def cM(p:FP)(first:Int):Array Value:=#[p.nv,I O first,I O p.ct.1,I O p.ct.2,p.qv]
def cc(s:ByteArray)(i at_:Int)(t:ByteArray)(pb:Nat)(o er:Int):Array Value :=
 #[χ s,I O i,I O at_,χ t,ρ (Y ⟨pb,0,M⟩),I O o,I O er]
structure lG(base pb:Nat)(p:FP)(w:Wd):Prop where
 aT:w.heap[pb]?=Y (L (cM p 0) 105)
 jS:w.ownsRow base 176 10 p.nv p.ns.length (fW p.ns)
 kU:w.ownsRow base 3 1 p.qv p.qs.length (p.qs.map fun n=>I O n)
 ge:base<=pb
 n5:p.ns.length<=1000000
 q5:p.qs.length<=1000000
structure FR(base b pb:Nat)(s:ByteArray)(l:Sp.Bs)(o:Int)(p:FP)(w:Wd):Prop where
 aT:w.heap[b]?=Y (L (cc s ((s.size - l.length+aZ l:Nat):Int) ((s.size - l.length:Nat):Int) ⟨(Sp.tok l).toArray⟩ pb o 0) 174)
 prog:lG base pb p w
 suf:l <:+ s.data.toList
 sz:s.size<=400
 ge:base<=b
 ne:b≠pb
structure FE(base b pb:Nat)(s:ByteArray)(er:Nat × Nat)(p:FP)(w:Wd):Prop where
 aT:∃(i:Int) (l:Sp.Bs) (o:Int),w.heap[b]?=Y (L (cc s i ((s.size - er.2:Nat):Int) ⟨(Sp.tok l).toArray⟩ pb o er.1) 174)/\l.length<=400
 prog:lG base pb p w
 nz:er.1≠0
 ge:base<=b
 ne:b≠pb
structure FK(b pb:Nat)(p p':FP)(w w':Wd):Prop where
 os:w'.os=w.os
 tape:w'.tape=w.tape
 output:w'.output=w.output
 size:w.heap.size<=w'.heap.size
 jS:∀g,p'.nv.ownBlock=Y g->p.nv.ownBlock=Y g∨w.heap.size<=g
 kU:∀g,p'.qv.ownBlock=Y g->p.qv.ownBlock=Y g∨w.heap.size<=g
 block:∀k,k<w.heap.size->k≠b->k≠pb->p.nv.ownBlock≠Y k->p.qv.ownBlock≠Y k->w'.heap[k]?=w.heap[k]?
theorem FK.refl(b pb:Nat)(p:FP)(w:Wd):FK b pb p p w w:=⟨rfl,rfl,rfl,Nat.le_refl _,fun _ h=>.inl h,fun _ h=>.inl h,fun _ _ _ _ _ _=>rfl⟩
theorem FK.trans{p p1 p2:FP}(h:FK b pb p p1 w w1)(k:FK b pb p1 p2 w1 w2):FK b pb p p2 w w2:=by
 have hs:=h.size;refine⟨k.os.trans h.os,k.tape.trans h.tape,k.output.trans h.output,Nat.le_trans h.size k.size,?_,?_,?_⟩
 ·intro g hg
  rcases k.jS g hg with h1 | h1
  ·exact h.jS g h1
  ·exact .inr (by omega)
 ·intro g hg
  rcases k.kU g hg with h1 | h1
  ·exact h.kU g h1
  ·exact .inr (by omega)
 ·intro i hi h1 h2 h3 h4
  rw[k.block i (by omega) h1 h2 (fun e=>by rcases h.jS i e with e' | e';exact h3 e';omega) (fun e=>by rcases h.kU i e with e' | e';exact h4 e';omega)];exact h.block i hi h1 h2 h3 h4
theorem FK.aB{p:FP}(h:ω w w'):FK b pb p p w w' :=
 ⟨h.os,h.tape,h.output,h.size,fun _ h=>.inl h,fun _ h=>.inl h,fun k hk _ _ _ _=>h.block k hk⟩
theorem FK.below{p p':FP}(h:FK b pb p p' w w')(hp:lG base pb p w)(hb:base<=b)(hw:base<=w.heap.size):Below base w w' :=
 ⟨h.os,h.tape,h.output,h.size,fun k hk=>h.block k (by omega) (by omega) (by have:=hp.ge;omega) (fun e=>by have:=(bJ hp.jS k e).1;omega) (fun e=>by have:=(bJ hp.kU k e).1;omega)⟩
theorem FR.len{p:FP}(h:FR base b pb s l o p w):l.length<=s.size:=by have:=h.suf.length_le;simpa using this
theorem lG.dE{p:FP}(h:lG base pb p w){c:Array Value}{t:TypeId}(hb:Bk w b c t)(ht:t≠176/\t≠3):p.nv.ownBlock≠Y b/\p.qv.ownBlock≠Y b:=by
 constructor
 ·intro e
  obtain⟨_,_,c',hc⟩:=bJ h.jS b e;rw[hb]at hc;cases hc;exact ht.1 rfl
 ·intro e
  obtain⟨_,_,c',hc⟩:=bJ h.kU b e;rw[hb]at hc;cases hc;exact ht.2 rfl
theorem lG.after{p:FP}(h:lG base pb p w)(hb:ω w w'):lG base pb p w' :=
 ⟨by rw[hb.block _ (ad h.aT)];exact h.aT,aY h.jS (fun g hg=>hb.block g (bJ h.jS g hg).2.1),aY h.kU (fun g hg=>hb.block g (bJ h.kU g hg).2.1),h.ge,h.n5,h.q5⟩
theorem gE(c:UInt8)(w:Wd):Calls prog 95 #[I .u8 c.toNat] w fun e w'=>e=υ (U (Sp.isLet c))/\w'=w:=by
 go_enter func95,ntmps95
 go_wp2
 all_goals
  go_ret;exact⟨eK (by unfold Sp.isLet;rw[Bool.eq_iff_iff];simp;omega),rfl⟩
theorem gr(c:UInt8)(w:Wd):Calls prog 96 #[I .u8 c.toNat] w fun e w'=>e=υ (U (bx c))/\w'=w:=by
 go_enter func96,ntmps96
 go_wp2
 all_goals
  go_ret;exact⟨eK (by unfold bx;rw[Bool.eq_iff_iff];simp;omega),rfl⟩
def vN:ByteArray:=⟨#[60,62,61,43,45,42,47,37,40,41,123,125,59]⟩
theorem Fl:vN.size=13:=rfl
theorem ET:vN.data.toList=pG:=rfl
theorem drop_cons(s:ByteArray)(i:Nat)(h:i<s.size):s.data.toList.drop i=s[i] :: s.data.toList.drop (i+1):=by rw[List.drop_eq_getElem_cons (by simpa using h)];rfl
theorem ru(s:ByteArray)(i:Nat)(h:i<s.size):bG (s.data.toList.drop i)=if(∃h1:i+1<s.size,s[i+1].toNat=61)/\s[i]∈uQ then 2 else if s[i]∈pG then 1 else 0:=by
 rw[drop_cons s i h,jJ];have e:(s.data.toList.drop (i+1)).head?=Y 61↔∃h1:i+1<s.size,s[i+1].toNat=61:=by
  by_cases h1:i+1<s.size
  ·rw[drop_cons s (i+1) h1]
   simp only[List.head?_cons,Option.some.injEq];constructor
   ·intro e;exact⟨h1,by rw[e];rfl⟩
   ·rintro⟨_,e⟩;exact UInt8.toNat_inj.1 e
  ·rw[List.drop_of_length_le (by simpa using h1)]
   simp[h1]
 by_cases hc:(∃h1:i+1<s.size,s[i+1].toNat=61)/\s[i]∈uQ
 ·rw[if_pos hc,if_pos ⟨e.2 hc.1,hc.2⟩]
 ·rw[if_neg hc,if_neg (fun k=>hc ⟨e.1 k.1,k.2⟩)]
theorem Co(c:UInt8):c∈uQ↔((c.toNat:Int)=60∨(c.toNat:Int)=62∨(c.toNat:Int)=61∨(c.toNat:Int)=33):=by unfold uQ;simp only[List.mem_cons,List.not_mem_nil,or_false,<-UInt8.toNat_inj];show c.toNat=60∨c.toNat=62∨c.toNat=61∨c.toNat=33↔_;omega
theorem P6(j:Nat)(h:j<vN.size):pG[j]?=Y vN[j]:=by have:=byte_at vN j h;rw[<-ET];exact this
theorem Et(s:ByteArray)(i:Nat)(h:i<s.size)(hs:s.size<=400)(w:Wd)(ht:¬ ((∃h1:i+1<s.size,s[i+1].toNat=61)/\s[i]∈uQ)) :
  Calls prog 97 #[χ s,I O i] w fun e w'=>e=υ (I O (bG (s.data.toList.drop i)))/\ω w w':=by
 have aS:Hid (bG (s.data.toList.drop i)=if s[i]∈pG then 1 else 0):=by unfold Hid;rw[ru s i h,if_neg ht]
 have XT:(i:Int)<(s.size:Int):=by omega
 have Tl:(¬ (i:Int)+1<(s.size:Int))∨(∃h1:i+1<s.size,(i:Int)+1<(s.size:Int)/\¬ (s[i+1].toNat:Int)=61)∨(∃h1:i+1<s.size,(i:Int)+1<(s.size:Int)/\(s[i+1].toNat:Int)=61/\((s[i].toNat:Int) == 60)=false/\((s[i].toNat:Int) == 62)=false/\((s[i].toNat:Int) == 61)=false/\((s[i].toNat:Int) == 33)=false):=by
  by_cases h1:i+1<s.size
  ·by_cases Uy:(s[i+1].toNat:Int)=61
   ·have hn:¬ s[i]∈uQ:=fun k=>ht ⟨⟨h1,by omega⟩,k⟩
    rw[Co]at hn;exact .inr (.inr ⟨h1,by omega,Uy,beq_eq_false_iff_ne.2 (fun e=>hn (.inl e)),beq_eq_false_iff_ne.2 (fun e=>hn (.inr (.inl e))),beq_eq_false_iff_ne.2 (fun e=>hn (.inr (.inr (.inl e)))),beq_eq_false_iff_ne.2 (fun e=>hn (.inr (.inr (.inr e))))⟩)
   ·exact .inr (.inl ⟨h1,by omega,Uy⟩)
  ·exact .inl (by omega)
 clear ht
 rcases Tl with h1 | ⟨h1,Z2,Uy⟩ | ⟨h1,Z2,Uy,n1,n2,n3,n4⟩
 all_goals
  go_enter func97,ntmps97;go_wp2_with fail;have hSs:=Fl;have Rr:=hid P6;rw[show(⟨#[60,62,61,43,45,42,47,37,40,41,123,125,59]⟩:ByteArray)=vN from rfl];generalize vN=S at *
  go_loopw [6] (fun n wr=>∃j:Nat,j<=13/\Hid (∀q,q<j->pG[q]?≠Y s[i])/\n=I O j/\Hid (ω w wr)) (fun n _=>13 - (intOf n).toNat)
  case atStart=>exact⟨0,Nat.zero_le _,fun q hq=>absurd hq (Nat.not_lt_zero _),rfl,Below.refl _ _⟩
  case round =>
   obtain⟨j,hj,hm,rfl,hB⟩:=hrel;by_cases Gm:j<13
   ·have yf:(j:Int)<(S.size:Int):=by omega
    have RC:j<S.size:=by omega
    have hSi:(S.size:Int)=13:=by omega
    by_cases he:(s[i].toNat:Int)=(S[j].toNat:Int)
    ·have hE:Hid (bG (s.data.toList.drop i)=1):=by
      unfold Hid;rw[aS.out,if_pos];have h2:=Rr.out j RC;have h3:s[i]=S[j]:=UInt8.toNat_inj.1 (by omega);rw[h3];exact List.mem_of_getElem? h2
     go_wp2_with fail
     go_region_with (fail)
     all_goals
      go_wp2_with fail;go_ret;exact⟨by rw[hE.out];rfl,hB.drew⟩
    ·have hM:Hid (∀q,q<j+1->pG[q]?≠Y s[i]):=by
      intro q hq e;by_cases Wq:q=j
      ·subst Wq
       rw[Rr.out q RC]at e;apply he;have:S[q]=s[i]:=Option.some.inj e;rw[this]
      ·exact hm.out q (by omega) e
     go_wp2_with fail
     go_region_with (fail)
     all_goals
      go_wp2_with fail;exact⟨⟨j+1,by omega,hM,by go_num,hB.drew⟩,by simp[intOf];omega⟩
   ·have yf:¬ (j:Int)<(S.size:Int):=by omega
    have hE:Hid (bG (s.data.toList.drop i)=0):=by unfold Hid;rw[aS.out,if_neg];intro aah;obtain⟨q,hq⟩:=List.getElem?_of_mem aah;refine hm.out q ?_ hq;have:=(List.getElem?_eq_some_iff.1 hq).1;have h13:pG.length=13:=rfl;omega
    go_wp2_with fail;go_ret;exact⟨by rw[hE.out];rfl,hB.out⟩
theorem CB(s:ByteArray)(i:Nat)(h:i<s.size)(hs:s.size<=400)(w:Wd) :
  Calls prog 97 #[χ s,I O i] w fun e w'=>e=υ (I O (bG (s.data.toList.drop i)))/\ω w w':=by
 by_cases ht:(∃h1:i+1<s.size,s[i+1].toNat=61)/\s[i]∈uQ
 ·have aS:Hid (bG (s.data.toList.drop i)=2):=by unfold Hid;rw[ru s i h,if_pos ht]
  obtain⟨⟨h1,Uy⟩,hm⟩:=ht;have Z2:(i:Int)+1<(s.size:Int):=by omega
  have aaz:(s[i+1].toNat:Int)=61:=by omega
  have XT:(i:Int)<(s.size:Int):=by omega
  rw[Co]at hm
  rcases(show(s[i].toNat:Int)=60∨(¬ (s[i].toNat:Int)=60/\(s[i].toNat:Int)=62)∨(¬ (s[i].toNat:Int)=60/\¬ (s[i].toNat:Int)=62/\(s[i].toNat:Int)=61)∨(¬ (s[i].toNat:Int)=60/\¬ (s[i].toNat:Int)=62/\¬ (s[i].toNat:Int)=61/\(s[i].toNat:Int)=33) from by omega) with k1 | ⟨k1,k2⟩ | ⟨k1,k2,k3⟩ | ⟨k1,k2,k3,k4⟩
  all_goals
   clear hm Uy;go_enter func97,ntmps97;go_wp2_with fail;go_ret;exact⟨by rw[aS.out];rfl,Below.refl _ _⟩
 ·exact Et s i h hs w ht
theorem zV{p:UInt8->Bool}(h:cT p (s.data.toList.drop k) j)(hk:k+j<s.size)(hp:p s[k+j]=true):cT p (s.data.toList.drop k) (j+1):=by
 intro q c hq hc;by_cases e:q=j
 ·subst e
  rw[List.getElem?_drop,byte_at s (k+q) hk]at hc;cases hc;exact hp
 ·exact h q c (by omega) hc
theorem py{p:UInt8->Bool}(h:cT p (s.data.toList.drop k) j)(hkj:k+j<=s.size)(hp:∀hk:k+j<s.size,p s[k+j]=false):bO p (s.data.toList.drop k)=j:=by
 refine iP p _ j ?_ h (fun c hc=>?_)
 ·rw[List.length_drop];have:s.data.toList.length=s.size:=by simp
  omega
 ·rw[List.getElem?_drop]at hc
  by_cases hk:k+j<s.size
  ·rw[byte_at s _ hk]at hc
   cases hc;exact hp hk
  ·rw[pw s _ hk]at hc;cases hc
theorem IQ{er:Int}(hb:Bk w b (cc s i a t pb o er) 174)(h1:ω w w1)(i' a':Int)(t':ByteArray) :
  (((w1.setCell ⟨b,2,M⟩ (I O a')).setCell ⟨b,3,M⟩ (χ t')).setCell ⟨b,1,M⟩ (I O i')).heap[b]?=Y (L (cc s i' a' t' pb o er) 174)/\nB b w (((w1.setCell ⟨b,2,M⟩ (I O a')).setCell ⟨b,3,M⟩ (χ t')).setCell ⟨b,1,M⟩ (I O i')):=by
 have Kv:w1.heap[b]?=Y (L (cc s i a t pb o er) 174):=by rw[h1.block _ (ad hb)];exact hb
 refine⟨?_,(((nB.aB h1).setCell (p:=⟨b,2,M⟩) (.inl rfl) _).setCell (p:=⟨b,3,M⟩) (.inl rfl) _).setCell (p:=⟨b,1,M⟩) (.inl rfl) _⟩;rw[ah (ah (ah Kv 2 (I O a')) 3 (χ t')) 1 (I O i')];rfl
theorem CD{er:Int}(hb:Bk w b (cc s i a t pb o er) 174)(h1:ω w w1) :
  w1.cell? ⟨b,0,M⟩=Y (χ s)/\w1.cell? ⟨b,1,M⟩=Y (I O i)/\w1.cell? ⟨b,2,M⟩=Y (I O a)/\w1.cell? ⟨b,3,M⟩=Y (χ t)/\w1.frozen? ⟨b,1,M⟩=false/\w1.frozen? ⟨b,2,M⟩=false/\w1.frozen? ⟨b,3,M⟩=false:=by
 have Kv:w1.heap[b]?=Y (L (cc s i a t pb o er) 174):=by rw[h1.block _ (ad hb)];exact hb
 exact⟨cell_of Kv 0 rfl,cell_of Kv 1 rfl,cell_of Kv 2 rfl,cell_of Kv 3 rfl,aw Kv 1,aw Kv 2,aw Kv 3⟩
theorem jU{er:Int}{a k:Nat}(hb:Bk w b (cc s i at_ t pb o er) 174)(h1:ω w w1)(hk:k<=s.size)(gI:Sp.skip (s.data.toList.drop a)=s.data.toList.drop k)(hj:aZ (s.data.toList.drop k)=j)(hi:ii=(k:Int)+j)(hx:x=s.extract k (k+j)) :
  (((w1.setCell ⟨b,2,M⟩ (I O (k:Int))).setCell ⟨b,3,M⟩ (χ x)).setCell ⟨b,1,M⟩ (I O ii)).heap[b]?=Y (L (cc s ((s.size - (Sp.skip (s.data.toList.drop a)).length+aZ (Sp.skip (s.data.toList.drop a)):Nat):Int) ((s.size - (Sp.skip (s.data.toList.drop a)).length:Nat):Int) ⟨(Sp.tok (Sp.skip (s.data.toList.drop a))).toArray⟩ pb o er) 174)/\nB b w (((w1.setCell ⟨b,2,M⟩ (I O (k:Int))).setCell ⟨b,3,M⟩ (χ x)).setCell ⟨b,1,M⟩ (I O ii)):=by
 have e:=zq s k hk;unfold mP at e;have hl:s.size - (s.data.toList.drop k).length=k:=by
  rw[List.length_drop];have:s.data.toList.length=s.size:=by simp
  omega
 have e3:(⟨(Sp.tok (s.data.toList.drop k)).toArray⟩:ByteArray)=s.extract k (k+j):=by rw[hj]at e;have:=congrArg (fun x:Array Value=>x[2]?) e;simpa using this
 rw[gI,hl,hj,e3];have h2:=IQ hb h1 ii (k:Int) x;subst hx;rw[hi]at h2 ⊢;exact h2
theorem tZ{er:Int}(a:Nat)(hb:Bk w b (cc s (a:Int) at_ t pb o er) 174)(ha:a<=s.size)(hs:s.size<=400) :
  Calls prog 65 #[ρ (Y ⟨b,0,M⟩)] w fun e w'=>e=υ (φ #[]) /\
   w'.heap[b]?=Y (L (cc s ((s.size - (Sp.skip (s.data.toList.drop a)).length+aZ (Sp.skip (s.data.toList.drop a)):Nat):Int) ((s.size - (Sp.skip (s.data.toList.drop a)).length:Nat):Int) ⟨(Sp.tok (Sp.skip (s.data.toList.drop a))).toArray⟩ pb o er) 174)/\nB b w w':=by
 have c1:=cell_of hb 1 (v:=I O (a:Int)) rfl;have HB:=hid hb;clear hb;go_enter func65,ntmps65;go_wp2_with fail;clear c1
 go_loopw [2] (fun n wr=>∃k:Nat,k<=s.size/\Hid (jq s.data.toList a k)/\n=I O k/\Hid (ω w wr)) (fun n _=>s.size - (intOf n).toNat)
 case atStart=>exact⟨a,ha,rfl,rfl,Below.refl _ _⟩
 case round =>
  obtain⟨k,hk,hm,rfl,hB⟩:=hrel;obtain⟨c0,c1,c2,c3,f1,f2,f3⟩:=CD HB.out hB.out;by_cases cR:k<s.size
  ·have YD:(k:Int)<(s.size:Int):=by omega
   by_cases Ef:(s[k].toNat:Int)=32
   ·have uE:Hid (jq s.data.toList a (k+1)):=hm.succ cR ((jT _).2 (.inl Ef))
    go_wp2_with fail;exact⟨⟨k+1,by omega,uE,by go_num,hB⟩,by simp[intOf];omega⟩
   ·have aam:((s[k].toNat:Int) == 32)=false:=by simpa using Ef
    by_cases gB:(s[k].toNat:Int)=10
    ·have uE:Hid (jq s.data.toList a (k+1)):=hm.succ cR ((jT _).2 (.inr gB))
     go_wp2_with fail;exact⟨⟨k+1,by omega,uE,by go_num,hB⟩,by simp[intOf];omega⟩
    ·have Z6:((s[k].toNat:Int) == 10)=false:=by simpa using gB
     have gI:Hid (Sp.skip (s.data.toList.drop a)=s.data.toList.drop k):=hm.stop (fun _=>by
      cases hb:mV s[k]
      ·rfl
      ·exact absurd ((jT _).1 hb) (fun h=>h.elim Ef gB))
     clear hm;have Ka:Hid (aZ (s.data.toList.drop k)=if Sp.isLet s[k] then bO Sp.isLet (s.data.toList.drop k) else if bx s[k] then bO bx (s.data.toList.drop k) else bG (s.data.toList.drop k)):=by unfold Hid;rw[drop_cons s k cR,eb]
     by_cases hL:Sp.isLet s[k]=true
     ·go_wp2_with fail
      refine(gE _ _).mono ?_;rintro e w'⟨rfl,rfl⟩;rw[hL];go_wp2_with fail
      go_loopw [3] (fun n wx=>∃j:Nat,k+j<=s.size/\Hid (cT Sp.isLet (s.data.toList.drop k) j)/\n=I O ((k+j:Nat):Int)/\wx=w') (fun n _=>s.size - (intOf n).toNat)
      case atStart=>exact⟨0,by omega,(fun q c hq _=>absurd hq (Nat.not_lt_zero _)),rfl,rfl⟩
      case round =>
       obtain⟨j,hj,hM,rfl,rfl⟩:=hrel;by_cases Gm:k+j<s.size
       ·have yf:((k+j:Nat):Int)<(s.size:Int):=by omega
        by_cases hJ:Sp.isLet s[k+j]=true
        ·have hM1:Hid (cT Sp.isLet (s.data.toList.drop k) (j+1)):=zV hM.out Gm hJ
         go_wp2_with fail;refine(gE _ _).mono ?_;rintro e w'⟨rfl,rfl⟩;rw[hJ];go_wp2_with fail;exact⟨⟨j+1,by omega,hM1,by go_num,trivial⟩,by simp[intOf];omega⟩
        ·have We:Sp.isLet s[k+j]=false:=by simpa using hJ
         have hN:Hid (aZ (s.data.toList.drop k)=j):=by unfold Hid;rw[Ka.out,if_pos hL];exact py hM.out hj (fun _=>We)
         go_wp2_with fail;refine(gE _ _).mono ?_;rintro e w'⟨rfl,rfl⟩;rw[We];go_wp2_with fail
         go_end0
         exact⟨rfl,jU HB.out hB.out hk gI.out hN.out (by omega) (by first | rfl | simp)⟩
       ·have yf:¬ ((k+j:Nat):Int)<(s.size:Int):=by omega
        have hN:Hid (aZ (s.data.toList.drop k)=j):=by unfold Hid;rw[Ka.out,if_pos hL];exact py hM.out hj (fun h=>absurd h Gm)
        go_wp2_with fail
        go_end0
        exact⟨rfl,jU HB.out hB.out hk gI.out hN.out (by omega) (by first | rfl | simp)⟩
     ·have hL0:Sp.isLet s[k]=false:=by simpa using hL
      by_cases hD:bx s[k]=true
      ·go_wp2_with fail
       refine(gE _ _).mono ?_;rintro e w'⟨rfl,rfl⟩;rw[hL0];go_wp2_with fail;refine(gr _ _).mono ?_;rintro e w'⟨rfl,rfl⟩;rw[hD];go_wp2_with fail
       go_loopw [3] (fun n wx=>∃j:Nat,k+j<=s.size/\Hid (cT bx (s.data.toList.drop k) j)/\n=I O ((k+j:Nat):Int)/\wx=w') (fun n _=>s.size - (intOf n).toNat)
       case atStart=>exact⟨0,by omega,(fun q c hq _=>absurd hq (Nat.not_lt_zero _)),rfl,rfl⟩
       case round =>
        obtain⟨j,hj,hM,rfl,rfl⟩:=hrel;by_cases Gm:k+j<s.size
        ·have yf:((k+j:Nat):Int)<(s.size:Int):=by omega
         by_cases hJ:bx s[k+j]=true
         ·have hM1:Hid (cT bx (s.data.toList.drop k) (j+1)):=zV hM.out Gm hJ
          go_wp2_with fail;refine(gr _ _).mono ?_;rintro e w'⟨rfl,rfl⟩;rw[hJ];go_wp2_with fail;exact⟨⟨j+1,by omega,hM1,by go_num,trivial⟩,by simp[intOf];omega⟩
         ·have We:bx s[k+j]=false:=by simpa using hJ
          have hN:Hid (aZ (s.data.toList.drop k)=j):=by unfold Hid;rw[Ka.out,if_neg hL,if_pos hD];exact py hM.out hj (fun _=>We)
          go_wp2_with fail;refine(gr _ _).mono ?_;rintro e w'⟨rfl,rfl⟩;rw[We];go_wp2_with fail
          go_end0
          exact⟨rfl,jU HB.out hB.out hk gI.out hN.out (by omega) (by first | rfl | simp)⟩
        ·have yf:¬ ((k+j:Nat):Int)<(s.size:Int):=by omega
         have hN:Hid (aZ (s.data.toList.drop k)=j):=by unfold Hid;rw[Ka.out,if_neg hL,if_pos hD];exact py hM.out hj (fun h=>absurd h Gm)
         go_wp2_with fail
         go_end0
         exact⟨rfl,jU HB.out hB.out hk gI.out hN.out (by omega) (by first | rfl | simp)⟩
      ·have hD0:bx s[k]=false:=by simpa using hD
       have hN:Hid (aZ (s.data.toList.drop k)=bG (s.data.toList.drop k)):=by unfold Hid;rw[Ka.out,if_neg hL,if_neg hD]
       have iD:Hid (k+bG (s.data.toList.drop k)<=s.size):=by have:=tK s k hk;unfold Hid;rw[hN.out]at this;exact this
       go_wp2_with fail;refine(gE _ _).mono ?_;rintro e w'⟨rfl,rfl⟩;rw[hL0];go_wp2_with fail;refine(gr _ _).mono ?_;rintro e w'⟨rfl,rfl⟩;rw[hD0];go_wp2_with fail;refine(CB s k cR hs _).mono ?_;rintro e w1⟨rfl,hB1⟩;have VO:Hid (ω w w1):=hB.trans (hB1.mono hB.size);obtain⟨c0',c1',c2',Wn,f1',f2',f3'⟩:=CD HB.out VO.out;generalize bG (s.data.toList.drop k)=j at *;have hr:=iD.out;clear c0 c1 c2 c3 f1 f2 f3 hB1;go_wp2_with fail
       go_end0
       exact⟨rfl,jU HB.out VO.out hk gI.out hN.out (by omega) (by first | rfl | simp)⟩
  ·have YD:¬ (k:Int)<(s.size:Int):=by omega
   have gI:Hid (Sp.skip (s.data.toList.drop a)=s.data.toList.drop k):=hm.stop (fun h=>absurd h cR);have hN:Hid (aZ (s.data.toList.drop k)=0):=by unfold Hid;rw[List.drop_of_length_le (by simp;omega)];rfl
   clear hm;go_wp2_with fail
   go_end0
   exact⟨rfl,jU HB.out hB.out hk gI.out hN.out (by omega) (by first | rfl | simp)⟩
theorem lG.ext{p:FP}(h:lG base pb p w)(x:nB b w w')(h1:b≠pb)(h2:p.nv.ownBlock≠Y b)(h3:p.qv.ownBlock≠Y b):lG base pb p w' :=
 ⟨by rw[x.block _ (ad h.aT) (Ne.symm h1)];exact h.aT,aY h.jS (fun g hg=>x.block g (bJ h.jS g hg).2.1 (fun e=>h2 (by rw[<-e];exact hg))),aY h.kU (fun g hg=>x.block g (bJ h.kU g hg).2.1 (fun e=>h3 (by rw[<-e];exact hg))),h.ge,h.n5,h.q5⟩
theorem FK.Bn{p:FP}(x:nB b w w'):FK b pb p p w w' :=
 ⟨x.os,x.tape,x.output,x.size,fun _ h=>.inl h,fun _ h=>.inl h,fun k hk h1 _ _ _=>x.block k hk h1⟩
theorem jZ:(174:TypeId)≠176/\(174:TypeId)≠3:=by decide
def FX(base b pb:Nat)(s:ByteArray)(r:Except (Nat × Nat) Sp.Bs)(o:Int)(p:FP)(w:Wd):Prop:=match r with
 | .ok l=>FR base b pb s l o p w
 | .error e=>FE base b pb s e p w
theorem FR.drop_eq{p:FP}(h:FR base b pb s l o p w):s.data.toList.drop (s.size - l.length+aZ l)=l.drop (aZ l):=by
 obtain⟨t,ht⟩:=h.suf;have e:s.size=t.length+l.length:=by
  have:s.data.toList.length=s.size:=by simp
  rw[<-this,<-ht];simp
 rw[<-ht,e,show t.length+l.length - l.length+aZ l=t.length+aZ l by omega,<-List.drop_drop];simp
theorem FR.ext{p:FP}(h:FR base b pb s l o p w)(x:nB b w w')(hb:w'.heap[b]?=Y (L (cc s ((s.size - l'.length+aZ l':Nat):Int) ((s.size - l'.length:Nat):Int) ⟨(Sp.tok l').toArray⟩ pb o' 0) 174))(hl:l' <:+ s.data.toList):FR base b pb s l' o' p w' :=
 ⟨hb,h.prog.ext x h.ne (h.prog.dE h.aT jZ).1 (h.prog.dE h.aT jZ).2,hl,h.sz,h.ge,h.ne⟩
theorem FR.fe{p:FP}(h:FR base b pb s l o p w)(x:nB b w w')(er:Nat)(hb:w'.heap[b]?=Y (L (cc s ((s.size - l.length+aZ l:Nat):Int) ((s.size - l.length:Nat):Int) ⟨(Sp.tok l).toArray⟩ pb o er) 174))(he:er≠0):FE base b pb s (er,l.length) p w' :=
 ⟨⟨_,_,_,hb,by have:=h.len;have:=h.sz;omega⟩,h.prog.ext x h.ne (h.prog.dE h.aT jZ).1 (h.prog.dE h.aT jZ).2,he,h.ge,h.ne⟩
theorem FE.ext{p:FP}(h:FE base b pb s er p w)(x:nB b w w')(hb:∃(i:Int) (l:Sp.Bs) (o:Int),w'.heap[b]?=Y (L (cc s i ((s.size - er.2:Nat):Int) ⟨(Sp.tok l).toArray⟩ pb o er.1) 174)/\l.length<=400):FE base b pb s er p w':=by obtain⟨_,_,_,Qz,_⟩:=h.aT;exact⟨hb,h.prog.ext x h.ne (h.prog.dE Qz jZ).1 (h.prog.dE Qz jZ).2,h.nz,h.ge,h.ne⟩
theorem rW(i:Nat)(u:Value):nB b w (w.setCell ⟨b,i,M⟩ u):=(nB.refl b w).setCell (p:=⟨b,i,M⟩) (.inl rfl) u
theorem Hq{er:Int}(hb:Bk w b (cc s i a t pb o er) 174)(o':Int):(w.setCell ⟨b,5,M⟩ (I O o')).heap[b]?=Y (L (cc s i a t pb o' er) 174):=by rw[ah hb 5 (I O o')];rfl
theorem So{er:Int}(hb:Bk w b (cc s i a t pb o er) 174)(e':Int):(w.setCell ⟨b,6,M⟩ (I O e')).heap[b]?=Y (L (cc s i a t pb o e') 174):=by rw[ah hb 6 (I O e')];rfl
theorem Hl{t:Sp.Bs}(h:Sp.tok l≠t):(Sp.tok l == t)=false:=by simpa using h
theorem Hm{t:Sp.Bs}(h:Sp.tok l=t):(Sp.tok l == t)=true:=by simpa using h
theorem dJ{p:FP}(h:FR base b pb s l o p w) :
  Calls prog 65 #[ρ (Y ⟨b,0,M⟩)] w fun e w'=>e=υ (φ #[])/\FR base b pb s (Sp.next l) o p w'/\FK b pb p p w w':=by
 have hl:=h.len;have ht:=fD l;refine(tZ (s.size - l.length+aZ l) h.aT (by omega) h.sz).mono ?_;rintro e w'⟨rfl,hb,hx⟩;rw[h.drop_eq]at hb;exact⟨rfl,h.ext hx hb ((oK l).trans h.suf),FK.Bn hx⟩
theorem oR{p:FP}(h:FR base b pb s l o p w)(er:Nat)(he:er≠0)(ei:Int)(hei:ei=er) :
  Calls prog 67 #[ρ (Y ⟨b,0,M⟩),I O ei] w fun e w'=>e=υ (φ #[])/\FE base b pb s (er,l.length) p w'/\FK b pb p p w w':=by
 subst hei;have c6:=cell_of h.aT 6 (v:=I O 0) rfl;have f6:=aw h.aT 6;have x:=rW (b:=b) (w:=w) 6 (I O (er:Int));have H:=h.fe x er (So h.aT _) he;go_enter func67,ntmps67;go_wp2_with fail
 go_end0
 exact⟨rfl,H,FK.Bn x⟩
theorem UY{p:FP}(h:FE base b pb s er p w)(ei:Int) :
  Calls prog 67 #[ρ (Y ⟨b,0,M⟩),I O ei] w fun e w'=>e=υ (φ #[])/\w'=w:=by
 obtain⟨i,l0,o,hb,UL⟩:=h.aT;have c6:=cell_of hb 6 (v:=I O er.1) rfl;have hz:((er.1:Int) == 0)=false:=by have:=h.nz;simp;omega
 have gU:¬ ((er.1:Int)=0):=by have:=h.nz;omega
 clear h hb;generalize (er.1:Int)=q at *;go_enter func67,ntmps67;go_wp2_with fail
 go_end0
 exact⟨rfl,rfl⟩
theorem A0{p:FP}(h:FE base b pb s er p w)(t:ByteArray) :
  Calls prog 132 #[ρ (Y ⟨b,0,M⟩),χ t] w fun e w'=>e=υ (φ #[])/\w'=w:=by
 obtain⟨i,l0,o,hb,UL⟩:=h.aT;have c6:=cell_of hb 6 (v:=I O er.1) rfl;have hz:((er.1:Int) == 0)=false:=by have:=h.nz;simp;omega
 have gU:¬ ((er.1:Int)=0):=by have:=h.nz;omega
 clear h hb;generalize (er.1:Int)=q at *;go_enter func132,ntmps132;go_wp2_with fail
 ((try simp only[Exit.inBlock,Exit.then]);refine bodyPost_ret (results_none rfl _ _ _) rfl ?_)
 exact⟨rfl,rfl⟩
theorem A4{p:FP}(h:FR base b pb s l o p w)(t:Sp.Bs) :
  Calls prog 132 #[ρ (Y ⟨b,0,M⟩),χ ⟨t.toArray⟩] w fun e w'=>e=υ (φ #[])/\FX base b pb s (Sp.take t l) o p w'/\FK b pb p p w w':=by
 have c6:=cell_of h.aT 6 (v:=I O 0) rfl;have c3:=cell_of h.aT 3 (v:=χ ⟨(Sp.tok l).toArray⟩) rfl;by_cases ht:Sp.tok l=t
 ·have E:Hid (Sp.take t l=.ok (Sp.next l)):=by unfold Hid Sp.take;rw[if_pos ht]
  have Qy:=Hm ht;go_enter func132,ntmps132;go_wp2_with fail;refine(dJ h).mono ?_;rintro e w1⟨rfl,h1,k1⟩;go_wp2_with fail
  go_end0
  exact⟨rfl,by rw[E.out];exact h1,k1⟩
 ·have E:Hid (Sp.take t l=.error (2,l.length)):=by unfold Hid Sp.take;rw[if_neg ht];rfl
  have Qy:=Hl ht;go_enter func132,ntmps132;go_wp2_with fail;refine(oR h 2 (by decide) 2 rfl).mono ?_;rintro e w1⟨rfl,h1,k1⟩;go_wp2_with fail
  ((try simp only[Exit.inBlock,Exit.then]);refine bodyPost_ret (results_none rfl _ _ _) rfl ?_)
  exact⟨rfl,by rw[E.out];exact h1,k1⟩
theorem rj{r:Except (Nat × Nat) Sp.Bs}{p:FP}(h:FX base b pb s r o p w)(t:Sp.Bs) :
  Calls prog 132 #[ρ (Y ⟨b,0,M⟩),χ ⟨t.toArray⟩] w fun e w'=>e=υ (φ #[])/\FX base b pb s (r.bind (Sp.take t)) o p w'/\FK b pb p p w w':=by
 cases r with
 | ok l=>exact A4 h t
 | error e =>refine(A0 (show FE base b pb s e p w from h) _).mono ?_;rintro _ _⟨rfl,rfl⟩;exact⟨rfl,h,FK.refl _ _ _ _⟩
theorem FX.mD{r:Except (Nat × Nat) Sp.Bs}{p:FP}(h:FX base b pb s r o p w)(_d:Int) :
  ∃q:Int,w.cell? ⟨b,5,M⟩=Y (I O q)/\w.frozen? ⟨b,5,M⟩=false/\(∀l,r=.ok l->q=o)/\(∀q' o':Int,(∀l,r=.ok l->q'=o')->FX base b pb s r o' p (w.setCell ⟨b,5,M⟩ (I O q'))/\FK b pb p p w (w.setCell ⟨b,5,M⟩ (I O q'))):=by
 cases r with
 | ok l =>have h':FR base b pb s l o p w:=h;refine⟨o,cell_of h'.aT 5 rfl,aw h'.aT 5,fun _ _=>rfl,?_⟩;intro q' o' hq;have:=hq l rfl;subst this;exact⟨h'.ext (rW 5 _) (Hq h'.aT _) h'.suf,FK.Bn (rW 5 _)⟩
 | error e =>have h':FE base b pb s e p w:=h;obtain⟨i,t,q,hb,UL⟩:=h'.aT;refine⟨q,cell_of hb 5 rfl,aw hb 5,(fun _ hh=>nomatch hh),?_⟩;intro q' o' hq;exact⟨h'.ext (rW 5 _) ⟨i,t,q',Hq hb _,UL⟩,FK.Bn (rW 5 _)⟩
theorem Hi{r:Except (Nat × Nat) Sp.Bs}{o:Nat}{p:FP}(ho:o<=20)(h:FX base b pb s r ((o+1:Nat):Int) p w)(t:Sp.Bs) :
  Calls prog 174 #[ρ (Y ⟨b,0,M⟩),χ ⟨t.toArray⟩] w fun e w'=>e=υ (φ #[])/\FX base b pb s (r.bind (Sp.take t)) (o:Int) p w'/\FK b pb p p w w':=by
 go_enter func174,ntmps174;go_wp2_with fail;refine(rj h t).mono ?_;rintro e w1⟨rfl,h1,k1⟩;obtain⟨q,c5,f5,hq,hs⟩:=h1.mD 0;obtain⟨h2,k2⟩:=hs (RowKit.wrap64 (q - 1)) (o:Int) (fun l e=>by rw[hq l e,IntWalk.wrap64_in _ (by omega)];omega);go_wp2_with fail
 go_end0
 exact⟨rfl,h2,k1.trans k2⟩
theorem AU{o:Nat}{p:FP}(ho:o<=12)(h:FR base b pb s l o p w)(t:Sp.Bs) :
  Calls prog 173 #[ρ (Y ⟨b,0,M⟩),χ ⟨t.toArray⟩] w fun e w'=>e=υ (φ #[])/\FX base b pb s (Sp.enter t o l) ((o+1:Nat):Int) p w'/\FK b pb p p w w':=by
 have c6:=cell_of h.aT 6 (v:=I O 0) rfl;have c5:=cell_of h.aT 5 (v:=I O (o:Int)) rfl;have c3:=cell_of h.aT 3 (v:=χ ⟨(Sp.tok l).toArray⟩) rfl;by_cases ht:Sp.tok l=t
 ·have Qy:=Hm ht
  by_cases sl:o=12
  ·subst sl
   have E:Hid (Sp.enter t 12 l=.error (3,l.length)):=by unfold Hid Sp.enter;rw[if_pos ht,if_pos rfl];rfl
   go_enter func173,ntmps173;go_wp2_with fail;refine(oR h 3 (by decide) 3 rfl).mono ?_;rintro e w1⟨rfl,h1,k1⟩;go_wp2_with fail;refine(A0 h1 _).mono ?_;rintro e w2⟨rfl,rfl⟩;obtain⟨q,c5,f5,hq,hs⟩:=FX.mD (r:=.error (3,l.length)) (o:=0) h1 0;obtain⟨h2,k2⟩:=hs (RowKit.wrap64 (q+1)) ((12+1:Nat):Int) (fun _ hh=>nomatch hh);go_wp2_with fail
   go_end0
   exact⟨rfl,by rw[E.out];exact h2,k1.trans k2⟩
  ·have E:Hid (Sp.enter t o l=Sp.take t l):=by unfold Hid Sp.enter Sp.take;rw[if_pos ht,if_neg sl,if_pos ht]
   have cR:¬ ((12:Int)<=(o:Int)):=by omega
   go_enter func173,ntmps173;go_wp2_with fail;refine(A4 h t).mono ?_;rintro e w1⟨rfl,h1,k1⟩;rw[<-E.out]at h1;obtain⟨q,c5,f5,hq,hs⟩:=h1.mD 0;obtain⟨h2,k2⟩:=hs (RowKit.wrap64 (q+1)) ((o+1:Nat):Int) (fun l e=>by rw[hq l e,IntWalk.wrap64_in _ (by omega)];omega);go_wp2_with fail
   go_end0
   exact⟨rfl,h2,k1.trans k2⟩
 ·have Qy:=Hl ht
  have E:Hid (Sp.enter t o l=Sp.take t l):=by unfold Hid Sp.enter Sp.take;rw[if_neg ht,if_neg ht]
  go_enter func173,ntmps173;go_wp2_with fail;refine(A4 h t).mono ?_;rintro e w1⟨rfl,h1,k1⟩;rw[<-E.out]at h1;obtain⟨q,c5,f5,hq,hs⟩:=h1.mD 0;obtain⟨h2,k2⟩:=hs (RowKit.wrap64 (q+1)) ((o+1:Nat):Int) (fun l e=>by rw[hq l e,IntWalk.wrap64_in _ (by omega)];omega);go_wp2_with fail
  go_end0
  exact⟨rfl,h2,k1.trans k2⟩
theorem PM{p:FP}(h:FE base b pb s er p w)(t:ByteArray) :
  Calls prog 173 #[ρ (Y ⟨b,0,M⟩),χ t] w fun e w'=>e=υ (φ #[])/\FE base b pb s er p w'/\FK b pb p p w w':=by
 obtain⟨i,l0,o,hb,UL⟩:=h.aT;have c6:=cell_of hb 6 (v:=I O er.1) rfl;have hz:((er.1:Int) == 0)=false:=by have:=h.nz;simp;omega
 have gU:¬ ((er.1:Int)=0):=by have:=h.nz;omega
 go_enter func173,ntmps173;go_wp2_with fail;refine(A0 h t).mono ?_;rintro e w1⟨rfl,rfl⟩;obtain⟨q,c5,f5,hq,hs⟩:=FX.mD (r:=.error er) (o:=0) h 0;obtain⟨h2,k2⟩:=hs (RowKit.wrap64 (q+1)) 0 (fun _ hh=>nomatch hh);go_wp2_with fail
 go_end0
 exact⟨rfl,h2,k2⟩
theorem PQ{r:Except (Nat × Nat) Sp.Bs}{o:Nat}{p:FP}(ho:o<=12)(h:FX base b pb s r o p w)(t:Sp.Bs) :
  Calls prog 173 #[ρ (Y ⟨b,0,M⟩),χ ⟨t.toArray⟩] w fun e w'=>e=υ (φ #[])/\FX base b pb s (r.bind (Sp.enter t o)) ((o+1:Nat):Int) p w'/\FK b pb p p w w':=by
 cases r with
 | ok l=>exact AU ho h t
 | error e=>exact PM (show FE base b pb s e p w from h) _
theorem KR:(prog.info? 176).map (fun i=>(i.zero,i.size,i.bytes))=Y (Y (J #[I O 0,I O 0,I O 0,I O 0,I O 0,I O 0,χ ByteArray.empty,I O 0,I O 0,U false]),10,88):=by kernel_rfl
theorem Cu(ns:List aH)(n:aH):fW (ns ++ [n])=fW ns ++ cm n:=by unfold fW;simp
theorem Ln{p:FP}(h:Bk w pb (cM p first) 105)(v:Value)(ns:List aH):(w.setCell ⟨pb,0,M⟩ v).heap[pb]?=Y (L (cM { p with ns:=ns,nv:=v } first) 105):=by rw[ah h 0 v];rfl
theorem kZ:(105:TypeId)≠176/\(105:TypeId)≠3:=by decide
theorem lG.qx{p:FP}(h:lG base pb p w):∀g,p.nv.ownBlock=Y g->p.qv.ownBlock≠Y g:=by intro g hg hq;obtain⟨_,_,c,hc⟩:=bJ h.jS g hg;obtain⟨_,_,c',T8⟩:=bJ h.kU g hq;rw[hc]at T8;cases T8
theorem FX.KZ{r:Except (Nat × Nat) Sp.Bs}{p:FP}(h:FX base b pb s r o p w):∃i a t o' er,w.heap[b]?=Y (L (cc s i a t pb o' er) 174):=by
 cases r with
 | ok l=>exact⟨_,_,_,_,_,(show FR base b pb s l o p w from h).aT⟩
 | error e =>obtain⟨i,t,o',hb,_⟩:=(show FE base b pb s e p w from h).aT;exact⟨_,_,_,_,_,hb⟩
theorem FX.prog{r:Except (Nat × Nat) Sp.Bs}{p:FP}(h:FX base b pb s r o p w):lG base pb p w:=by
 cases r with
 | ok l=>exact(show FR base b pb s l o p w from h).prog
 | error e=>exact(show FE base b pb s e p w from h).prog
theorem FX.ne{r:Except (Nat × Nat) Sp.Bs}{p:FP}(h:FX base b pb s r o p w):b≠pb:=by
 cases r with
 | ok l=>exact(show FR base b pb s l o p w from h).ne
 | error e=>exact(show FE base b pb s e p w from h).ne
theorem FX.move{r:Except (Nat × Nat) Sp.Bs}{p p':FP}(h:FX base b pb s r o p w)(hb:w'.heap[b]?=w.heap[b]?)(hp:lG base pb p' w'):FX base b pb s r o p' w':=by
 cases r with
 | ok l =>have h':FR base b pb s l o p w:=h;exact⟨by rw[hb];exact h'.aT,hp,h'.suf,h'.sz,h'.ge,h'.ne⟩
 | error e =>have h':FE base b pb s e p w:=h;exact⟨by rw[hb];exact h'.aT,hp,h'.nz,h'.ge,h'.ne⟩
theorem FX.after{r:Except (Nat × Nat) Sp.Bs}{p:FP}(h:FX base b pb s r o p w)(hb:ω w w'):FX base b pb s r o p w':=by obtain⟨_,_,_,_,_,h1⟩:=h.KZ;exact h.move (hb.block _ (ad h1)) (h.prog.after hb)
theorem Mu{r:Except (Nat × Nat) Sp.Bs}{p:FP}{o:Obj}(h:FX base b pb s r oo p w)(hn:p.ns.length+1<=1000000)(n:aH)
  (ox:w1.ownsRow base 176 10 (Z (Y ⟨gg,0,M⟩) (p.ns.length+1) cap) (p.ns.length+1) (fW p.ns ++ cm n)) (hg:(w.alloc o).drew.grownBy w1 p.nv.ownBlock) (z6:p.nv.ownBlock=Y gg∨gg=w.heap.size+1) :
  FX base b pb s r oo { p with ns:=p.ns ++ [n],nv:=Z (Y ⟨gg,0,M⟩) (p.ns.length+1) cap } (w1.setCell ⟨pb,0,M⟩ (Z (Y ⟨gg,0,M⟩) (p.ns.length+1) cap))/\FK b pb p { p with ns:=p.ns ++ [n],nv:=Z (Y ⟨gg,0,M⟩) (p.ns.length+1) cap } w (w1.setCell ⟨pb,0,M⟩ (Z (Y ⟨gg,0,M⟩) (p.ns.length+1) cap)):=by
 have hp:=h.prog;have cR:=ad hp.aT;obtain⟨i,a,t,o',er,hb⟩:=h.KZ;have gT:∀k,k<w.heap.size->p.nv.ownBlock≠Y k->w1.heap[k]?=w.heap[k]?:=fun k hk hn=>by rw[hg.block k (by show k<(w.alloc o).heap.size;simp;omega) (fun e=>hn e.symm)];exact Below.heap_alloc _ _ _ hk
 have dC:w.heap.size<=w1.heap.size:=by
  have:=hg.size;have h2:(w.alloc o).drew.heap.size=w.heap.size+1:=by show(w.alloc o).heap.size=_;simp
  omega
 have KI:=hp.dE hp.aT kZ;have eg:=hp.dE hb jZ;have rY:w1.heap[pb]?=Y (L (cM p 0) 105):=by rw[gT pb cR KI.1];exact hp.aT
 have ZM:lG base pb { p with ns:=p.ns ++ [n],nv:=Z (Y ⟨gg,0,M⟩) (p.ns.length+1) cap } (w1.setCell ⟨pb,0,M⟩ (Z (Y ⟨gg,0,M⟩) (p.ns.length+1) cap)):=by
  refine⟨Ln rY _ _,?_,?_,hp.ge,by simp;omega,hp.q5⟩
  ·show World.ownsRow _ base 176 10 _ (p.ns ++ [n]).length (fW (p.ns ++ [n]))
   rw[Cu,List.length_append];exact aY ox (fun g pM=>Below.heap_setCell _ _ _ _ (fun e=>by obtain⟨_,_,c,hc⟩:=bJ ox g pM;have e':g=pb:=e;rw[e',rY]at hc;cases hc))
  ·refine aY hp.kU (fun g pM=>?_)
   have uA:=(bJ hp.kU g pM).2.1;rw[Below.heap_setCell _ _ _ _ (fun e=>KI.2 (by rw[<-show g=pb from e];exact pM))];exact gT g uA (fun e=>hp.qx g e pM)
 refine⟨h.move ?_ ZM,hg.os,hg.tape,hg.output,by simp[World.setCell];omega,?_,fun _ e=>.inl e,?_⟩
 ·rw[Below.heap_setCell _ _ _ _ h.ne]
  exact gT b (ad hb) eg.1
 ·intro g pM
  have e:gg=g:=by simpa [Value.ownBlock] using pM
  subst e
  rcases z6 with h1 | h1
  ·exact .inl h1
  ·exact .inr (by omega)
 ·intro k hk _ h2 h3 _
  rw[Below.heap_setCell _ _ _ _ h2];exact gT k hk h3
end
attribute [local go_sem ↓] Go.wp_at_zero Go.wp_at_succ
theorem eF{base b pb:Nat}{s:ByteArray}{r:Except (Nat × Nat) Sp.Bs}{o:Int}{p:FP}{w:Wd}(h:FX base b pb s r o p w)(n:aH)(hn:p.ns.length+1<=1000000) :
  Calls prog 130 #[ρ (Y ⟨b,0,M⟩),J (cm n).toArray] w fun e w'=>e=υ (I O (p.ns.length:Nat))/\∃v,FX base b pb s r o { p with ns:=p.ns ++ [n],nv:=v } w'/\FK b pb p { p with ns:=p.ns ++ [n],nv:=v } w w':=by
 obtain⟨i0,hi,KD,jm,gU⟩:=info_parts KR;have aab:pb<w.heap.size/\b<w.heap.size:=⟨ad h.prog.aT,by obtain⟨_,_,_,_,_,hb⟩:=h.KZ;exact ad hb⟩;have hA:ω w (w.alloc (L (cm n).toArray 176)):=(Below.refl _ _).alloc (Nat.le_refl _) _;have h:=h.after hA;have kA:FK b pb p p w (w.alloc (L (cm n).toArray 176)):=FK.aB hA;have YL:(w.alloc (L (cm n).toArray 176)).heap.size=w.heap.size+1:=by simp
 obtain⟨ii,a,t,o',er,hb⟩:=h.KZ;have hp:=h.prog;have c4:=cell_of hb 4 (v:=ρ (Y ⟨pb,0,M⟩)) rfl;have c0:=cell_of hp.aT 0 (v:=p.nv) rfl;have f0:=aw hp.aT 0;have Gk:pb<(w.alloc (L (cm n).toArray 176)).heap.size:=ad hp.aT;have xS:b<(w.alloc (L (cm n).toArray 176)).heap.size:=ad hb;have ag:p.nv.ownBlock≠Y pb:=(hp.dE hp.aT kZ).1;have ab:p.nv.ownBlock≠Y b:=(hp.dE hb jZ).1;have WZ:=hp.jS;have mL:=hp.ge;have UJ:p.ns.length+1<=maxLen:=by unfold maxLen;omega
 have hby:(p.ns.length+1)*88<=140737488355328:=by omega
 have pL:((w.alloc (L (cm n).toArray 176)).alloc (L (cm n).toArray 176)).heap[w.heap.size+1]?=Y (L (cm n).toArray 176):=by have:=heap_alloc_new (w.alloc (L (cm n).toArray 176)) (L (cm n).toArray 176);rw[YL]at this;exact this
 have H:Hid (FX base b pb s r o p (w.alloc (L (cm n).toArray 176))/\FK b pb p p w (w.alloc (L (cm n).toArray 176))):=⟨h,kA⟩;have dd:(w.alloc (L (cm n).toArray 176))=(w.alloc (L #[I O n.kind,I O n.a,I O n.b,I O n.c,I O n.n,I O n.next,χ ⟨n.sign.toArray⟩,I O n.site,I O n.ay,U n.els] 176)):=rfl;have hwl:pb<w.heap.size/\b<w.heap.size:=aab;have c4w:w.cell? ⟨b,4,M⟩=Y (ρ (Y ⟨pb,0,M⟩)):=by rw[<-hA.cell (p:=⟨b,4,M⟩) hwl.2];exact c4
 have c0w:w.cell? ⟨pb,0,M⟩=Y p.nv:=by rw[<-hA.cell (p:=⟨pb,0,M⟩) hwl.1];exact c0
 rw[dd]at c4 c0 f0 Gk xS WZ YL;clear hA h kA hb hp;show Calls prog 130 #[ρ (Y ⟨b,0,M⟩),J #[I O n.kind,I O n.a,I O n.b,I O n.c,I O n.n,I O n.next,χ ⟨n.sign.toArray⟩,I O n.site,I O n.ay,U n.els]] w _;go_enter func130,ntmps130;go_wp2_with fail
 go_region_law
  ((refine step_append_lies _ (by rfl) _ _ _ (by rfl) base 176 i0 _ 10 88 underlying103 hi KD jm gU rfl (by omega) p.nv p.ns.length (fW p.ns) (by rfl) ((WZ.alloc _).drew)
     ⟨w.heap.size+1,0,M⟩ 1 1 (cm n) (by rfl) (by rfl) (World.news_of_block (cs:=(cm n).toArray) (t:=176) (fr:=(0,0)) pL) (by simp[Value.oneCell',cm])
     (by omega) UJ hby (by simp;omega) (w.heap.size+1+1) (by simp) ?_;intro gg cap w1 sd o8 z6 cR;have f1:w1.frozen? ⟨pb,0,M⟩=false:=(by rw[o8.frozen_far _ (by simp;omega) (Ne.symm ag)];exact rp Gk f0);have d1:w1.cell? ⟨pb,0,M⟩=Y p.nv:=(by rw[o8.cell_far _ (by simp;omega) (Ne.symm ag)];exact nw Gk c0);have d4:w1.cell? ⟨b,4,M⟩=Y (ρ (Y ⟨pb,0,M⟩)):=(by rw[o8.cell_far _ (by simp;omega) (Ne.symm ab)];exact nw xS c4)))
 all_goals
  have hr:Hid (RowKit.wrap64 ((p.ns.length:Int)+1 - 1)=p.ns.length):=by unfold Hid;rw[IntWalk.wrap64_in _ (by omega)];omega
  have HF:=Mu H.1 hn n sd o8 (by rw[dd,YL];exact z6);have HH:=hid HF;clear HF sd o8 z6 cR c0 c4 c0w c4w f0 WZ pL dd YL Gk xS;go_wp2_with fail;go_ret;exact⟨by go_num,_,HH.1,H.2.trans HH.2⟩
section
section
variable{ns rZ:List aH}
variable{lo BC rel k:Nat}
def pZ(ns:List aH)(lo:Nat):Sm->Nat->Ct->Ct->Prop
 | .num n,k,ct,aX=>∃d,ns[k]?=Y d/\d.kind=1/\d.n=(n:Int)/\n<=32767/\lo<=k/\aX=ct
 | .name v,k,ct,aX=>∃d,ns[k]?=Y d/\d.kind=2/\d.n=(v:Int)/\v<8/\lo<=k/\aX=ct
 | .neg x,k,ct,aX=>∃d a,ns[k]?=Y d/\d.kind=3/\d.a=((a:Nat):Int)/\a<k/\pZ ns lo x a ct aX
 | .bin op x y,k,ct,aX=>∃d a b ct1,ns[k]?=Y d/\d.kind=4/\d.a=((a:Nat):Int)/\d.b=((b:Nat):Int)/\d.sign=bo op/\op<5/\a<k/\b<k/\pZ ns lo x a ct ct1 /\
   (d.site=if 3<=op then ct1.2 else -1)/\pZ ns lo y b (if 3<=op then Sp.aJ ct1 else ct1) aX
theorem pZ.ge:∀{x:Sm} {k:Nat} {ct aX:Ct},pZ ns lo x k ct aX->lo<=k
 | .num _,_,_,_,⟨_,_,_,_,_,h,_⟩=>h
 | .name _,_,_,_,⟨_,_,_,_,_,h,_⟩=>h
 | .neg _,_,_,_,⟨_,_,_,_,_,h,h2⟩=>by have:=pZ.ge h2;omega
 | .bin _ _ _,_,_,_,⟨_,_,_,_,_,_,_,_,_,_,h,_,h2,_⟩=>by have:=pZ.ge h2;omega
theorem pZ.mono(BH:BC<=lo):∀{x:Sm} {k:Nat} {ct aX:Ct},(∀i,lo<=i->i<=k->rZ[i]?=ns[i]?)->pZ ns lo x k ct aX->pZ rZ BC x k ct aX
 | .num _,k,_,_,pN,⟨d,h1,h2,h3,h4,h5,h6⟩=>⟨d,by rw[pN k h5 (Nat.le_refl _)];exact h1,h2,h3,h4,by omega,h6⟩
 | .name _,k,_,_,pN,⟨d,h1,h2,h3,h4,h5,h6⟩=>⟨d,by rw[pN k h5 (Nat.le_refl _)];exact h1,h2,h3,h4,by omega,h6⟩
 | .neg _,k,_,_,pN,⟨d,a,h1,h2,h3,h4,h5⟩=>⟨d,a,by rw[pN k (by have:=h5.ge;omega) (Nat.le_refl _)];exact h1,h2,h3,h4,h5.mono BH (fun i hi Ri=>pN i hi (by omega))⟩
 | .bin _ _ _,k,_,_,pN,⟨d,a,b,ct1,h1,h2,h3,h4,h5,h6,h7,h8,h9,gB,uC⟩ =>⟨d,a,b,ct1,by rw[pN k (by have:=h9.ge;omega) (Nat.le_refl _)];exact h1,h2,h3,h4,h5,h6,h7,h8,h9.mono BH (fun i hi Ri=>pN i hi (by omega)),gB,uC.mono BH (fun i hi Ri=>pN i hi (by omega))⟩
def yG(ns:List aH)(lo:Nat)(rel:Nat)(x y:Sm)(k:Nat)(ct aX:Ct):Prop :=
 ∃d a b ct1,ns[k]?=Y d/\d.a=((a:Nat):Int)/\d.b=((b:Nat):Int)/\d.sign=aL rel/\rel<6/\a<k/\b<k/\pZ ns lo x a ct ct1/\pZ ns lo y b ct1 aX
theorem yG.ge{x y:Sm}{ct aX:Ct}(h:yG ns lo rel x y k ct aX):lo<=k:=by obtain⟨_,_,_,_,_,_,_,_,_,h1,_,h2,_⟩:=h;have:=h2.ge;omega
theorem yG.mono(BH:BC<=lo){x y:Sm}{ct aX:Ct}(pN:∀i,lo<=i->i<=k->rZ[i]?=ns[i]?)(h:yG ns lo rel x y k ct aX):yG rZ BC rel x y k ct aX:=by have hk:=h.ge;obtain⟨d,a,b,ct1,h1,h2,h3,h4,h5,h6,h7,h8,h9⟩:=h;exact⟨d,a,b,ct1,by rw[pN k hk (Nat.le_refl _)];exact h1,h2,h3,h4,h5,h6,h7,h8.mono BH (fun i hi Ri=>pN i hi (by omega)),h9.mono BH (fun i hi Ri=>pN i hi (by omega))⟩
def jw(ns:List aH)(lo hi:Nat):Bl->Int->Ct->Ct->Prop
 | .nil,k,ct,aX=>k=-1/\aX=ct
 | .assign v x rest,k,ct,aX=>∃(j a:Nat) (d:aH) (ct1:Ct),k=(j:Int)/\lo<=j/\j<hi/\ns[j]?=Y d/\d.ay=ct.1/\d.kind=6/\d.n=(v:Int)/\v<8/\d.a=(a:Int)/\a<hi/\pZ ns lo x a (Sp.aA ct) ct1/\jw ns lo hi rest d.next ct1 aX
 | .read v rest,k,ct,aX=>∃(j:Nat) (d:aH),k=(j:Int)/\lo<=j/\j<hi/\ns[j]?=Y d/\d.ay=ct.1/\d.kind=7/\d.n=(v:Int)/\v<8/\jw ns lo hi rest d.next (Sp.aA ct) aX
 | .assert rel x y rest,k,ct,aX=>∃(j a:Nat) (d:aH) (ct1:Ct),k=(j:Int)/\lo<=j/\j<hi/\ns[j]?=Y d/\d.ay=ct.1/\d.kind=8/\d.site=ct.2/\d.a=(a:Int)/\a<hi/\yG ns lo rel x y a (Sp.aJ (Sp.aA ct)) ct1/\jw ns lo hi rest d.next ct1 aX
 | .ite rel x y xs els ys rest,k,ct,aX=>∃(j a:Nat) (d:aH) (ct1 ct2 mJ:Ct),k=(j:Int)/\lo<=j/\j<hi/\ns[j]?=Y d/\d.ay=ct.1/\d.kind=9/\d.els=els/\d.a=(a:Int)/\a<hi/\yG ns lo rel x y a (Sp.aA ct) ct1/\jw ns lo hi xs d.b ct1 ct2/\jw ns lo hi ys d.c ct2 mJ/\(els=false->ys=.nil)/\jw ns lo hi rest d.next mJ aX
 | .loop rel x y xs rest,k,ct,aX=>∃(j a:Nat) (d:aH) (ct1 ct2:Ct),k=(j:Int)/\lo<=j/\j<hi/\ns[j]?=Y d/\d.ay=ct.1/\d.kind=10/\d.a=(a:Int)/\a<hi/\yG ns lo rel x y a (Sp.aA ct) ct1/\jw ns lo hi xs d.b ct1 ct2/\jw ns lo hi rest d.next ct2 aX
theorem jw.mono{hi oA:Nat}(BH:BC<=lo)(Iq:hi<=oA)(pN:∀i,lo<=i->i<hi->rZ[i]?=ns[i]?):∀{x:Bl} {k:Int} {ct aX:Ct},jw ns lo hi x k ct aX->jw rZ BC oA x k ct aX
 | .nil,_,_,_,h=>h
 | .assign _ _ _,_,_,_,⟨j,a,d,c1,h1,h2,h3,h4,h5,h6,h7,h8,h9,gB,uC,sl⟩ =>⟨j,a,d,c1,h1,by omega,by omega,by rw[pN j h2 h3];exact h4,h5,h6,h7,h8,h9,by omega,uC.mono BH (fun i hi Ri=>pN i hi (by omega)),sl.mono BH Iq pN⟩
 | .read _ _,_,_,_,⟨j,d,h1,h2,h3,h4,h5,h6,h7,h8,h9⟩ =>⟨j,d,h1,by omega,by omega,by rw[pN j h2 h3];exact h4,h5,h6,h7,h8,h9.mono BH Iq pN⟩
 | .assert _ _ _ _,_,_,_,⟨j,a,d,c1,h1,h2,h3,h4,h5,h6,h7,h8,h9,gB,uC⟩ =>⟨j,a,d,c1,h1,by omega,by omega,by rw[pN j h2 h3];exact h4,h5,h6,h7,h8,by omega,gB.mono BH (fun i hi Ri=>pN i hi (by omega)),uC.mono BH Iq pN⟩
 | .ite _ _ _ _ _ _ _,_,_,_,⟨j,a,d,c1,c2,c3,h1,h2,h3,h4,h5,h6,h7,h8,h9,gB,uC,sl,h13,h14⟩ =>⟨j,a,d,c1,c2,c3,h1,by omega,by omega,by rw[pN j h2 h3];exact h4,h5,h6,h7,h8,by omega,gB.mono BH (fun i hi Ri=>pN i hi (by omega)),uC.mono BH Iq pN,sl.mono BH Iq pN,h13,h14.mono BH Iq pN⟩
 | .loop _ _ _ _ _,_,_,_,⟨j,a,d,c1,c2,h1,h2,h3,h4,h5,h6,h7,h8,h9,gB,uC⟩ =>⟨j,a,d,c1,c2,h1,by omega,by omega,by rw[pN j h2 h3];exact h4,h5,h6,h7,by omega,h9.mono BH (fun i hi Ri=>pN i hi (by omega)),gB.mono BH Iq pN,uC.mono BH Iq pN⟩
def fm:Sm->List Int
 | .num n=>[(n:Int)]
 | .name _=>[]
 | .neg x=>fm x
 | .bin _ x y=>fm x ++ fm y
def cW:Bl->List Int
 | .nil=>[]
 | .assign _ x rest=>fm x ++ cW rest
 | .read _ rest=>cW rest
 | .assert _ x y rest=>fm x ++ fm y ++ cW rest
 | .ite _ x y xs _ ys rest=>fm x ++ fm y ++ cW xs ++ cW ys ++ cW rest
 | .loop _ x y xs rest=>fm x ++ fm y ++ cW xs ++ cW rest
end
end
section
variable{l r:Sp.Bs}
theorem jc{c:UInt8}(h:Sp.tok l=c :: r)(hc:Sp.isLet c=true):aC l=2:=by
 cases l with
 | nil=>simp[Sp.tok]at h
 | cons d q =>
  have e:d=c:=by
   unfold Sp.tok at h;cases hn:aZ (d :: q) with
   | zero=>rw[hn]at h;simp at h
   | succ m=>rw[hn,List.take_succ_cons]at h;exact(List.cons.inj h).1
  subst e;rw[bU,if_pos hc]
theorem I4{c:UInt8}(h:Sp.tok l=c :: r)(hc:bx c=true):aC l=3:=by
 cases l with
 | nil=>simp[Sp.tok]at h
 | cons d q =>
  have e:d=c:=by
   unfold Sp.tok at h;cases hn:aZ (d :: q) with
   | zero=>rw[hn]at h;simp at h
   | succ m=>rw[hn,List.take_succ_cons]at h;exact(List.cons.inj h).1
  subst e;rw[bU,if_neg,if_pos hc];intro k;unfold Sp.isLet at k;unfold bx at hc;simp at k hc;omega
theorem cZ(l:Sp.Bs)(hl:l.length<=400)(w:Wd) :
  Calls prog 129 #[χ ⟨(Sp.tok l).toArray⟩] w fun e w'=>e=υ (U (aQ l).isSome)/\w'=w:=by
 have Wu:=eD l;have hle:=fD l;by_cases h1:(Sp.tok l).length=1
 ·obtain⟨c,ht⟩:∃c,Sp.tok l=[c]:=by
   match hm:Sp.tok l,h1 with
   | [c],_=>exact⟨c,rfl⟩
  obtain⟨t,et,iC,hx⟩:=oJ c;have h0:0<t.size:=by omega
  have e:Hid ((aQ l).isSome=(decide (97<=c.toNat) && decide (c.toNat<=104))):=by
   unfold Hid;by_cases hc:97<=c.toNat/\c.toNat<=104
   ·have hk:=jc ht (by unfold Sp.isLet;simp;omega)
    have:aQ l=Y (c.toNat - 97):=by unfold aQ;rw[ht];simp[hk];omega
    rw[this];simp;omega
   ·cases hv:aQ l with
    | none=>simp;omega
    | some k =>
     obtain⟨c',e1,_,e3,e4,_⟩:=dD hv;rw[ht]at e1;cases e1
     omega
  rw[ht,<-et];have uS:t[0].toNat=c.toNat:=by rw[hx]
  clear hx et ht h1 Wu hle;go_enter func129,ntmps129
  go_wp2
  all_goals
   go_ret;exact⟨eK (by rw[e.out,Bool.eq_iff_iff];simp;omega),rfl⟩
 ·have e:Hid ((aQ l).isSome=false):=by
   unfold Hid;cases hv:aQ l with
   | none=>rfl
   | some k =>obtain⟨c',e1,_⟩:=dD hv;rw[e1]at h1;simp at h1
  have dC:(⟨(Sp.tok l).toArray⟩:ByteArray).size=(Sp.tok l).length:=nH _;have aax:(⟨(Sp.tok l).toArray⟩:ByteArray).size<=400:=by omega
  generalize (⟨(Sp.tok l).toArray⟩:ByteArray)=t at *;have hb:((t.size:Int) == 1)=false:=by simp;omega
  have BJ:¬ (t.size:Int)=1:=by omega
  clear dC;go_enter func129,ntmps129;go_wp2_with fail;go_ret;exact⟨eK e.symm,rfl⟩
def oe(t:Sp.Bs):Int:=if t=[]∨5<t.length∨(t.head?=Y 48/\1<t.length) then -1 else if(∀c∈t,bx c=true) then(if bj t<=32767 then(bj t:Int) else -1) else -1
theorem Af(t:Sp.Bs)(c:UInt8):bj (t ++ [c])=bj t*10+(c.toNat - 48):=by unfold bj;rw[List.foldl_append];rfl
theorem take_succ(t:ByteArray)(i:Nat)(h:i<t.size):t.data.toList.take (i+1)=t.data.toList.take i ++ [t[i]]:=by rw[List.take_add_one,byte_at t i h];rfl
theorem gj(t:ByteArray)(ht:t.size<=400)(w:Wd) :
  Calls prog 238 #[χ t] w fun e w'=>e=υ (I O (oe t.data.toList))/\w'=w:=by
 have hlen:t.data.toList.length=t.size:=by simp
 by_cases h0:t.size=0
 ·have e:Hid (oe t.data.toList=-1):=by unfold Hid oe;rw[if_pos (.inl (List.length_eq_zero_iff.1 (by omega)))]
  have hb:t.toList.isEmpty=true:=by rw[ByteArray.toList_eq,List.length_eq_zero_iff.1 (by omega:t.data.toList.length=0)];rfl
  clear hlen;go_enter func238,ntmps238;go_wp2_with fail;go_ret;exact⟨dk e.symm,rfl⟩
 ·have hb:t.toList.isEmpty=false:=by
   rw[ByteArray.toList_eq];cases he:t.data.toList with
   | nil=>rw[he]at hlen;simp at hlen;omega
   | cons _ _=>rfl
  by_cases h5:5<t.size
  ·have e:Hid (oe t.data.toList=-1):=by unfold Hid oe;rw[if_pos (.inr (.inl (by omega)))]
   have h5i:(5:Int)<(t.size:Int):=by omega
   clear hlen;go_enter func238,ntmps238;go_wp2_with fail;go_ret;exact⟨dk e.symm,rfl⟩
  ·have h5i:¬ (5:Int)<(t.size:Int):=by omega
   have hp:0<t.size:=by omega
   have Yp:t.data.toList.head?=Y t[0]:=by rw[List.head?_eq_getElem?];exact byte_at t 0 hp
   by_cases Qn:(t[0].toNat:Int)=48/\1<t.size
   ·have e:Hid (oe t.data.toList=-1):=by unfold Hid oe;rw[if_pos (.inr (.inr ⟨by rw[Yp];congr 1;exact UInt8.toNat_inj.1 (by show t[0].toNat=48;omega),by omega⟩))]
    obtain⟨Qn,h1⟩:=Qn;have Z2:(1:Int)<(t.size:Int):=by omega
    clear hlen Yp;go_enter func238,ntmps238;go_wp2_with fail;go_ret;exact⟨dk e.symm,rfl⟩
   ·have e:Hid (oe t.data.toList=if(∀c∈t.data.toList,bx c=true) then(if bj t.data.toList<=32767 then(bj t.data.toList:Int) else -1) else -1):=by
     unfold Hid oe;rw[if_neg];rintro(h | h | ⟨h,h'⟩)
     ·rw[h]at hlen;simp at hlen;omega
     ·omega
     ·rw[Yp]at h
      have:t[0]=48:=Option.some.inj h;exact Qn ⟨by rw[this];rfl,by omega⟩
    have uF:((t[0].toNat:Int) == 48)=false/\¬ (t[0].toNat:Int)=48∨((t[0].toNat:Int) == 48)=true/\(t[0].toNat:Int)=48/\¬ (1:Int)<(t.size:Int):=by
     by_cases h:(t[0].toNat:Int)=48
     ·exact .inr ⟨by simpa using h,h,by omega⟩
     ·exact .inl ⟨by simpa using h,h⟩
    clear Yp Qn hlen
    rcases uF with⟨k1,k2⟩ | ⟨k1,k2,k3⟩
    all_goals
     go_enter func238,ntmps238;go_wp2_with fail
     go_loopw [3,4] (fun n i wr=>∃j:Nat,j<=t.size/\Hid (∀c∈t.data.toList.take j,bx c=true)/\Hid (bj (t.data.toList.take j)<10 ^ j)/\n=I O (bj (t.data.toList.take j):Nat)/\i=I O j/\wr=w) (fun _ i _=>t.size - (intOf i).toNat)
     case atStart=>exact⟨0,Nat.zero_le _,by intro c hc;simp at hc,by show bj []<_;decide,rfl,rfl,rfl⟩
     case round =>
      obtain⟨j,hj,hd,hn,rfl,rfl,rfl⟩:=hrel;have ov:bj (t.data.toList.take j)<100000:=Nat.lt_of_lt_of_le hn.out (Nat.pow_le_pow_right (by omega) (by omega:j<=5));by_cases Gm:j<t.size
      ·have yf:(j:Int)<(t.size:Int):=by omega
       by_cases hc:bx t[j]=true
       ·have hcr:48<=t[j].toNat/\t[j].toNat<=57:=by unfold bx at hc;simpa using hc
        have OA:Hid (∀c∈t.data.toList.take (j+1),bx c=true):=by
         intro c YB;rw[take_succ t j Gm]at YB
         rcases List.mem_append.1 YB with h | h
         ·exact hd.out c h
         ·simp at h;rw[h];exact hc
        have iC:Hid (bj (t.data.toList.take (j+1))=bj (t.data.toList.take j)*10+(t[j].toNat - 48)):=by unfold Hid;rw[take_succ t j Gm,Af]
        have pF:Hid (bj (t.data.toList.take (j+1))<10 ^ (j+1)):=by unfold Hid;rw[iC.out,Nat.pow_succ];have:=hn.out;omega
        clear hn hd;generalize bj (t.data.toList.take j)=m at *;have hu:(48:Int)<=(t[j].toNat:Int)/\(t[j].toNat:Int)<=57:=by omega
        go_wp2_with fail;refine(gr _ _).mono ?_;rintro e w'⟨rfl,rfl⟩;rw[hc];go_wp2_with fail;exact⟨⟨j+1,by omega,OA,pF,by rw[iC.out];go_num,by go_num,trivial⟩,by simp[intOf];omega⟩
       ·have NU:bx t[j]=false:=by simpa using hc
        have E:Hid (oe t.data.toList=-1):=by unfold Hid;rw[e.out,if_neg];intro uU;exact hc (uU _ (List.mem_of_getElem? (byte_at t j Gm)))
        clear hn hd e;generalize bj (t.data.toList.take j)=m at *;go_wp2_with fail;refine(gr _ _).mono ?_;rintro e w'⟨rfl,rfl⟩;rw[NU];go_wp2_with fail;go_ret;exact⟨dk E.symm,rfl⟩
      ·have yf:¬ (j:Int)<(t.size:Int):=by omega
       have Kj:t.data.toList.take j=t.data.toList:=List.take_of_length_le (by simp;omega);have E:Hid (oe t.data.toList=if bj (t.data.toList.take j)<=32767 then(bj (t.data.toList.take j):Int) else -1):=by unfold Hid;rw[e.out,if_pos (by have:=hd.out;rw[Kj]at this;exact this),Kj]
       clear hn hd e Kj;generalize bj (t.data.toList.take j)=m at *;by_cases hm:m<=32767
       ·have ZX:¬ (32767:Int)<(m:Int):=by omega
        go_wp2_with fail;go_ret;exact⟨dk (by rw[E.out,if_pos hm]),rfl⟩
       ·have ZX:(32767:Int)<(m:Int):=by omega
        go_wp2_with fail;go_ret;exact⟨dk (by rw[E.out,if_neg hm]),rfl⟩
theorem uq:∀(t:Sp.Bs) (a:Nat),a*10 ^ t.length<=dW a t
 | [],a=>by show a*10 ^ 0<=a;omega
 | c :: r,a=>by have h:=uq r (a*10+(c.toNat - 48));have e:dW a (c :: r)=dW (a*10+(c.toNat - 48)) r:=rfl;rw[e,List.length_cons,Nat.pow_succ];refine Nat.le_trans ?_ h;rw[Nat.add_mul,Nat.mul_comm (10 ^ r.length) 10,<-Nat.mul_assoc];omega
theorem tD(h:aC l=3):oe (Sp.tok l)=match gA (Sp.tok l) with
  | some v=>(v:Int)
  | none=>-1:=by
 obtain⟨dF,hd⟩:=de h;unfold oe gA;by_cases h1:1<(Sp.tok l).length/\(Sp.tok l).head?=Y 48
 ·rw[if_pos (.inr (.inr ⟨h1.2,h1.1⟩)),if_pos h1]
 ·rw[if_neg h1]
  by_cases h5:5<(Sp.tok l).length
  ·rw[if_pos (.inr (.inl h5)),if_neg]
   cases ht:Sp.tok l with
   | nil=>exact absurd ht dF
   | cons c r =>
    rw[ht]at h5 h1 hd;have hc:=hd c (by simp);unfold bx at hc;simp at hc;have so:c.toNat≠48:=fun e=>h1 ⟨by simp at h5 ⊢;omega,by simp;exact UInt8.toNat_inj.1 e⟩
    have e:bj (c :: r)=dW (0*10+(c.toNat - 48)) r:=rfl;have hp:=uq r (0*10+(c.toNat - 48));have gB:10 ^ 5<=10 ^ r.length:=Nat.pow_le_pow_right (by omega) (by simp at h5;omega);have uC:1*10 ^ r.length<=(0*10+(c.toNat - 48))*10 ^ r.length:=Nat.mul_le_mul_right _ (by omega);rw[e];omega
  ·rw[if_neg (by rintro(k | k | k);exact dF k;exact h5 k;exact h1 ⟨k.2,k.1⟩),if_pos hd]
   split<;>rfl
theorem wh(h:aC l≠3):oe (Sp.tok l)=-1:=by
 unfold oe;split
 ·rfl
 ·rename_i hn
  rw[if_neg];intro uU;cases ht:Sp.tok l with
  | nil=>exact hn (.inl ht)
  | cons c r=>exact h (I4 ht (uU c (by rw[ht];simp)))
end
section
section
variable{p p' p1 p2:FP}
variable{l l' l1 l2:Sp.Bs}
variable{i pb gg cap:Nat}
def left{α:Type}:Sp.R α->Except (Nat × Nat) Sp.Bs
 | .ok (_,l)=>.ok l
 | .error e=>.error e
def In64(n:Int):Prop:=-9223372036854775808<=n/\n<=9223372036854775807
def eI(p:FP)(l:Sp.Bs):Prop:=p.ns.length+2*l.length<=2000/\p.qs.length+l.length<=2000/\In64 p.ct.1
structure bQ(p p':FP)(l l':Sp.Bs):Prop where
 pre:∃ex,p'.ns=p.ns ++ ex
 nl:p'.ns.length+2*l'.length<=p.ns.length+2*l.length
 ql:p'.qs.length+l'.length<=p.qs.length+l.length
 pt:In64 p.ct.1->In64 p'.ct.1
theorem bQ.len(h:bQ p p' l l'):p.ns.length<=p'.ns.length:=by obtain⟨ex,e⟩:=h.pre;rw[e];simp
theorem bQ.at(h:bQ p p' l l')(hi:i<p.ns.length):p'.ns[i]?=p.ns[i]?:=by obtain⟨ex,e⟩:=h.pre;rw[e,List.getElem?_append_left hi]
theorem bQ.trans(h:bQ p p1 l l1)(k:bQ p1 p2 l1 l2):bQ p p2 l l2:=by
 obtain⟨e1,h1⟩:=h.pre;obtain⟨e2,h2⟩:=k.pre;refine⟨⟨e1 ++ e2,by rw[h2,h1,List.append_assoc]⟩,?_,?_,fun q=>k.pt (h.pt q)⟩
 ·have:=h.nl;have:=k.nl;omega
 ·have:=h.ql;have:=k.ql;omega
theorem bQ.D9(h:bQ p p' l l')(k:eI p l):eI p' l':=by have:=h.nl;have:=h.ql;obtain⟨k1,k2,k3⟩:=k;exact⟨by omega,by omega,h.pt k3⟩
theorem bQ.xY(h:l'.length<=l.length):bQ p p l l':=⟨⟨[],by simp⟩,by omega,by omega,id⟩
theorem bQ.node(h:bQ p p' l l')(n:aH)(v:Value)(hs:p'.ns.length+1+2*l'.length<=p.ns.length+2*l.length):bQ p { p' with ns:=p'.ns ++ [n],nv:=v } l l':=by obtain⟨ex,e⟩:=h.pre;exact⟨⟨ex ++ [n],by show p'.ns ++ [n]=_;rw[e,List.append_assoc]⟩,by simp;omega,h.ql,h.pt⟩
def dh(p p':FP)(l:Sp.Bs):Prop:=(∃ex,p'.ns=p.ns ++ ex)/\p'.ns.length<=p.ns.length+2*l.length+2
theorem dh.refl(p:FP)(l:Sp.Bs):dh p p l:=⟨⟨[],by simp⟩,by omega⟩
theorem dh.made(h:bQ p p1 l l1)(k:dh p1 p2 l1):dh p p2 l:=by obtain⟨e1,h1⟩:=h.pre;obtain⟨⟨e2,h2⟩,h3⟩:=k;have:=h.nl;exact⟨⟨e1 ++ e2,by rw[h2,h1,List.append_assoc]⟩,by omega⟩
theorem dh.node(h:dh p p' l1)(hl:l1.length<l.length)(n:aH)(v:Value):dh p { p' with ns:=p'.ns ++ [n],nv:=v } l:=by obtain⟨⟨ex,e⟩,h2⟩:=h;exact⟨⟨ex ++ [n],by show p'.ns ++ [n]=_;rw[e,List.append_assoc]⟩,by simp;omega⟩
theorem dh.rv(h:bQ p p' l l'):dh p p' l:=⟨h.pre,by have:=h.nl;omega⟩
theorem dh.len(h:dh p p' l):p.ns.length<=p'.ns.length:=by obtain⟨⟨ex,e⟩,_⟩:=h;rw[e];simp
theorem dh.more(h:dh p p' l1)(hl:l1.length<=l.length):dh p p' l:=⟨h.1,by have:=h.2;omega⟩
def iv(p p':FP)(l:Sp.Bs)(k:Int):Sp.R Sm->Prop
 | .ok (x,l')=>bQ p p' l l'/\(∃j:Nat,k=(j:Int)/\j<p'.ns.length/\pZ p'.ns p.ns.length x j p.ct p'.ct)/\p'.qs=p.qs ++ fm x
 | .error _=>dh p p' l
def iR(base b pb:Nat)(s:ByteArray)(o:Nat)(p:FP)(l:Sp.Bs)(w:Wd)(r:Sp.R Sm)(e:Ending)(w':Wd):Prop :=
 ∃(k:Int) (p':FP),e=υ (I O k)/\FX base b pb s (left r) (o:Int) p' w'/\FK b pb p p' w w'/\iv p p' l k r
def lJ(f:FuncId)(base b pb:Nat)(s:ByteArray)(o n:Nat)(u:Sp.Bs->Sp.R Sm):Prop :=
 ∀(l:Sp.Bs) (p:FP) (w:Wd),l.length<n->FR base b pb s l (o:Int) p w->eI p l->Calls prog f #[ρ (Y ⟨b,0,M⟩)] w (iR base b pb s o p l w (u l))
def zu(f:FuncId)(base b pb:Nat)(s:ByteArray)(v:Int):Prop :=
 ∀(er:Nat × Nat) (p:FP) (w:Wd),FE base b pb s er p w->Calls prog f #[ρ (Y ⟨b,0,M⟩)] w fun e w'=>e=υ (I O v)/\w'=w
theorem PU{w:Wd}{first:Int}(h:Bk w pb (cM p first) 105)(v:Value)(qs:List Int):(w.setCell ⟨pb,4,M⟩ v).heap[pb]?=Y (L (cM { p with qs:=qs,qv:=v } first) 105):=by rw[ah h 4 v];rfl
theorem VG:(prog.info? 3).map (fun i=>(i.zero,i.size,i.bytes))=Y (Y (I O 0),1,8):=by kernel_rfl
theorem Df{base b:Nat}{s:ByteArray}{r:Except (Nat × Nat) Sp.Bs}{oo:Int}{w w1:Wd}{o:Obj}(h:FX base b pb s r oo p w)(hn:p.qs.length+1<=1000000)(n:Int)
  (ox:w1.ownsRow base 3 1 (Z (Y ⟨gg,0,M⟩) (p.qs.length+1) cap) (p.qs.length+1) ((p.qs.map fun n=>Value.int O n) ++ [I O n])) (hg:(w.alloc o).drew.grownBy w1 p.qv.ownBlock) (z6:p.qv.ownBlock=Y gg∨gg=w.heap.size+1) :
  FX base b pb s r oo { p with qs:=p.qs ++ [n],qv:=Z (Y ⟨gg,0,M⟩) (p.qs.length+1) cap } (w1.setCell ⟨pb,4,M⟩ (Z (Y ⟨gg,0,M⟩) (p.qs.length+1) cap))/\FK b pb p { p with qs:=p.qs ++ [n],qv:=Z (Y ⟨gg,0,M⟩) (p.qs.length+1) cap } w (w1.setCell ⟨pb,4,M⟩ (Z (Y ⟨gg,0,M⟩) (p.qs.length+1) cap)):=by
 have hp:=h.prog;have cR:=ad hp.aT;obtain⟨i,a,t,o',er,hb⟩:=h.KZ;have gT:∀k,k<w.heap.size->p.qv.ownBlock≠Y k->w1.heap[k]?=w.heap[k]?:=fun k hk hn=>by rw[hg.block k (by show k<(w.alloc o).heap.size;simp;omega) (fun e=>hn e.symm)];exact Below.heap_alloc _ _ _ hk
 have dC:w.heap.size<=w1.heap.size:=by
  have:=hg.size;have h2:(w.alloc o).drew.heap.size=w.heap.size+1:=by show(w.alloc o).heap.size=_;simp
  omega
 have KI:=hp.dE hp.aT kZ;have eg:=hp.dE hb jZ;have rY:w1.heap[pb]?=Y (L (cM p 0) 105):=by rw[gT pb cR KI.2];exact hp.aT
 have ZM:lG base pb { p with qs:=p.qs ++ [n],qv:=Z (Y ⟨gg,0,M⟩) (p.qs.length+1) cap } (w1.setCell ⟨pb,4,M⟩ (Z (Y ⟨gg,0,M⟩) (p.qs.length+1) cap)):=by
  refine⟨PU rY _ _,?_,?_,hp.ge,hp.n5,by simp;omega⟩
  ·refine aY hp.jS (fun g pM=>?_)
   have uA:=(bJ hp.jS g pM).2.1;rw[Below.heap_setCell _ _ _ _ (fun e=>KI.1 (by rw[<-show g=pb from e];exact pM))];exact gT g uA (fun e=>hp.qx g pM e)
  ·show World.ownsRow _ base 3 1 _ (p.qs ++ [n]).length ((p.qs ++ [n]).map _)
   rw[List.map_append,List.length_append];exact aY ox (fun g pM=>Below.heap_setCell _ _ _ _ (fun e=>by obtain⟨_,_,c,hc⟩:=bJ ox g pM;have e':g=pb:=e;rw[e',rY]at hc;cases hc))
 refine⟨h.move ?_ ZM,hg.os,hg.tape,hg.output,by simp[World.setCell];omega,fun _ e=>.inl e,?_,?_⟩
 ·rw[Below.heap_setCell _ _ _ _ h.ne]
  exact gT b (ad hb) eg.2
 ·intro g pM
  have e:gg=g:=by simpa [Value.ownBlock] using pM
  subst e
  rcases z6 with h1 | h1
  ·exact .inl h1
  ·exact .inr (by omega)
 ·intro k hk _ h2 _ h4
  rw[Below.heap_setCell _ _ _ _ h2];exact gT k hk h4
theorem wP(base b pb:Nat)(s:ByteArray):zu 210 base b pb s 0:=by
 intro er p w h;obtain⟨i,l0,o,hb,UL⟩:=h.aT;have c6:=cell_of hb 6 (v:=I O er.1) rfl;have c3:=cell_of hb 3 (v:=χ ⟨(Sp.tok l0).toArray⟩) rfl;have hz:((er.1:Int) == 0)=false:=by have:=h.nz;simp;omega
 have gU:¬ ((er.1:Int)=0):=by have:=h.nz;omega
 have dC:(⟨(Sp.tok l0).toArray⟩:ByteArray).size<=400:=by rw[nH,eD];have:=fD l0;omega
 generalize (er.1:Int)=q at *;clear h hb;go_enter func210,ntmps210;go_wp2_with fail;refine(gj _ dC _).mono ?_;rintro e w1⟨rfl,rfl⟩;go_wp2_with fail;refine(cZ l0 UL _).mono ?_;rintro e w1⟨rfl,rfl⟩;go_wp2_with fail;go_ret;exact⟨rfl,rfl⟩
end
end
section
section
variable{base b pb o:Nat}
variable{s:ByteArray}
variable{l:Sp.Bs}
variable{p:FP}
variable{w w':Wd}
theorem FR.asks{o:Int}(h:FR base b pb s l o p w):w.cell? ⟨b,6,M⟩=Y (I O 0)/\w.cell? ⟨b,3,M⟩=Y (χ ⟨(Sp.tok l).toArray⟩)/\(⟨(Sp.tok l).toArray⟩:ByteArray).size<=400/\l.length<=400:=by have h1:=h.len;have h2:=h.sz;have h3:=fD l;exact⟨cell_of h.aT 6 rfl,cell_of h.aT 3 rfl,by rw[nH,eD];omega,by omega⟩
theorem qJ(h:Sp.tok l=[45]):aC l≠3/\aC l≠2:=by
 constructor
 ·intro k
  have:=(de k).2 45 (by rw[h];simp);simp[bx]at this
 ·intro k
  cases l with
  | nil=>simp[Sp.tok]at h
  | cons d q =>
   have e:d=45:=by
    unfold Sp.tok at h;cases hn:aZ (d :: q) with
    | zero=>rw[hn]at h;simp at h
    | succ m=>rw[hn,List.take_succ_cons]at h;exact(List.cons.inj h).1
   subst e;rw[bU]at k;simp[Sp.isLet,bx]at k;split at k<;>omega
theorem nG(h:Sp.tok l=[40]):aC l≠3/\aC l≠2:=by
 constructor
 ·intro k
  have:=(de k).2 40 (by rw[h];simp);simp[bx]at this
 ·intro k
  cases l with
  | nil=>simp[Sp.tok]at h
  | cons d q =>
   have e:d=40:=by
    unfold Sp.tok at h;cases hn:aZ (d :: q) with
    | zero=>rw[hn]at h;simp at h
    | succ m=>rw[hn,List.take_succ_cons]at h;exact(List.cons.inj h).1
   subst e;rw[bU]at k;simp[Sp.isLet,bx]at k;split at k<;>omega
theorem vZ{f:FuncId}{o n:Nat}{u:Sp.Bs->Sp.R Sm}{v:Int}{r:Except (Nat × Nat) Sp.Bs}(hr:∀l,r=.ok l->lJ f base b pb s o n u/\l.length<n/\eI p l)(hi:zu f base b pb s v)(h:FX base b pb s r (o:Int) p w) :
  Calls prog f #[ρ (Y ⟨b,0,M⟩)] w fun e w'=>∃(k:Int) (p':FP),e=υ (I O k)/\FX base b pb s (r.bind fun l=>left (u l)) (o:Int) p' w'/\FK b pb p p' w w'/\(∀l,r=.ok l->iv p p' l k (u l))/\(∀e,r=.error e->p'=p):=by
 cases r with
 | ok l =>obtain⟨h1,h2,h3⟩:=hr l rfl;refine(h1 l p w h2 h h3).mono ?_;rintro e w'⟨k,p',rfl,h1,k1,g1⟩;exact⟨k,p',rfl,h1,k1,fun l' hl=>by cases hl;exact g1,fun _ hl=>nomatch hl⟩
 | error e =>refine(hi e p w h).mono ?_;rintro e' w'⟨rfl,rfl⟩;exact⟨v,p,rfl,h,FK.refl _ _ _ _,(fun _ hl=>nomatch hl),fun _ _=>rfl⟩
theorem Lp{u:Sp.Bs->Sp.R Sm}{r:Except (Nat × Nat) Sp.Bs}{p':FP}{k:Int}(hl:eI p l)(hr:∀l1,r=.ok l1->l1.length<=l.length)(g:∀l1,r=.ok l1->iv p p' l1 k (u l1))(e:∀e,r=.error e->p'=p):p'.ns.length+1<=1000000:=by
 obtain⟨h1,h2,_⟩:=hl;cases r with
 | error er=>rw[e er rfl];omega
 | ok l1 =>
  have g1:=g l1 rfl;have:=hr l1 rfl;cases hu:u l1 with
  | error er=>rw[hu]at g1;have:=(show dh p p' l1 from g1).2;omega
  | ok xl=>rw[hu]at g1;have:=g1.1.nl;omega
theorem OK{u:Sp.Bs->Sp.R Sm}{p1:FP}{k:Int}{n:aH}{v:Value}(ht:Sp.tok l=[45])(hn:n.kind=3)(ha:n.a=k)
  (g:∀l1,Sp.enter [45] o l=.ok l1->iv p p1 l1 k (u l1)) (he:∀e,Sp.enter [45] o l=.error e->p1=p)
  (h5:FX base b pb s ((Sp.enter [45] o l).bind fun l=>left (u l)) (o:Int) { p1 with ns:=p1.ns ++ [n],nv:=v } w') (k5:FK b pb p { p1 with ns:=p1.ns ++ [n],nv:=v } w w') :
  iR base b pb s o p l w (kB Tr u o l) (υ (I O (p1.ns.length:Nat))) w':=by
 have eO:=aG ht (by simp);refine⟨_,_,rfl,?_,k5,?_⟩
 ·cases hq:Sp.enter [45] o l with
  | error e=>rw[hq]at h5;unfold kB;rw[hq];exact h5
  | ok l1 =>
   rw[hq]at h5;unfold kB;rw[hq];simp only[Except.bind]at h5 ⊢;cases hu:u l1 with
   | error e=>rw[hu]at h5;exact h5
   | ok xl=>rw[hu]at h5;exact h5
 ·cases hq:Sp.enter [45] o l with
  | error e =>unfold kB;rw[hq];show dh p _ l;rw[he e hq];exact⟨⟨[n],rfl⟩,by simp;omega⟩
  | ok l1 =>
   obtain⟨_,_,yd⟩:=cN hq;have g1:=g l1 hq;unfold kB;rw[hq];simp only;cases hu:u l1 with
   | error e =>rw[hu]at g1;exact dh.node (l1:=l1) g1 (by rw[yd];omega) n v
   | ok xl =>obtain⟨x,l2⟩:=xl;rw[hu]at g1;obtain⟨m1,⟨j,yT,Ia,Ea⟩,DV⟩:=g1;have hm:bQ p p1 l l2:=(bQ.xY (by rw[yd];omega)).trans m1;refine⟨hm.node n v (by have:=m1.nl;rw[yd]at this;omega),⟨p1.ns.length,rfl,by simp,?_⟩,DV⟩;refine⟨n,j,by simp,hn,by rw[ha,yT],Ia,Ea.mono (Nat.le_refl _) (fun i _ hi=>?_)⟩;show(p1.ns ++ [n])[i]?=_;rw[List.getElem?_append_left (by omega)]
theorem DJ(base b pb:Nat)(s:ByteArray)(o n:Nat)(ho:o<=12)(hr:o<12->lJ 210 base b pb s (o+1) n (bk Tr n (o+1)))
  (l:Sp.Bs) (p:FP) (w:Wd) (hl:l.length<n+1) (h:FR base b pb s l (o:Int) p w) (hlim:eI p l) (ht:Sp.tok l=[45]) :
  Calls prog 210 #[ρ (Y ⟨b,0,M⟩)] w (iR base b pb s o p l w (bk Tr (n+1) o l)):=by
 obtain⟨c6,c3,dC,vu⟩:=h.asks;have hE:Hid (bk Tr (n+1) o l=kB Tr (bk Tr n (o+1)) o l):=by unfold Hid;rw[gd,if_neg (qJ ht).1,if_neg (qJ ht).2,if_pos ht]
 have HN:Hid (∀w,Calls prog 129 #[χ ⟨[45].toArray⟩] w fun e w'=>e=υ (U (aQ l).isSome)/\w'=w):=by rw[<-ht];exact cZ l vu
 have eO:=aG ht (by simp);rw[ht]at c3 dC;have Qq:Hid (∀l1,Sp.enter [45] o l=.ok l1->l1=Sp.next l/\o<12):=fun l1 e=>by obtain⟨_,h2,h3⟩:=cN e;exact⟨h3,by omega⟩
 have HR:=hid hr;have HT:=hid ht;clear hr ht;go_enter func210,ntmps210;go_wp2_with fail;refine(gj _ dC _).mono ?_;rintro e w1⟨rfl,rfl⟩;go_wp2_with fail;refine(HN.out _).mono ?_;rintro e w1⟨rfl,rfl⟩;go_wp2_with fail;refine(AU ho h [45]).mono ?_;rintro e w2⟨rfl,h2,k2⟩;go_wp2_with fail;refine(vZ (o:=o+1) (n:=n) (u:=bk Tr n (o+1)) (fun l1 e1=>by obtain⟨e2,e3⟩:=Qq.out l1 e1;refine⟨HR.out e3,by rw[e2];omega,?_⟩;rw[e2];exact(bQ.xY (by omega)).D9 hlim) (wP base b pb s) h2).mono ?_
 rintro e w3⟨k,p1,rfl,h3,k3,g3,e3⟩;obtain⟨q,c5,f5,hq,hs⟩:=h3.mD 0;obtain⟨h4,k4⟩:=hs (RowKit.wrap64 (q - 1)) (o:Int) (fun l e=>by rw[hq l e,IntWalk.wrap64_in _ (by omega)];omega);have iD:=Lp (l:=l) hlim (fun l1 e1=>by rw[(Qq.out l1 e1).1];omega) g3 e3;have H4:=hid (And.intro h4 k4);have G3:=hid (And.intro g3 e3);clear hs hq h4 k4 g3 e3;go_wp2_with fail;refine(eF H4.1 { kind:=3,a:=k } iD).mono ?_;rintro e w5⟨rfl,v,h5,k5⟩;go_wp2_with fail;go_ret;rw[hE.out];exact OK HT.out rfl rfl G3.1 G3.2 h5 ((k2.trans k3).trans (H4.2.trans k5))
end
end
end Go.Proofs.YtiopfihjmkfdmaaGreatDoor
