import Derived.Test.YtiopfihjmkfdmaaGreatDoorB5
import Derived.Test.YtiopfihjmkfdmaaGreatDoorB8
import Derived.Deep.Cut
import Derived.Laws.BytesString
import Derived.Laws.Concat
namespace Go.Proofs.YtiopfihjmkfdmaaGreatDoor
open Go.Proofs.Tryz Sp
open Go.RowKit
set_option maxRecDepth 100000
set_option maxHeartbeats 16000000
section
variable{b pb base k j gg cap:Nat}
variable{w w' w1 w2:Wd}
variable{s t x:ByteArray}
variable{l l':Sp.Bs}
variable{o i a at_ ii o' first oo:Int}
variable{er:Nat × Nat}
structure mL(b:Nat)(w w':Wd):Prop where
 os:w'.os=w.os
 tape:w'.tape=w.tape
 output:w'.output=w.output
 size:w.heap.size<=w'.heap.size
 block:∀k,k<w.heap.size->k≠b->w'.heap[k]?=w.heap[k]?
theorem mL.refl(b:Nat)(w:Wd):mL b w w:=⟨rfl,rfl,rfl,Nat.le_refl _,fun _ _ _=>rfl⟩
theorem mL.setCell(h:mL b w w'){p:Addr}(hp:p.block=b∨w.heap.size<=p.block)(u:Value):mL b w (w'.setCell p u) :=
 ⟨h.os,h.tape,h.output,by have:=h.size;simp[World.setCell];omega,fun k hk hb=>by rw[Below.heap_setCell _ _ _ _ (by rcases hp with rfl | hp<;>omega)];exact h.block k hk hb⟩
theorem mL.aB(h:Below w.heap.size w w'):mL b w w' :=
 ⟨h.os,h.tape,h.output,h.size,fun k hk _=>h.block k hk⟩
structure aJ where
 kind:Int:=0
 a:Int:=0
 b:Int:=0
 c:Int:=0
 n:Int:=0
 next:Int:=0
 sign:Sp.Bs:=[]
 site:Int:=0
 aA:Int:=0
 els:Bool:=false
def cw(x:aJ):List Value:=[.int .i64 x.kind,.int .i64 x.a,.int .i64 x.b,.int .i64 x.c,.int .i64 x.n,.int .i64 x.next,.string ⟨x.sign.toArray⟩,.int .i64 x.site,.int .i64 x.aA,.bool x.els]
def fR(ns:List aJ):List Value:=(ns.map cw).flatten
structure FP where
 ns:List aJ
 ct:Int × Int
 qs:List Int
 nv:Value
 qv:Value
def cM(p:FP)(first:Int):Array Value:=#[p.nv,.int .i64 first,.int .i64 p.ct.1,.int .i64 p.ct.2,p.qv]
def ch(s:ByteArray)(i at_:Int)(t:ByteArray)(pb:Nat)(o er:Int):Array Value :=
 #[.string s,.int .i64 i,.int .i64 at_,.string t,.pointer (some ⟨pb,0,none⟩),.int .i64 o,.int .i64 er]
structure lj(base pb:Nat)(p:FP)(w:Wd):Prop where
 aV:w.heap[pb]?=some (.cells (cM p 0) 105)
 jF:w.ownsRow base 176 10 p.nv p.ns.length (fR p.ns)
 kF:w.ownsRow base 3 1 p.qv p.qs.length (p.qs.map fun n=>.int .i64 n)
 ge:base<=pb
 n5:p.ns.length<=1000000
 q5:p.qs.length<=1000000
structure FR(base b pb:Nat)(s:ByteArray)(l:Sp.Bs)(o:Int)(p:FP)(w:Wd):Prop where
 aV:w.heap[b]?=some (.cells (ch s ((s.size - l.length+bf l:Nat):Int) ((s.size - l.length:Nat):Int) ⟨(Sp.tok l).toArray⟩ pb o 0) 174)
 prog:lj base pb p w
 suf:l <:+ s.data.toList
 sz:s.size<=400
 ge:base<=b
 ne:b≠pb
structure FE(base b pb:Nat)(s:ByteArray)(er:Nat × Nat)(p:FP)(w:Wd):Prop where
 aV:∃(i:Int) (l:Sp.Bs) (o:Int),w.heap[b]?=some (.cells (ch s i ((s.size - er.2:Nat):Int) ⟨(Sp.tok l).toArray⟩ pb o er.1) 174)/\l.length<=400
 prog:lj base pb p w
 nz:er.1≠0
 ge:base<=b
 ne:b≠pb
structure FK(b pb:Nat)(p p':FP)(w w':Wd):Prop where
 os:w'.os=w.os
 tape:w'.tape=w.tape
 output:w'.output=w.output
 size:w.heap.size<=w'.heap.size
 jF:∀g,p'.nv.ownBlock=some g->p.nv.ownBlock=some g∨w.heap.size<=g
 kF:∀g,p'.qv.ownBlock=some g->p.qv.ownBlock=some g∨w.heap.size<=g
 block:∀k,k<w.heap.size->k≠b->k≠pb->p.nv.ownBlock≠some k->p.qv.ownBlock≠some k->w'.heap[k]?=w.heap[k]?
theorem FK.refl(b pb:Nat)(p:FP)(w:Wd):FK b pb p p w w:=⟨rfl,rfl,rfl,Nat.le_refl _,fun _ h=>.inl h,fun _ h=>.inl h,fun _ _ _ _ _ _=>rfl⟩
theorem FK.trans{p p1 p2:FP}(h:FK b pb p p1 w w1)(k:FK b pb p1 p2 w1 w2):FK b pb p p2 w w2:=by
 have hs:=h.size;refine⟨k.os.trans h.os,k.tape.trans h.tape,k.output.trans h.output,Nat.le_trans h.size k.size,?_,?_,?_⟩
 ·intro g hg
  rcases k.jF g hg with h1 | h1
  ·exact h.jF g h1
  ·exact .inr (by omega)
 ·intro g hg
  rcases k.kF g hg with h1 | h1
  ·exact h.kF g h1
  ·exact .inr (by omega)
 ·intro i hi h1 h2 h3 h4
  rw[k.block i (by omega) h1 h2 (fun e=>by rcases h.jF i e with e' | e';exact h3 e';omega) (fun e=>by rcases h.kF i e with e' | e';exact h4 e';omega)];exact h.block i hi h1 h2 h3 h4
theorem FK.aB{p:FP}(h:Below w.heap.size w w'):FK b pb p p w w' :=
 ⟨h.os,h.tape,h.output,h.size,fun _ h=>.inl h,fun _ h=>.inl h,fun k hk _ _ _ _=>h.block k hk⟩
theorem FK.below{p p':FP}(h:FK b pb p p' w w')(hp:lj base pb p w)(hb:base<=b)(hw:base<=w.heap.size):Below base w w' :=
 ⟨h.os,h.tape,h.output,h.size,fun k hk=>h.block k (by omega) (by omega) (by have:=hp.ge;omega) (fun e=>by have:=(bj hp.jF k e).1;omega) (fun e=>by have:=(bj hp.kF k e).1;omega)⟩
theorem FR.len{p:FP}(h:FR base b pb s l o p w):l.length<=s.size:=by have:=h.suf.length_le;simpa using this
theorem lj.dM{p:FP}(h:lj base pb p w){c:Array Value}{t:TypeId}(hb:Bk w b c t)(ht:t≠176/\t≠3):p.nv.ownBlock≠some b/\p.qv.ownBlock≠some b:=by
 constructor
 ·intro e
  obtain⟨_,_,c',hc⟩:=bj h.jF b e;rw[hb]at hc;cases hc;exact ht.1 rfl
 ·intro e
  obtain⟨_,_,c',hc⟩:=bj h.kF b e;rw[hb]at hc;cases hc;exact ht.2 rfl
theorem lj.after{p:FP}(h:lj base pb p w)(hb:Below w.heap.size w w'):lj base pb p w' :=
 ⟨by rw[hb.block _ (ah h.aV)];exact h.aV,aZ h.jF (fun g hg=>hb.block g (bj h.jF g hg).2.1),aZ h.kF (fun g hg=>hb.block g (bj h.kF g hg).2.1),h.ge,h.n5,h.q5⟩
theorem gC(c:UInt8)(w:Wd):Calls prog 95 #[.int .u8 c.toNat] w fun e w'=>e=.returned (.bool (Sp.isLet c))/\w'=w:=by
 go_enter func95,ntmps95
 go_wp2
 all_goals
  go_ret;exact⟨bA (by unfold Sp.isLet;rw[Bool.eq_iff_iff];simp;omega),rfl⟩
theorem gr(c:UInt8)(w:Wd):Calls prog 96 #[.int .u8 c.toNat] w fun e w'=>e=.returned (.bool (bq c))/\w'=w:=by
 go_enter func96,ntmps96
 go_wp2
 all_goals
  go_ret;exact⟨bA (by unfold bq;rw[Bool.eq_iff_iff];simp;omega),rfl⟩
def vI:ByteArray:=⟨#[60,62,61,43,45,42,47,37,40,41,123,125,59]⟩
theorem ED:vI.size=13:=rfl
theorem Fm:vI.data.toList=pD:=rfl
theorem drop_cons(s:ByteArray)(i:Nat)(h:i<s.size):s.data.toList.drop i=s[i] :: s.data.toList.drop (i+1):=by rw[List.drop_eq_getElem_cons (by simpa using h)];rfl
theorem qV(s:ByteArray)(i:Nat)(h:i<s.size):bG (s.data.toList.drop i)=if(∃h1:i+1<s.size,s[i+1].toNat=61)/\s[i]∈tX then 2 else if s[i]∈pD then 1 else 0:=by
 rw[drop_cons s i h,jE];have e:(s.data.toList.drop (i+1)).head?=some 61↔∃h1:i+1<s.size,s[i+1].toNat=61:=by
  by_cases h1:i+1<s.size
  ·rw[drop_cons s (i+1) h1]
   simp only[List.head?_cons,Option.some.injEq];constructor
   ·intro e;exact⟨h1,by rw[e];rfl⟩
   ·rintro⟨_,e⟩;exact UInt8.toNat_inj.1 e
  ·rw[List.drop_of_length_le (by simpa using h1)]
   simp[h1]
 by_cases hc:(∃h1:i+1<s.size,s[i+1].toNat=61)/\s[i]∈tX
 ·rw[if_pos hc,if_pos ⟨e.2 hc.1,hc.2⟩]
 ·rw[if_neg hc,if_neg (fun k=>hc ⟨e.1 k.1,k.2⟩)]
theorem CL(c:UInt8):c∈tX↔((c.toNat:Int)=60∨(c.toNat:Int)=62∨(c.toNat:Int)=61∨(c.toNat:Int)=33):=by unfold tX;simp only[List.mem_cons,List.not_mem_nil,or_false,<-UInt8.toNat_inj];show c.toNat=60∨c.toNat=62∨c.toNat=61∨c.toNat=33↔_;omega
theorem Ou(j:Nat)(h:j<vI.size):pD[j]?=some vI[j]:=by have:=byte_at vI j h;rw[<-Fm];exact this
theorem Ey(s:ByteArray)(i:Nat)(h:i<s.size)(hs:s.size<=400)(w:Wd)(ht:¬ ((∃h1:i+1<s.size,s[i+1].toNat=61)/\s[i]∈tX)) :
  Calls prog 97 #[.string s,.int .i64 i] w fun e w'=>e=.returned (.int .i64 (bG (s.data.toList.drop i)))/\Below w.heap.size w w':=by
 have aU:Hid (bG (s.data.toList.drop i)=if s[i]∈pD then 1 else 0):=by unfold Hid;rw[qV s i h,if_neg ht]
 have To:(i:Int)<(s.size:Int):=by omega
 have Tw:(¬ (i:Int)+1<(s.size:Int))∨(∃h1:i+1<s.size,(i:Int)+1<(s.size:Int)/\¬ (s[i+1].toNat:Int)=61)∨(∃h1:i+1<s.size,(i:Int)+1<(s.size:Int)/\(s[i+1].toNat:Int)=61/\((s[i].toNat:Int) == 60)=false/\((s[i].toNat:Int) == 62)=false/\((s[i].toNat:Int) == 61)=false/\((s[i].toNat:Int) == 33)=false):=by
  by_cases h1:i+1<s.size
  ·by_cases Ug:(s[i+1].toNat:Int)=61
   ·have hn:¬ s[i]∈tX:=fun k=>ht ⟨⟨h1,by omega⟩,k⟩
    rw[CL]at hn;exact .inr (.inr ⟨h1,by omega,Ug,beq_eq_false_iff_ne.2 (fun e=>hn (.inl e)),beq_eq_false_iff_ne.2 (fun e=>hn (.inr (.inl e))),beq_eq_false_iff_ne.2 (fun e=>hn (.inr (.inr (.inl e)))),beq_eq_false_iff_ne.2 (fun e=>hn (.inr (.inr (.inr e))))⟩)
   ·exact .inr (.inl ⟨h1,by omega,Ug⟩)
  ·exact .inl (by omega)
 clear ht
 rcases Tw with h1 | ⟨h1,Zl,Ug⟩ | ⟨h1,Zl,Ug,n1,n2,n3,n4⟩
 all_goals
  go_enter func97,ntmps97;go_wp2_with fail;have hSs:=ED;have QQ:=hid Ou;rw[show(⟨#[60,62,61,43,45,42,47,37,40,41,123,125,59]⟩:ByteArray)=vI from rfl];generalize vI=S at *
  go_loopw [6] (fun n wr=>∃j:Nat,j<=13/\Hid (∀q,q<j->pD[q]?≠some s[i])/\n=.int .i64 j/\Hid (Below w.heap.size w wr)) (fun n _=>13 - (intOf n).toNat)
  case atStart=>exact⟨0,Nat.zero_le _,fun q hq=>absurd hq (Nat.not_lt_zero _),rfl,Below.refl _ _⟩
  case round =>
   obtain⟨j,hj,hm,rfl,hB⟩:=hrel;by_cases DH:j<13
   ·have uq:(j:Int)<(S.size:Int):=by omega
    have Ro:j<S.size:=by omega
    have hSi:(S.size:Int)=13:=by omega
    by_cases he:(s[i].toNat:Int)=(S[j].toNat:Int)
    ·have hE:Hid (bG (s.data.toList.drop i)=1):=by
      unfold Hid;rw[aU.out,if_pos];have h2:=QQ.out j Ro;have h3:s[i]=S[j]:=UInt8.toNat_inj.1 (by omega);rw[h3];exact List.mem_of_getElem? h2
     go_wp2_with fail
     go_region_with (fail)
     all_goals
      go_wp2_with fail;go_ret;exact⟨by rw[hE.out];rfl,hB.drew⟩
    ·have hM:Hid (∀q,q<j+1->pD[q]?≠some s[i]):=by
      intro q hq e;by_cases Vx:q=j
      ·subst Vx
       rw[QQ.out q Ro]at e;apply he;have:S[q]=s[i]:=Option.some.inj e;rw[this]
      ·exact hm.out q (by omega) e
     go_wp2_with fail
     go_region_with (fail)
     all_goals
      go_wp2_with fail;exact⟨⟨j+1,by omega,hM,by go_num,hB.drew⟩,by simp[intOf];omega⟩
   ·have uq:¬ (j:Int)<(S.size:Int):=by omega
    have hE:Hid (bG (s.data.toList.drop i)=0):=by unfold Hid;rw[aU.out,if_neg];intro aae;obtain⟨q,hq⟩:=List.getElem?_of_mem aae;refine hm.out q ?_ hq;have:=(List.getElem?_eq_some_iff.1 hq).1;have h13:pD.length=13:=rfl;omega
    go_wp2_with fail;go_ret;exact⟨by rw[hE.out];rfl,hB.out⟩
theorem Cm(s:ByteArray)(i:Nat)(h:i<s.size)(hs:s.size<=400)(w:Wd) :
  Calls prog 97 #[.string s,.int .i64 i] w fun e w'=>e=.returned (.int .i64 (bG (s.data.toList.drop i)))/\Below w.heap.size w w':=by
 by_cases ht:(∃h1:i+1<s.size,s[i+1].toNat=61)/\s[i]∈tX
 ·have aU:Hid (bG (s.data.toList.drop i)=2):=by unfold Hid;rw[qV s i h,if_pos ht]
  obtain⟨⟨h1,Ug⟩,hm⟩:=ht;have Zl:(i:Int)+1<(s.size:Int):=by omega
  have aaC:(s[i+1].toNat:Int)=61:=by omega
  have To:(i:Int)<(s.size:Int):=by omega
  rw[CL]at hm
  rcases(show(s[i].toNat:Int)=60∨(¬ (s[i].toNat:Int)=60/\(s[i].toNat:Int)=62)∨(¬ (s[i].toNat:Int)=60/\¬ (s[i].toNat:Int)=62/\(s[i].toNat:Int)=61)∨(¬ (s[i].toNat:Int)=60/\¬ (s[i].toNat:Int)=62/\¬ (s[i].toNat:Int)=61/\(s[i].toNat:Int)=33) from by omega) with k1 | ⟨k1,k2⟩ | ⟨k1,k2,k3⟩ | ⟨k1,k2,k3,k4⟩
  all_goals
   clear hm Ug;go_enter func97,ntmps97;go_wp2_with fail;go_ret;exact⟨by rw[aU.out];rfl,Below.refl _ _⟩
 ·exact Ey s i h hs w ht
theorem yR{p:UInt8->Bool}(h:de p (s.data.toList.drop k) j)(hk:k+j<s.size)(hp:p s[k+j]=true):de p (s.data.toList.drop k) (j+1):=by
 intro q c hq hc;by_cases e:q=j
 ·subst e
  rw[List.getElem?_drop,byte_at s (k+q) hk]at hc;cases hc;exact hp
 ·exact h q c (by omega) hc
theorem pv{p:UInt8->Bool}(h:de p (s.data.toList.drop k) j)(hkj:k+j<=s.size)(hp:∀hk:k+j<s.size,p s[k+j]=false):bN p (s.data.toList.drop k)=j:=by
 refine iK p _ j ?_ h (fun c hc=>?_)
 ·rw[List.length_drop];have:s.data.toList.length=s.size:=by simp
  omega
 ·rw[List.getElem?_drop]at hc
  by_cases hk:k+j<s.size
  ·rw[byte_at s _ hk]at hc
   cases hc;exact hp hk
  ·rw[o8 s _ hk]at hc;cases hc
theorem JG{er:Int}(hb:Bk w b (ch s i a t pb o er) 174)(h1:Below w.heap.size w w1)(i' a':Int)(t':ByteArray) :
  (((w1.setCell ⟨b,2,none⟩ (.int .i64 a')).setCell ⟨b,3,none⟩ (.string t')).setCell ⟨b,1,none⟩ (.int .i64 i')).heap[b]?=some (.cells (ch s i' a' t' pb o er) 174)/\mL b w (((w1.setCell ⟨b,2,none⟩ (.int .i64 a')).setCell ⟨b,3,none⟩ (.string t')).setCell ⟨b,1,none⟩ (.int .i64 i')):=by
 have Du:w1.heap[b]?=some (.cells (ch s i a t pb o er) 174):=by rw[h1.block _ (ah hb)];exact hb
 refine⟨?_,(((mL.aB h1).setCell (p:=⟨b,2,none⟩) (.inl rfl) _).setCell (p:=⟨b,3,none⟩) (.inl rfl) _).setCell (p:=⟨b,1,none⟩) (.inl rfl) _⟩;rw[ai (ai (ai Du 2 (.int .i64 a')) 3 (.string t')) 1 (.int .i64 i')];rfl
theorem Df{er:Int}(hb:Bk w b (ch s i a t pb o er) 174)(h1:Below w.heap.size w w1) :
  w1.cell? ⟨b,0,none⟩=some (.string s)/\w1.cell? ⟨b,1,none⟩=some (.int .i64 i)/\w1.cell? ⟨b,2,none⟩=some (.int .i64 a)/\w1.cell? ⟨b,3,none⟩=some (.string t)/\w1.frozen? ⟨b,1,none⟩=false/\w1.frozen? ⟨b,2,none⟩=false/\w1.frozen? ⟨b,3,none⟩=false:=by
 have Du:w1.heap[b]?=some (.cells (ch s i a t pb o er) 174):=by rw[h1.block _ (ah hb)];exact hb
 exact⟨cell_of Du 0 rfl,cell_of Du 1 rfl,cell_of Du 2 rfl,cell_of Du 3 rfl,aw Du 1,aw Du 2,aw Du 3⟩
theorem jJ{er:Int}{a k:Nat}(hb:Bk w b (ch s i at_ t pb o er) 174)(h1:Below w.heap.size w w1)(hk:k<=s.size)(gI:Sp.skip (s.data.toList.drop a)=s.data.toList.drop k)(hj:bf (s.data.toList.drop k)=j)(hi:ii=(k:Int)+j)(hx:x=s.extract k (k+j)) :
  (((w1.setCell ⟨b,2,none⟩ (.int .i64 (k:Int))).setCell ⟨b,3,none⟩ (.string x)).setCell ⟨b,1,none⟩ (.int .i64 ii)).heap[b]?=some (.cells (ch s ((s.size - (Sp.skip (s.data.toList.drop a)).length+bf (Sp.skip (s.data.toList.drop a)):Nat):Int) ((s.size - (Sp.skip (s.data.toList.drop a)).length:Nat):Int) ⟨(Sp.tok (Sp.skip (s.data.toList.drop a))).toArray⟩ pb o er) 174)/\mL b w (((w1.setCell ⟨b,2,none⟩ (.int .i64 (k:Int))).setCell ⟨b,3,none⟩ (.string x)).setCell ⟨b,1,none⟩ (.int .i64 ii)):=by
 have e:=yH s k hk;unfold nu at e;have hl:s.size - (s.data.toList.drop k).length=k:=by
  rw[List.length_drop];have:s.data.toList.length=s.size:=by simp
  omega
 have e3:(⟨(Sp.tok (s.data.toList.drop k)).toArray⟩:ByteArray)=s.extract k (k+j):=by rw[hj]at e;have:=congrArg (fun x:Array Value=>x[2]?) e;simpa using this
 rw[gI,hl,hj,e3];have h2:=JG hb h1 ii (k:Int) x;subst hx;rw[hi]at h2 ⊢;exact h2
theorem sS{er:Int}(a:Nat)(hb:Bk w b (ch s (a:Int) at_ t pb o er) 174)(ha:a<=s.size)(hs:s.size<=400) :
  Calls prog 65 #[.pointer (some ⟨b,0,none⟩)] w fun e w'=>e=.returned (.tuple #[]) /\
   w'.heap[b]?=some (.cells (ch s ((s.size - (Sp.skip (s.data.toList.drop a)).length+bf (Sp.skip (s.data.toList.drop a)):Nat):Int) ((s.size - (Sp.skip (s.data.toList.drop a)).length:Nat):Int) ⟨(Sp.tok (Sp.skip (s.data.toList.drop a))).toArray⟩ pb o er) 174)/\mL b w w':=by
 have c1:=cell_of hb 1 (v:=.int .i64 (a:Int)) rfl;have HB:=hid hb;clear hb;go_enter func65,ntmps65;go_wp2_with fail;clear c1
 go_loopw [2] (fun n wr=>∃k:Nat,k<=s.size/\Hid (jf s.data.toList a k)/\n=.int .i64 k/\Hid (Below w.heap.size w wr)) (fun n _=>s.size - (intOf n).toNat)
 case atStart=>exact⟨a,ha,rfl,rfl,Below.refl _ _⟩
 case round =>
  obtain⟨k,hk,hm,rfl,hB⟩:=hrel;obtain⟨c0,c1,c2,c3,f1,f2,f3⟩:=Df HB.out hB.out;by_cases dj:k<s.size
  ·have hki:(k:Int)<(s.size:Int):=by omega
   by_cases DW:(s[k].toNat:Int)=32
   ·have uQ:Hid (jf s.data.toList a (k+1)):=hm.succ dj ((jI _).2 (.inl DW))
    go_wp2_with fail;exact⟨⟨k+1,by omega,uQ,by go_num,hB⟩,by simp[intOf];omega⟩
   ·have aap:((s[k].toNat:Int) == 32)=false:=by simpa using DW
    by_cases hY:(s[k].toNat:Int)=10
    ·have uQ:Hid (jf s.data.toList a (k+1)):=hm.succ dj ((jI _).2 (.inr hY))
     go_wp2_with fail;exact⟨⟨k+1,by omega,uQ,by go_num,hB⟩,by simp[intOf];omega⟩
    ·have aar:((s[k].toNat:Int) == 10)=false:=by simpa using hY
     have gI:Hid (Sp.skip (s.data.toList.drop a)=s.data.toList.drop k):=hm.stop (fun _=>by
      cases hb:mC s[k]
      ·rfl
      ·exact absurd ((jI _).1 hb) (fun h=>h.elim DW hY))
     clear hm;have Kl:Hid (bf (s.data.toList.drop k)=if Sp.isLet s[k] then bN Sp.isLet (s.data.toList.drop k) else if bq s[k] then bN bq (s.data.toList.drop k) else bG (s.data.toList.drop k)):=by unfold Hid;rw[drop_cons s k dj,eD]
     by_cases hL:Sp.isLet s[k]=true
     ·go_wp2_with fail
      refine(gC _ _).mono ?_;rintro e w'⟨rfl,rfl⟩;rw[hL];go_wp2_with fail
      go_loopw [3] (fun n wx=>∃j:Nat,k+j<=s.size/\Hid (de Sp.isLet (s.data.toList.drop k) j)/\n=.int .i64 ((k+j:Nat):Int)/\wx=w') (fun n _=>s.size - (intOf n).toNat)
      case atStart=>exact⟨0,by omega,(fun q c hq _=>absurd hq (Nat.not_lt_zero _)),rfl,rfl⟩
      case round =>
       obtain⟨j,hj,hM,rfl,rfl⟩:=hrel;by_cases DH:k+j<s.size
       ·have uq:((k+j:Nat):Int)<(s.size:Int):=by omega
        by_cases hJ:Sp.isLet s[k+j]=true
        ·have ZP:Hid (de Sp.isLet (s.data.toList.drop k) (j+1)):=yR hM.out DH hJ
         go_wp2_with fail;refine(gC _ _).mono ?_;rintro e w'⟨rfl,rfl⟩;rw[hJ];go_wp2_with fail;exact⟨⟨j+1,by omega,ZP,by go_num,trivial⟩,by simp[intOf];omega⟩
        ·have Xm:Sp.isLet s[k+j]=false:=by simpa using hJ
         have hN:Hid (bf (s.data.toList.drop k)=j):=by unfold Hid;rw[Kl.out,if_pos hL];exact pv hM.out hj (fun _=>Xm)
         go_wp2_with fail;refine(gC _ _).mono ?_;rintro e w'⟨rfl,rfl⟩;rw[Xm];go_wp2_with fail
         go_end0
         exact⟨rfl,jJ HB.out hB.out hk gI.out hN.out (by omega) (by first | rfl | simp)⟩
       ·have uq:¬ ((k+j:Nat):Int)<(s.size:Int):=by omega
        have hN:Hid (bf (s.data.toList.drop k)=j):=by unfold Hid;rw[Kl.out,if_pos hL];exact pv hM.out hj (fun h=>absurd h DH)
        go_wp2_with fail
        go_end0
        exact⟨rfl,jJ HB.out hB.out hk gI.out hN.out (by omega) (by first | rfl | simp)⟩
     ·have hL0:Sp.isLet s[k]=false:=by simpa using hL
      by_cases hD:bq s[k]=true
      ·go_wp2_with fail
       refine(gC _ _).mono ?_;rintro e w'⟨rfl,rfl⟩;rw[hL0];go_wp2_with fail;refine(gr _ _).mono ?_;rintro e w'⟨rfl,rfl⟩;rw[hD];go_wp2_with fail
       go_loopw [3] (fun n wx=>∃j:Nat,k+j<=s.size/\Hid (de bq (s.data.toList.drop k) j)/\n=.int .i64 ((k+j:Nat):Int)/\wx=w') (fun n _=>s.size - (intOf n).toNat)
       case atStart=>exact⟨0,by omega,(fun q c hq _=>absurd hq (Nat.not_lt_zero _)),rfl,rfl⟩
       case round =>
        obtain⟨j,hj,hM,rfl,rfl⟩:=hrel;by_cases DH:k+j<s.size
        ·have uq:((k+j:Nat):Int)<(s.size:Int):=by omega
         by_cases hJ:bq s[k+j]=true
         ·have ZP:Hid (de bq (s.data.toList.drop k) (j+1)):=yR hM.out DH hJ
          go_wp2_with fail;refine(gr _ _).mono ?_;rintro e w'⟨rfl,rfl⟩;rw[hJ];go_wp2_with fail;exact⟨⟨j+1,by omega,ZP,by go_num,trivial⟩,by simp[intOf];omega⟩
         ·have Xm:bq s[k+j]=false:=by simpa using hJ
          have hN:Hid (bf (s.data.toList.drop k)=j):=by unfold Hid;rw[Kl.out,if_neg hL,if_pos hD];exact pv hM.out hj (fun _=>Xm)
          go_wp2_with fail;refine(gr _ _).mono ?_;rintro e w'⟨rfl,rfl⟩;rw[Xm];go_wp2_with fail
          go_end0
          exact⟨rfl,jJ HB.out hB.out hk gI.out hN.out (by omega) (by first | rfl | simp)⟩
        ·have uq:¬ ((k+j:Nat):Int)<(s.size:Int):=by omega
         have hN:Hid (bf (s.data.toList.drop k)=j):=by unfold Hid;rw[Kl.out,if_neg hL,if_pos hD];exact pv hM.out hj (fun h=>absurd h DH)
         go_wp2_with fail
         go_end0
         exact⟨rfl,jJ HB.out hB.out hk gI.out hN.out (by omega) (by first | rfl | simp)⟩
      ·have hD0:bq s[k]=false:=by simpa using hD
       have hN:Hid (bf (s.data.toList.drop k)=bG (s.data.toList.drop k)):=by unfold Hid;rw[Kl.out,if_neg hL,if_neg hD]
       have iw:Hid (k+bG (s.data.toList.drop k)<=s.size):=by have:=tf s k hk;unfold Hid;rw[hN.out]at this;exact this
       go_wp2_with fail;refine(gC _ _).mono ?_;rintro e w'⟨rfl,rfl⟩;rw[hL0];go_wp2_with fail;refine(gr _ _).mono ?_;rintro e w'⟨rfl,rfl⟩;rw[hD0];go_wp2_with fail;refine(Cm s k dj hs _).mono ?_;rintro e w1⟨rfl,hB1⟩;have Vy:Hid (Below w.heap.size w w1):=hB.trans (hB1.mono hB.size);obtain⟨c0',c1',ZM,Xd,f1',f2',f3'⟩:=Df HB.out Vy.out;generalize bG (s.data.toList.drop k)=j at *;have hr:=iw.out;clear c0 c1 c2 c3 f1 f2 f3 hB1;go_wp2_with fail
       go_end0
       exact⟨rfl,jJ HB.out Vy.out hk gI.out hN.out (by omega) (by first | rfl | simp)⟩
  ·have hki:¬ (k:Int)<(s.size:Int):=by omega
   have gI:Hid (Sp.skip (s.data.toList.drop a)=s.data.toList.drop k):=hm.stop (fun h=>absurd h dj);have hN:Hid (bf (s.data.toList.drop k)=0):=by unfold Hid;rw[List.drop_of_length_le (by simp;omega)];rfl
   clear hm;go_wp2_with fail
   go_end0
   exact⟨rfl,jJ HB.out hB.out hk gI.out hN.out (by omega) (by first | rfl | simp)⟩
theorem lj.ext{p:FP}(h:lj base pb p w)(x:mL b w w')(h1:b≠pb)(h2:p.nv.ownBlock≠some b)(h3:p.qv.ownBlock≠some b):lj base pb p w' :=
 ⟨by rw[x.block _ (ah h.aV) (Ne.symm h1)];exact h.aV,aZ h.jF (fun g hg=>x.block g (bj h.jF g hg).2.1 (fun e=>h2 (by rw[<-e];exact hg))),aZ h.kF (fun g hg=>x.block g (bj h.kF g hg).2.1 (fun e=>h3 (by rw[<-e];exact hg))),h.ge,h.n5,h.q5⟩
theorem FK.zQ{p:FP}(x:mL b w w'):FK b pb p p w w' :=
 ⟨x.os,x.tape,x.output,x.size,fun _ h=>.inl h,fun _ h=>.inl h,fun k hk h1 _ _ _=>x.block k hk h1⟩
theorem jQ:(174:TypeId)≠176/\(174:TypeId)≠3:=by decide
def FX(base b pb:Nat)(s:ByteArray)(r:Except (Nat × Nat) Sp.Bs)(o:Int)(p:FP)(w:Wd):Prop:=match r with
 | .ok l=>FR base b pb s l o p w
 | .error e=>FE base b pb s e p w
theorem FR.drop_eq{p:FP}(h:FR base b pb s l o p w):s.data.toList.drop (s.size - l.length+bf l)=l.drop (bf l):=by
 obtain⟨t,ht⟩:=h.suf;have e:s.size=t.length+l.length:=by
  have:s.data.toList.length=s.size:=by simp
  rw[<-this,<-ht];simp
 rw[<-ht,e,show t.length+l.length - l.length+bf l=t.length+bf l by omega,<-List.drop_drop];simp
theorem FR.ext{p:FP}(h:FR base b pb s l o p w)(x:mL b w w')(hb:w'.heap[b]?=some (.cells (ch s ((s.size - l'.length+bf l':Nat):Int) ((s.size - l'.length:Nat):Int) ⟨(Sp.tok l').toArray⟩ pb o' 0) 174))(hl:l' <:+ s.data.toList):FR base b pb s l' o' p w' :=
 ⟨hb,h.prog.ext x h.ne (h.prog.dM h.aV jQ).1 (h.prog.dM h.aV jQ).2,hl,h.sz,h.ge,h.ne⟩
theorem FR.fe{p:FP}(h:FR base b pb s l o p w)(x:mL b w w')(er:Nat)(hb:w'.heap[b]?=some (.cells (ch s ((s.size - l.length+bf l:Nat):Int) ((s.size - l.length:Nat):Int) ⟨(Sp.tok l).toArray⟩ pb o er) 174))(he:er≠0):FE base b pb s (er,l.length) p w' :=
 ⟨⟨_,_,_,hb,by have:=h.len;have:=h.sz;omega⟩,h.prog.ext x h.ne (h.prog.dM h.aV jQ).1 (h.prog.dM h.aV jQ).2,he,h.ge,h.ne⟩
theorem FE.ext{p:FP}(h:FE base b pb s er p w)(x:mL b w w')(hb:∃(i:Int) (l:Sp.Bs) (o:Int),w'.heap[b]?=some (.cells (ch s i ((s.size - er.2:Nat):Int) ⟨(Sp.tok l).toArray⟩ pb o er.1) 174)/\l.length<=400):FE base b pb s er p w':=by obtain⟨_,_,_,hb0,_⟩:=h.aV;exact⟨hb,h.prog.ext x h.ne (h.prog.dM hb0 jQ).1 (h.prog.dM hb0 jQ).2,h.nz,h.ge,h.ne⟩
theorem rD(i:Nat)(u:Value):mL b w (w.setCell ⟨b,i,none⟩ u):=(mL.refl b w).setCell (p:=⟨b,i,none⟩) (.inl rfl) u
theorem GH{er:Int}(hb:Bk w b (ch s i a t pb o er) 174)(o':Int):(w.setCell ⟨b,5,none⟩ (.int .i64 o')).heap[b]?=some (.cells (ch s i a t pb o' er) 174):=by rw[ai hb 5 (.int .i64 o')];rfl
theorem Sj{er:Int}(hb:Bk w b (ch s i a t pb o er) 174)(e':Int):(w.setCell ⟨b,6,none⟩ (.int .i64 e')).heap[b]?=some (.cells (ch s i a t pb o e') 174):=by rw[ai hb 6 (.int .i64 e')];rfl
theorem Gw{t:Sp.Bs}(h:Sp.tok l≠t):(Sp.tok l == t)=false:=by simpa using h
theorem Gm{t:Sp.Bs}(h:Sp.tok l=t):(Sp.tok l == t)=true:=by simpa using h
theorem dP{p:FP}(h:FR base b pb s l o p w) :
  Calls prog 65 #[.pointer (some ⟨b,0,none⟩)] w fun e w'=>e=.returned (.tuple #[])/\FR base b pb s (Sp.next l) o p w'/\FK b pb p p w w':=by
 have hl:=h.len;have ht:=fv l;refine(sS (s.size - l.length+bf l) h.aV (by omega) h.sz).mono ?_;rintro e w'⟨rfl,hb,hx⟩;rw[h.drop_eq]at hb;exact⟨rfl,h.ext hx hb ((oH l).trans h.suf),FK.zQ hx⟩
theorem oC{p:FP}(h:FR base b pb s l o p w)(er:Nat)(he:er≠0)(ei:Int)(hei:ei=er) :
  Calls prog 67 #[.pointer (some ⟨b,0,none⟩),.int .i64 ei] w fun e w'=>e=.returned (.tuple #[])/\FE base b pb s (er,l.length) p w'/\FK b pb p p w w':=by
 subst hei;have c6:=cell_of h.aV 6 (v:=.int .i64 0) rfl;have f6:=aw h.aV 6;have x:=rD (b:=b) (w:=w) 6 (.int .i64 (er:Int));have H:=h.fe x er (Sj h.aV _) he;go_enter func67,ntmps67;go_wp2_with fail
 go_end0
 exact⟨rfl,H,FK.zQ x⟩
theorem UR{p:FP}(h:FE base b pb s er p w)(ei:Int) :
  Calls prog 67 #[.pointer (some ⟨b,0,none⟩),.int .i64 ei] w fun e w'=>e=.returned (.tuple #[])/\w'=w:=by
 obtain⟨i,l0,o,hb,Uy⟩:=h.aV;have c6:=cell_of hb 6 (v:=.int .i64 er.1) rfl;have hz:((er.1:Int) == 0)=false:=by have:=h.nz;simp;omega
 have ek:¬ ((er.1:Int)=0):=by have:=h.nz;omega
 clear h hb;generalize (er.1:Int)=q at *;go_enter func67,ntmps67;go_wp2_with fail
 go_end0
 exact⟨rfl,rfl⟩
theorem Ae{p:FP}(h:FE base b pb s er p w)(t:ByteArray) :
  Calls prog 132 #[.pointer (some ⟨b,0,none⟩),.string t] w fun e w'=>e=.returned (.tuple #[])/\w'=w:=by
 obtain⟨i,l0,o,hb,Uy⟩:=h.aV;have c6:=cell_of hb 6 (v:=.int .i64 er.1) rfl;have hz:((er.1:Int) == 0)=false:=by have:=h.nz;simp;omega
 have ek:¬ ((er.1:Int)=0):=by have:=h.nz;omega
 clear h hb;generalize (er.1:Int)=q at *;go_enter func132,ntmps132;go_wp2_with fail
 ((try simp only[Exit.inBlock,Exit.then]);refine bodyPost_ret (results_none rfl _ _ _) rfl ?_)
 exact⟨rfl,rfl⟩
theorem zV{p:FP}(h:FR base b pb s l o p w)(t:Sp.Bs) :
  Calls prog 132 #[.pointer (some ⟨b,0,none⟩),.string ⟨t.toArray⟩] w fun e w'=>e=.returned (.tuple #[])/\FX base b pb s (Sp.take t l) o p w'/\FK b pb p p w w':=by
 have c6:=cell_of h.aV 6 (v:=.int .i64 0) rfl;have c3:=cell_of h.aV 3 (v:=.string ⟨(Sp.tok l).toArray⟩) rfl;by_cases ht:Sp.tok l=t
 ·have E:Hid (Sp.take t l=.ok (Sp.next l)):=by unfold Hid Sp.take;rw[if_pos ht]
  have Qq:=Gm ht;go_enter func132,ntmps132;go_wp2_with fail;refine(dP h).mono ?_;rintro e w1⟨rfl,h1,k1⟩;go_wp2_with fail
  go_end0
  exact⟨rfl,by rw[E.out];exact h1,k1⟩
 ·have E:Hid (Sp.take t l=.error (2,l.length)):=by unfold Hid Sp.take;rw[if_neg ht];rfl
  have Qq:=Gw ht;go_enter func132,ntmps132;go_wp2_with fail;refine(oC h 2 (by decide) 2 rfl).mono ?_;rintro e w1⟨rfl,h1,k1⟩;go_wp2_with fail
  ((try simp only[Exit.inBlock,Exit.then]);refine bodyPost_ret (results_none rfl _ _ _) rfl ?_)
  exact⟨rfl,by rw[E.out];exact h1,k1⟩
theorem rp{r:Except (Nat × Nat) Sp.Bs}{p:FP}(h:FX base b pb s r o p w)(t:Sp.Bs) :
  Calls prog 132 #[.pointer (some ⟨b,0,none⟩),.string ⟨t.toArray⟩] w fun e w'=>e=.returned (.tuple #[])/\FX base b pb s (r.bind (Sp.take t)) o p w'/\FK b pb p p w w':=by
 cases r with
 | ok l=>exact zV h t
 | error e =>refine(Ae (show FE base b pb s e p w from h) _).mono ?_;rintro _ _⟨rfl,rfl⟩;exact⟨rfl,h,FK.refl _ _ _ _⟩
theorem FX.mi{r:Except (Nat × Nat) Sp.Bs}{p:FP}(h:FX base b pb s r o p w)(_d:Int) :
  ∃q:Int,w.cell? ⟨b,5,none⟩=some (.int .i64 q)/\w.frozen? ⟨b,5,none⟩=false/\(∀l,r=.ok l->q=o)/\(∀q' o':Int,(∀l,r=.ok l->q'=o')->FX base b pb s r o' p (w.setCell ⟨b,5,none⟩ (.int .i64 q'))/\FK b pb p p w (w.setCell ⟨b,5,none⟩ (.int .i64 q'))):=by
 cases r with
 | ok l =>have h':FR base b pb s l o p w:=h;refine⟨o,cell_of h'.aV 5 rfl,aw h'.aV 5,fun _ _=>rfl,?_⟩;intro q' o' hq;have:=hq l rfl;subst this;exact⟨h'.ext (rD 5 _) (GH h'.aV _) h'.suf,FK.zQ (rD 5 _)⟩
 | error e =>have h':FE base b pb s e p w:=h;obtain⟨i,t,q,hb,Uy⟩:=h'.aV;refine⟨q,cell_of hb 5 rfl,aw hb 5,(fun _ hh=>nomatch hh),?_⟩;intro q' o' hq;exact⟨h'.ext (rD 5 _) ⟨i,t,q',GH hb _,Uy⟩,FK.zQ (rD 5 _)⟩
theorem Gv{r:Except (Nat × Nat) Sp.Bs}{o:Nat}{p:FP}(ho:o<=20)(h:FX base b pb s r ((o+1:Nat):Int) p w)(t:Sp.Bs) :
  Calls prog 174 #[.pointer (some ⟨b,0,none⟩),.string ⟨t.toArray⟩] w fun e w'=>e=.returned (.tuple #[])/\FX base b pb s (r.bind (Sp.take t)) (o:Int) p w'/\FK b pb p p w w':=by
 go_enter func174,ntmps174;go_wp2_with fail;refine(rp h t).mono ?_;rintro e w1⟨rfl,h1,k1⟩;obtain⟨q,c5,f5,hq,hs⟩:=h1.mi 0;obtain⟨h2,k2⟩:=hs (RowKit.wrap64 (q - 1)) (o:Int) (fun l e=>by rw[hq l e,IntWalk.wrap64_in _ (by omega)];omega);go_wp2_with fail
 go_end0
 exact⟨rfl,h2,k1.trans k2⟩
theorem Az{o:Nat}{p:FP}(ho:o<=12)(h:FR base b pb s l o p w)(t:Sp.Bs) :
  Calls prog 173 #[.pointer (some ⟨b,0,none⟩),.string ⟨t.toArray⟩] w fun e w'=>e=.returned (.tuple #[])/\FX base b pb s (Sp.enter t o l) ((o+1:Nat):Int) p w'/\FK b pb p p w w':=by
 have c6:=cell_of h.aV 6 (v:=.int .i64 0) rfl;have c5:=cell_of h.aV 5 (v:=.int .i64 (o:Int)) rfl;have c3:=cell_of h.aV 3 (v:=.string ⟨(Sp.tok l).toArray⟩) rfl;by_cases ht:Sp.tok l=t
 ·have Qq:=Gm ht
  by_cases rR:o=12
  ·subst rR
   have E:Hid (Sp.enter t 12 l=.error (3,l.length)):=by unfold Hid Sp.enter;rw[if_pos ht,if_pos rfl];rfl
   go_enter func173,ntmps173;go_wp2_with fail;refine(oC h 3 (by decide) 3 rfl).mono ?_;rintro e w1⟨rfl,h1,k1⟩;go_wp2_with fail;refine(Ae h1 _).mono ?_;rintro e w2⟨rfl,rfl⟩;obtain⟨q,c5,f5,hq,hs⟩:=FX.mi (r:=.error (3,l.length)) (o:=0) h1 0;obtain⟨h2,k2⟩:=hs (RowKit.wrap64 (q+1)) ((12+1:Nat):Int) (fun _ hh=>nomatch hh);go_wp2_with fail
   go_end0
   exact⟨rfl,by rw[E.out];exact h2,k1.trans k2⟩
  ·have E:Hid (Sp.enter t o l=Sp.take t l):=by unfold Hid Sp.enter Sp.take;rw[if_pos ht,if_neg rR,if_pos ht]
   have dj:¬ ((12:Int)<=(o:Int)):=by omega
   go_enter func173,ntmps173;go_wp2_with fail;refine(zV h t).mono ?_;rintro e w1⟨rfl,h1,k1⟩;rw[<-E.out]at h1;obtain⟨q,c5,f5,hq,hs⟩:=h1.mi 0;obtain⟨h2,k2⟩:=hs (RowKit.wrap64 (q+1)) ((o+1:Nat):Int) (fun l e=>by rw[hq l e,IntWalk.wrap64_in _ (by omega)];omega);go_wp2_with fail
   go_end0
   exact⟨rfl,h2,k1.trans k2⟩
 ·have Qq:=Gw ht
  have E:Hid (Sp.enter t o l=Sp.take t l):=by unfold Hid Sp.enter Sp.take;rw[if_neg ht,if_neg ht]
  go_enter func173,ntmps173;go_wp2_with fail;refine(zV h t).mono ?_;rintro e w1⟨rfl,h1,k1⟩;rw[<-E.out]at h1;obtain⟨q,c5,f5,hq,hs⟩:=h1.mi 0;obtain⟨h2,k2⟩:=hs (RowKit.wrap64 (q+1)) ((o+1:Nat):Int) (fun l e=>by rw[hq l e,IntWalk.wrap64_in _ (by omega)];omega);go_wp2_with fail
  go_end0
  exact⟨rfl,h2,k1.trans k2⟩
theorem PJ{p:FP}(h:FE base b pb s er p w)(t:ByteArray) :
  Calls prog 173 #[.pointer (some ⟨b,0,none⟩),.string t] w fun e w'=>e=.returned (.tuple #[])/\FE base b pb s er p w'/\FK b pb p p w w':=by
 obtain⟨i,l0,o,hb,Uy⟩:=h.aV;have c6:=cell_of hb 6 (v:=.int .i64 er.1) rfl;have hz:((er.1:Int) == 0)=false:=by have:=h.nz;simp;omega
 have ek:¬ ((er.1:Int)=0):=by have:=h.nz;omega
 go_enter func173,ntmps173;go_wp2_with fail;refine(Ae h t).mono ?_;rintro e w1⟨rfl,rfl⟩;obtain⟨q,c5,f5,hq,hs⟩:=FX.mi (r:=.error er) (o:=0) h 0;obtain⟨h2,k2⟩:=hs (RowKit.wrap64 (q+1)) 0 (fun _ hh=>nomatch hh);go_wp2_with fail
 go_end0
 exact⟨rfl,h2,k2⟩
theorem O4{r:Except (Nat × Nat) Sp.Bs}{o:Nat}{p:FP}(ho:o<=12)(h:FX base b pb s r o p w)(t:Sp.Bs) :
  Calls prog 173 #[.pointer (some ⟨b,0,none⟩),.string ⟨t.toArray⟩] w fun e w'=>e=.returned (.tuple #[])/\FX base b pb s (r.bind (Sp.enter t o)) ((o+1:Nat):Int) p w'/\FK b pb p p w w':=by
 cases r with
 | ok l=>exact Az ho h t
 | error e=>exact PJ (show FE base b pb s e p w from h) _
theorem Mn:(prog.info? 176).map (fun i=>(i.zero,i.size,i.bytes))=some (some (.agg #[.int .i64 0,.int .i64 0,.int .i64 0,.int .i64 0,.int .i64 0,.int .i64 0,.string ByteArray.empty,.int .i64 0,.int .i64 0,.bool false]),10,88):=by kernel_rfl
theorem CT(ns:List aJ)(n:aJ):fR (ns ++ [n])=fR ns ++ cw n:=by unfold fR;simp
theorem Mi{p:FP}(h:Bk w pb (cM p first) 105)(v:Value)(ns:List aJ):(w.setCell ⟨pb,0,none⟩ v).heap[pb]?=some (.cells (cM { p with ns:=ns,nv:=v } first) 105):=by rw[ai h 0 v];rfl
theorem kJ:(105:TypeId)≠176/\(105:TypeId)≠3:=by decide
theorem lj.qh{p:FP}(h:lj base pb p w):∀g,p.nv.ownBlock=some g->p.qv.ownBlock≠some g:=by intro g hg hq;obtain⟨_,_,c,hc⟩:=bj h.jF g hg;obtain⟨_,_,c',NG⟩:=bj h.kF g hq;rw[hc]at NG;cases NG
theorem FX.Ln{r:Except (Nat × Nat) Sp.Bs}{p:FP}(h:FX base b pb s r o p w):∃i a t o' er,w.heap[b]?=some (.cells (ch s i a t pb o' er) 174):=by
 cases r with
 | ok l=>exact⟨_,_,_,_,_,(show FR base b pb s l o p w from h).aV⟩
 | error e =>obtain⟨i,t,o',hb,_⟩:=(show FE base b pb s e p w from h).aV;exact⟨_,_,_,_,_,hb⟩
theorem FX.prog{r:Except (Nat × Nat) Sp.Bs}{p:FP}(h:FX base b pb s r o p w):lj base pb p w:=by
 cases r with
 | ok l=>exact(show FR base b pb s l o p w from h).prog
 | error e=>exact(show FE base b pb s e p w from h).prog
theorem FX.ne{r:Except (Nat × Nat) Sp.Bs}{p:FP}(h:FX base b pb s r o p w):b≠pb:=by
 cases r with
 | ok l=>exact(show FR base b pb s l o p w from h).ne
 | error e=>exact(show FE base b pb s e p w from h).ne
theorem FX.move{r:Except (Nat × Nat) Sp.Bs}{p p':FP}(h:FX base b pb s r o p w)(hb:w'.heap[b]?=w.heap[b]?)(hp:lj base pb p' w'):FX base b pb s r o p' w':=by
 cases r with
 | ok l =>have h':FR base b pb s l o p w:=h;exact⟨by rw[hb];exact h'.aV,hp,h'.suf,h'.sz,h'.ge,h'.ne⟩
 | error e =>have h':FE base b pb s e p w:=h;exact⟨by rw[hb];exact h'.aV,hp,h'.nz,h'.ge,h'.ne⟩
theorem FX.after{r:Except (Nat × Nat) Sp.Bs}{p:FP}(h:FX base b pb s r o p w)(hb:Below w.heap.size w w'):FX base b pb s r o p w':=by obtain⟨_,_,_,_,_,h1⟩:=h.Ln;exact h.move (hb.block _ (ah h1)) (h.prog.after hb)
theorem MO{r:Except (Nat × Nat) Sp.Bs}{p:FP}{o:Obj}(h:FX base b pb s r oo p w)(hn:p.ns.length+1<=1000000)(n:aJ)
  (jG:w1.ownsRow base 176 10 (.slice (some ⟨gg,0,none⟩) (p.ns.length+1) cap) (p.ns.length+1) (fR p.ns ++ cw n)) (hg:(w.alloc o).drew.grownBy w1 p.nv.ownBlock) (zl:p.nv.ownBlock=some gg∨gg=w.heap.size+1) :
  FX base b pb s r oo { p with ns:=p.ns ++ [n],nv:=.slice (some ⟨gg,0,none⟩) (p.ns.length+1) cap } (w1.setCell ⟨pb,0,none⟩ (.slice (some ⟨gg,0,none⟩) (p.ns.length+1) cap))/\FK b pb p { p with ns:=p.ns ++ [n],nv:=.slice (some ⟨gg,0,none⟩) (p.ns.length+1) cap } w (w1.setCell ⟨pb,0,none⟩ (.slice (some ⟨gg,0,none⟩) (p.ns.length+1) cap)):=by
 have hp:=h.prog;have dj:=ah hp.aV;obtain⟨i,a,t,o',er,hb⟩:=h.Ln;have gU:∀k,k<w.heap.size->p.nv.ownBlock≠some k->w1.heap[k]?=w.heap[k]?:=fun k hk hn=>by rw[hg.block k (by show k<(w.alloc o).heap.size;simp;omega) (fun e=>hn e.symm)];exact Below.heap_alloc _ _ _ hk
 have dI:w.heap.size<=w1.heap.size:=by
  have:=hg.size;have h2:(w.alloc o).drew.heap.size=w.heap.size+1:=by show(w.alloc o).heap.size=_;simp
  omega
 have KA:=hp.dM hp.aV kJ;have eI:=hp.dM hb jQ;have rJ:w1.heap[pb]?=some (.cells (cM p 0) 105):=by rw[gU pb dj KA.1];exact hp.aV
 have hpn:lj base pb { p with ns:=p.ns ++ [n],nv:=.slice (some ⟨gg,0,none⟩) (p.ns.length+1) cap } (w1.setCell ⟨pb,0,none⟩ (.slice (some ⟨gg,0,none⟩) (p.ns.length+1) cap)):=by
  refine⟨Mi rJ _ _,?_,?_,hp.ge,by simp;omega,hp.q5⟩
  ·show World.ownsRow _ base 176 10 _ (p.ns ++ [n]).length (fR (p.ns ++ [n]))
   rw[CT,List.length_append];exact aZ jG (fun g rK=>Below.heap_setCell _ _ _ _ (fun e=>by obtain⟨_,_,c,hc⟩:=bj jG g rK;have e':g=pb:=e;rw[e',rJ]at hc;cases hc))
  ·refine aZ hp.kF (fun g rK=>?_)
   have NR:=(bj hp.kF g rK).2.1;rw[Below.heap_setCell _ _ _ _ (fun e=>KA.2 (by rw[<-show g=pb from e];exact rK))];exact gU g NR (fun e=>hp.qh g e rK)
 refine⟨h.move ?_ hpn,hg.os,hg.tape,hg.output,by simp[World.setCell];omega,?_,fun _ e=>.inl e,?_⟩
 ·rw[Below.heap_setCell _ _ _ _ h.ne]
  exact gU b (ah hb) eI.1
 ·intro g rK
  have e:gg=g:=by simpa [Value.ownBlock] using rK
  subst e
  rcases zl with h1 | h1
  ·exact .inl h1
  ·exact .inr (by omega)
 ·intro k hk _ h2 h3 _
  rw[Below.heap_setCell _ _ _ _ h2];exact gU k hk h3
end
attribute [local go_sem ↓] Go.wp_at_zero Go.wp_at_succ
theorem eL{base b pb:Nat}{s:ByteArray}{r:Except (Nat × Nat) Sp.Bs}{o:Int}{p:FP}{w:Wd}(h:FX base b pb s r o p w)(n:aJ)(hn:p.ns.length+1<=1000000) :
  Calls prog 130 #[.pointer (some ⟨b,0,none⟩),.agg (cw n).toArray] w fun e w'=>e=.returned (.int .i64 (p.ns.length:Nat))/\∃v,FX base b pb s r o { p with ns:=p.ns ++ [n],nv:=v } w'/\FK b pb p { p with ns:=p.ns ++ [n],nv:=v } w w':=by
 obtain⟨i0,hi,Hq,gT,ek⟩:=info_parts Mn;have ZX:pb<w.heap.size/\b<w.heap.size:=⟨ah h.prog.aV,by obtain⟨_,_,_,_,_,hb⟩:=h.Ln;exact ah hb⟩;have hA:Below w.heap.size w (w.alloc (.cells (cw n).toArray 176)):=(Below.refl _ _).alloc (Nat.le_refl _) _;have h:=h.after hA;have kA:FK b pb p p w (w.alloc (.cells (cw n).toArray 176)):=FK.aB hA;have Yd:(w.alloc (.cells (cw n).toArray 176)).heap.size=w.heap.size+1:=by simp
 obtain⟨ii,a,t,o',er,hb⟩:=h.Ln;have hp:=h.prog;have c4:=cell_of hb 4 (v:=.pointer (some ⟨pb,0,none⟩)) rfl;have c0:=cell_of hp.aV 0 (v:=p.nv) rfl;have f0:=aw hp.aV 0;have F3:pb<(w.alloc (.cells (cw n).toArray 176)).heap.size:=ah hp.aV;have xz:b<(w.alloc (.cells (cw n).toArray 176)).heap.size:=ah hb;have ag:p.nv.ownBlock≠some pb:=(hp.dM hp.aV kJ).1;have ab:p.nv.ownBlock≠some b:=(hp.dM hb jQ).1;have Wy:=hp.jF;have nO:=hp.ge;have UG:p.ns.length+1<=maxLen:=by unfold maxLen;omega
 have Ud:(p.ns.length+1)*88<=140737488355328:=by omega
 have pF:((w.alloc (.cells (cw n).toArray 176)).alloc (.cells (cw n).toArray 176)).heap[w.heap.size+1]?=some (.cells (cw n).toArray 176):=by have:=heap_alloc_new (w.alloc (.cells (cw n).toArray 176)) (.cells (cw n).toArray 176);rw[Yd]at this;exact this
 have H:Hid (FX base b pb s r o p (w.alloc (.cells (cw n).toArray 176))/\FK b pb p p w (w.alloc (.cells (cw n).toArray 176))):=⟨h,kA⟩;have dd:(w.alloc (.cells (cw n).toArray 176))=(w.alloc (.cells #[.int .i64 n.kind,.int .i64 n.a,.int .i64 n.b,.int .i64 n.c,.int .i64 n.n,.int .i64 n.next,.string ⟨n.sign.toArray⟩,.int .i64 n.site,.int .i64 n.aA,.bool n.els] 176)):=rfl;have hwl:pb<w.heap.size/\b<w.heap.size:=ZX;have c4w:w.cell? ⟨b,4,none⟩=some (.pointer (some ⟨pb,0,none⟩)):=by rw[<-hA.cell (p:=⟨b,4,none⟩) hwl.2];exact c4
 have c0w:w.cell? ⟨pb,0,none⟩=some p.nv:=by rw[<-hA.cell (p:=⟨pb,0,none⟩) hwl.1];exact c0
 rw[dd]at c4 c0 f0 F3 xz Wy Yd;clear hA h kA hb hp;show Calls prog 130 #[.pointer (some ⟨b,0,none⟩),.agg #[.int .i64 n.kind,.int .i64 n.a,.int .i64 n.b,.int .i64 n.c,.int .i64 n.n,.int .i64 n.next,.string ⟨n.sign.toArray⟩,.int .i64 n.site,.int .i64 n.aA,.bool n.els]] w _;go_enter func130,ntmps130;go_wp2_with fail
 go_region_law
  ((refine step_append_lies _ (by rfl) _ _ _ (by rfl) base 176 i0 _ 10 88 underlying103 hi Hq gT ek rfl (by omega) p.nv p.ns.length (fR p.ns) (by rfl) ((Wy.alloc _).drew)
     ⟨w.heap.size+1,0,none⟩ 1 1 (cw n) (by rfl) (by rfl) (World.news_of_block (cs:=(cw n).toArray) (t:=176) (fr:=(0,0)) pF) (by simp[Value.oneCell',cw])
     (by omega) UG Ud (by simp;omega) (w.heap.size+1+1) (by simp) ?_;intro gg cap w1 rN oR zl dj;have f1:w1.frozen? ⟨pb,0,none⟩=false:=(by rw[oR.frozen_far _ (by simp;omega) (Ne.symm ag)];exact qZ F3 f0);have d1:w1.cell? ⟨pb,0,none⟩=some p.nv:=(by rw[oR.cell_far _ (by simp;omega) (Ne.symm ag)];exact mG F3 c0);have d4:w1.cell? ⟨b,4,none⟩=some (.pointer (some ⟨pb,0,none⟩)):=(by rw[oR.cell_far _ (by simp;omega) (Ne.symm ab)];exact mG xz c4)))
 all_goals
  have hr:Hid (RowKit.wrap64 ((p.ns.length:Int)+1 - 1)=p.ns.length):=by unfold Hid;rw[IntWalk.wrap64_in _ (by omega)];omega
  have HF:=MO H.1 hn n rN oR (by rw[dd,Yd];exact zl);have HH:=hid HF;clear HF rN oR zl dj c0 c4 c0w c4w f0 Wy pF dd Yd F3 xz;go_wp2_with fail;go_ret;exact⟨by go_num,_,HH.1,H.2.trans HH.2⟩
section
section
variable{ns qM:List aJ}
variable{lo Bd rel k:Nat}
def pL(ns:List aJ)(lo:Nat):Sm->Nat->Ct->Ct->Prop
 | .num n,k,ct,bh=>∃d,ns[k]?=some d/\d.kind=1/\d.n=(n:Int)/\n<=32767/\lo<=k/\bh=ct
 | .name v,k,ct,bh=>∃d,ns[k]?=some d/\d.kind=2/\d.n=(v:Int)/\v<8/\lo<=k/\bh=ct
 | .neg x,k,ct,bh=>∃d a,ns[k]?=some d/\d.kind=3/\d.a=((a:Nat):Int)/\a<k/\pL ns lo x a ct bh
 | .bin op x y,k,ct,bh=>∃d a b ct1,ns[k]?=some d/\d.kind=4/\d.a=((a:Nat):Int)/\d.b=((b:Nat):Int)/\d.sign=cD op/\op<5/\a<k/\b<k/\pL ns lo x a ct ct1 /\
   (d.site=if 3<=op then ct1.2 else -1)/\pL ns lo y b (if 3<=op then Sp.aL ct1 else ct1) bh
theorem pL.ge:∀{x:Sm} {k:Nat} {ct bh:Ct},pL ns lo x k ct bh->lo<=k
 | .num _,_,_,_,⟨_,_,_,_,_,h,_⟩=>h
 | .name _,_,_,_,⟨_,_,_,_,_,h,_⟩=>h
 | .neg _,_,_,_,⟨_,_,_,_,_,h,h2⟩=>by have:=pL.ge h2;omega
 | .bin _ _ _,_,_,_,⟨_,_,_,_,_,_,_,_,_,_,h,_,h2,_⟩=>by have:=pL.ge h2;omega
theorem pL.mono(xA:Bd<=lo):∀{x:Sm} {k:Nat} {ct bh:Ct},(∀i,lo<=i->i<=k->qM[i]?=ns[i]?)->pL ns lo x k ct bh->pL qM Bd x k ct bh
 | .num _,k,_,_,nX,⟨d,h1,h2,h3,h4,h5,h6⟩=>⟨d,by rw[nX k h5 (Nat.le_refl _)];exact h1,h2,h3,h4,by omega,h6⟩
 | .name _,k,_,_,nX,⟨d,h1,h2,h3,h4,h5,h6⟩=>⟨d,by rw[nX k h5 (Nat.le_refl _)];exact h1,h2,h3,h4,by omega,h6⟩
 | .neg _,k,_,_,nX,⟨d,a,h1,h2,h3,h4,h5⟩=>⟨d,a,by rw[nX k (by have:=h5.ge;omega) (Nat.le_refl _)];exact h1,h2,h3,h4,h5.mono xA (fun i hi QU=>nX i hi (by omega))⟩
 | .bin _ _ _,k,_,_,nX,⟨d,a,b,ct1,h1,h2,h3,h4,h5,h6,h7,h8,h9,hY,tK⟩ =>⟨d,a,b,ct1,by rw[nX k (by have:=h9.ge;omega) (Nat.le_refl _)];exact h1,h2,h3,h4,h5,h6,h7,h8,h9.mono xA (fun i hi QU=>nX i hi (by omega)),hY,tK.mono xA (fun i hi QU=>nX i hi (by omega))⟩
def xH(ns:List aJ)(lo:Nat)(rel:Nat)(x y:Sm)(k:Nat)(ct bh:Ct):Prop :=
 ∃d a b ct1,ns[k]?=some d/\d.a=((a:Nat):Int)/\d.b=((b:Nat):Int)/\d.sign=aQ rel/\rel<6/\a<k/\b<k/\pL ns lo x a ct ct1/\pL ns lo y b ct1 bh
theorem xH.ge{x y:Sm}{ct bh:Ct}(h:xH ns lo rel x y k ct bh):lo<=k:=by obtain⟨_,_,_,_,_,_,_,_,_,h1,_,h2,_⟩:=h;have:=h2.ge;omega
theorem xH.mono(xA:Bd<=lo){x y:Sm}{ct bh:Ct}(nX:∀i,lo<=i->i<=k->qM[i]?=ns[i]?)(h:xH ns lo rel x y k ct bh):xH qM Bd rel x y k ct bh:=by have hk:=h.ge;obtain⟨d,a,b,ct1,h1,h2,h3,h4,h5,h6,h7,h8,h9⟩:=h;exact⟨d,a,b,ct1,by rw[nX k hk (Nat.le_refl _)];exact h1,h2,h3,h4,h5,h6,h7,h8.mono xA (fun i hi QU=>nX i hi (by omega)),h9.mono xA (fun i hi QU=>nX i hi (by omega))⟩
def ji(ns:List aJ)(lo hi:Nat):Bl->Int->Ct->Ct->Prop
 | .nil,k,ct,bh=>k=-1/\bh=ct
 | .assign v x rest,k,ct,bh=>∃(j a:Nat) (d:aJ) (ct1:Ct),k=(j:Int)/\lo<=j/\j<hi/\ns[j]?=some d/\d.aA=ct.1/\d.kind=6/\d.n=(v:Int)/\v<8/\d.a=(a:Int)/\a<hi/\pL ns lo x a (Sp.aD ct) ct1/\ji ns lo hi rest d.next ct1 bh
 | .read v rest,k,ct,bh=>∃(j:Nat) (d:aJ),k=(j:Int)/\lo<=j/\j<hi/\ns[j]?=some d/\d.aA=ct.1/\d.kind=7/\d.n=(v:Int)/\v<8/\ji ns lo hi rest d.next (Sp.aD ct) bh
 | .assert rel x y rest,k,ct,bh=>∃(j a:Nat) (d:aJ) (ct1:Ct),k=(j:Int)/\lo<=j/\j<hi/\ns[j]?=some d/\d.aA=ct.1/\d.kind=8/\d.site=ct.2/\d.a=(a:Int)/\a<hi/\xH ns lo rel x y a (Sp.aL (Sp.aD ct)) ct1/\ji ns lo hi rest d.next ct1 bh
 | .ite rel x y xs els ys rest,k,ct,bh=>∃(j a:Nat) (d:aJ) (ct1 ct2 mz:Ct),k=(j:Int)/\lo<=j/\j<hi/\ns[j]?=some d/\d.aA=ct.1/\d.kind=9/\d.els=els/\d.a=(a:Int)/\a<hi/\xH ns lo rel x y a (Sp.aD ct) ct1/\ji ns lo hi xs d.b ct1 ct2/\ji ns lo hi ys d.c ct2 mz/\(els=false->ys=.nil)/\ji ns lo hi rest d.next mz bh
 | .loop rel x y xs rest,k,ct,bh=>∃(j a:Nat) (d:aJ) (ct1 ct2:Ct),k=(j:Int)/\lo<=j/\j<hi/\ns[j]?=some d/\d.aA=ct.1/\d.kind=10/\d.a=(a:Int)/\a<hi/\xH ns lo rel x y a (Sp.aD ct) ct1/\ji ns lo hi xs d.b ct1 ct2/\ji ns lo hi rest d.next ct2 bh
theorem ji.mono{hi nZ:Nat}(xA:Bd<=lo)(Hy:hi<=nZ)(nX:∀i,lo<=i->i<hi->qM[i]?=ns[i]?):∀{x:Bl} {k:Int} {ct bh:Ct},ji ns lo hi x k ct bh->ji qM Bd nZ x k ct bh
 | .nil,_,_,_,h=>h
 | .assign _ _ _,_,_,_,⟨j,a,d,c1,h1,h2,h3,h4,h5,h6,h7,h8,h9,hY,tK,rR⟩ =>⟨j,a,d,c1,h1,by omega,by omega,by rw[nX j h2 h3];exact h4,h5,h6,h7,h8,h9,by omega,tK.mono xA (fun i hi QU=>nX i hi (by omega)),rR.mono xA Hy nX⟩
 | .read _ _,_,_,_,⟨j,d,h1,h2,h3,h4,h5,h6,h7,h8,h9⟩ =>⟨j,d,h1,by omega,by omega,by rw[nX j h2 h3];exact h4,h5,h6,h7,h8,h9.mono xA Hy nX⟩
 | .assert _ _ _ _,_,_,_,⟨j,a,d,c1,h1,h2,h3,h4,h5,h6,h7,h8,h9,hY,tK⟩ =>⟨j,a,d,c1,h1,by omega,by omega,by rw[nX j h2 h3];exact h4,h5,h6,h7,h8,by omega,hY.mono xA (fun i hi QU=>nX i hi (by omega)),tK.mono xA Hy nX⟩
 | .ite _ _ _ _ _ _ _,_,_,_,⟨j,a,d,c1,c2,c3,h1,h2,h3,h4,h5,h6,h7,h8,h9,hY,tK,rR,h13,h14⟩ =>⟨j,a,d,c1,c2,c3,h1,by omega,by omega,by rw[nX j h2 h3];exact h4,h5,h6,h7,h8,by omega,hY.mono xA (fun i hi QU=>nX i hi (by omega)),tK.mono xA Hy nX,rR.mono xA Hy nX,h13,h14.mono xA Hy nX⟩
 | .loop _ _ _ _ _,_,_,_,⟨j,a,d,c1,c2,h1,h2,h3,h4,h5,h6,h7,h8,h9,hY,tK⟩ =>⟨j,a,d,c1,c2,h1,by omega,by omega,by rw[nX j h2 h3];exact h4,h5,h6,h7,by omega,h9.mono xA (fun i hi QU=>nX i hi (by omega)),hY.mono xA Hy nX,tK.mono xA Hy nX⟩
def ft:Sm->List Int
 | .num n=>[(n:Int)]
 | .name _=>[]
 | .neg x=>ft x
 | .bin _ x y=>ft x ++ ft y
def di:Bl->List Int
 | .nil=>[]
 | .assign _ x rest=>ft x ++ di rest
 | .read _ rest=>di rest
 | .assert _ x y rest=>ft x ++ ft y ++ di rest
 | .ite _ x y xs _ ys rest=>ft x ++ ft y ++ di xs ++ di ys ++ di rest
 | .loop _ x y xs rest=>ft x ++ ft y ++ di xs ++ di rest
end
end
section
variable{l r:Sp.Bs}
theorem iT{c:UInt8}(h:Sp.tok l=c :: r)(hc:Sp.isLet c=true):aC l=2:=by
 cases l with
 | nil=>simp[Sp.tok]at h
 | cons d q =>
  have e:d=c:=by
   unfold Sp.tok at h;cases hn:bf (d :: q) with
   | zero=>rw[hn]at h;simp at h
   | succ m=>rw[hn,List.take_succ_cons]at h;exact(List.cons.inj h).1
  subst e;rw[bX,if_pos hc]
theorem IP{c:UInt8}(h:Sp.tok l=c :: r)(hc:bq c=true):aC l=3:=by
 cases l with
 | nil=>simp[Sp.tok]at h
 | cons d q =>
  have e:d=c:=by
   unfold Sp.tok at h;cases hn:bf (d :: q) with
   | zero=>rw[hn]at h;simp at h
   | succ m=>rw[hn,List.take_succ_cons]at h;exact(List.cons.inj h).1
  subst e;rw[bX,if_neg,if_pos hc];intro k;unfold Sp.isLet at k;unfold bq at hc;simp at k hc;omega
theorem dm(l:Sp.Bs)(hl:l.length<=400)(w:Wd) :
  Calls prog 129 #[.string ⟨(Sp.tok l).toArray⟩] w fun e w'=>e=.returned (.bool (aR l).isSome)/\w'=w:=by
 have VE:=dR l;have hle:=fv l;by_cases h1:(Sp.tok l).length=1
 ·obtain⟨c,ht⟩:∃c,Sp.tok l=[c]:=by
   match hm:Sp.tok l,h1 with
   | [c],_=>exact⟨c,rfl⟩
  obtain⟨t,et,iv,hx⟩:=oq c;have h0:0<t.size:=by omega
  have e:Hid ((aR l).isSome=(decide (97<=c.toNat) && decide (c.toNat<=104))):=by
   unfold Hid;by_cases hc:97<=c.toNat/\c.toNat<=104
   ·have hk:=iT ht (by unfold Sp.isLet;simp;omega)
    have:aR l=some (c.toNat - 97):=by unfold aR;rw[ht];simp[hk];omega
    rw[this];simp;omega
   ·cases hv:aR l with
    | none=>simp;omega
    | some k =>
     obtain⟨c',e1,_,e3,e4,_⟩:=dK hv;rw[ht]at e1;cases e1
     omega
  rw[ht,<-et];have FY:t[0].toNat=c.toNat:=by rw[hx]
  clear hx et ht h1 VE hle;go_enter func129,ntmps129
  go_wp2
  all_goals
   go_ret;exact⟨bA (by rw[e.out,Bool.eq_iff_iff];simp;omega),rfl⟩
 ·have e:Hid ((aR l).isSome=false):=by
   unfold Hid;cases hv:aR l with
   | none=>rfl
   | some k =>obtain⟨c',e1,_⟩:=dK hv;rw[e1]at h1;simp at h1
  have dI:(⟨(Sp.tok l).toArray⟩:ByteArray).size=(Sp.tok l).length:=nf _;have aau:(⟨(Sp.tok l).toArray⟩:ByteArray).size<=400:=by omega
  generalize (⟨(Sp.tok l).toArray⟩:ByteArray)=t at *;have hb:((t.size:Int) == 1)=false:=by simp;omega
  have xG:¬ (t.size:Int)=1:=by omega
  clear dI;go_enter func129,ntmps129;go_wp2_with fail;go_ret;exact⟨bA e.symm,rfl⟩
def nU(t:Sp.Bs):Int:=if t=[]∨5<t.length∨(t.head?=some 48/\1<t.length) then -1 else if(∀c∈t,bq c=true) then(if bk t<=32767 then(bk t:Int) else -1) else -1
theorem Ar(t:Sp.Bs)(c:UInt8):bk (t ++ [c])=bk t*10+(c.toNat - 48):=by unfold bk;rw[List.foldl_append];rfl
theorem take_succ(t:ByteArray)(i:Nat)(h:i<t.size):t.data.toList.take (i+1)=t.data.toList.take i ++ [t[i]]:=by rw[List.take_add_one,byte_at t i h];rfl
theorem gk(t:ByteArray)(ht:t.size<=400)(w:Wd) :
  Calls prog 238 #[.string t] w fun e w'=>e=.returned (.int .i64 (nU t.data.toList))/\w'=w:=by
 have hlen:t.data.toList.length=t.size:=by simp
 by_cases h0:t.size=0
 ·have e:Hid (nU t.data.toList=-1):=by unfold Hid nU;rw[if_pos (.inl (List.length_eq_zero_iff.1 (by omega)))]
  have hb:t.toList.isEmpty=true:=by rw[ByteArray.toList_eq,List.length_eq_zero_iff.1 (by omega:t.data.toList.length=0)];rfl
  clear hlen;go_enter func238,ntmps238;go_wp2_with fail;go_ret;exact⟨cX e.symm,rfl⟩
 ·have hb:t.toList.isEmpty=false:=by
   rw[ByteArray.toList_eq];cases he:t.data.toList with
   | nil=>rw[he]at hlen;simp at hlen;omega
   | cons _ _=>rfl
  by_cases h5:5<t.size
  ·have e:Hid (nU t.data.toList=-1):=by unfold Hid nU;rw[if_pos (.inr (.inl (by omega)))]
   have h5i:(5:Int)<(t.size:Int):=by omega
   clear hlen;go_enter func238,ntmps238;go_wp2_with fail;go_ret;exact⟨cX e.symm,rfl⟩
  ·have h5i:¬ (5:Int)<(t.size:Int):=by omega
   have hp:0<t.size:=by omega
   have XM:t.data.toList.head?=some t[0]:=by rw[List.head?_eq_getElem?];exact byte_at t 0 hp
   by_cases Qh:(t[0].toNat:Int)=48/\1<t.size
   ·have e:Hid (nU t.data.toList=-1):=by unfold Hid nU;rw[if_pos (.inr (.inr ⟨by rw[XM];congr 1;exact UInt8.toNat_inj.1 (by show t[0].toNat=48;omega),by omega⟩))]
    obtain⟨Qh,h1⟩:=Qh;have Zl:(1:Int)<(t.size:Int):=by omega
    clear hlen XM;go_enter func238,ntmps238;go_wp2_with fail;go_ret;exact⟨cX e.symm,rfl⟩
   ·have e:Hid (nU t.data.toList=if(∀c∈t.data.toList,bq c=true) then(if bk t.data.toList<=32767 then(bk t.data.toList:Int) else -1) else -1):=by
     unfold Hid nU;rw[if_neg];rintro(h | h | ⟨h,h'⟩)
     ·rw[h]at hlen;simp at hlen;omega
     ·omega
     ·rw[XM]at h
      have:t[0]=48:=Option.some.inj h;exact Qh ⟨by rw[this];rfl,by omega⟩
    have tP:((t[0].toNat:Int) == 48)=false/\¬ (t[0].toNat:Int)=48∨((t[0].toNat:Int) == 48)=true/\(t[0].toNat:Int)=48/\¬ (1:Int)<(t.size:Int):=by
     by_cases h:(t[0].toNat:Int)=48
     ·exact .inr ⟨by simpa using h,h,by omega⟩
     ·exact .inl ⟨by simpa using h,h⟩
    clear XM Qh hlen
    rcases tP with⟨k1,k2⟩ | ⟨k1,k2,k3⟩
    all_goals
     go_enter func238,ntmps238;go_wp2_with fail
     go_loopw [3,4] (fun n i wr=>∃j:Nat,j<=t.size/\Hid (∀c∈t.data.toList.take j,bq c=true)/\Hid (bk (t.data.toList.take j)<10 ^ j)/\n=.int .i64 (bk (t.data.toList.take j):Nat)/\i=.int .i64 j/\wr=w) (fun _ i _=>t.size - (intOf i).toNat)
     case atStart=>exact⟨0,Nat.zero_le _,by intro c hc;simp at hc,by show bk []<_;decide,rfl,rfl,rfl⟩
     case round =>
      obtain⟨j,hj,hd,hn,rfl,rfl,rfl⟩:=hrel;have mr:bk (t.data.toList.take j)<100000:=Nat.lt_of_lt_of_le hn.out (Nat.pow_le_pow_right (by omega) (by omega:j<=5));by_cases DH:j<t.size
      ·have uq:(j:Int)<(t.size:Int):=by omega
       by_cases hc:bq t[j]=true
       ·have hcr:48<=t[j].toNat/\t[j].toNat<=57:=by unfold bq at hc;simpa using hc
        have Oa:Hid (∀c∈t.data.toList.take (j+1),bq c=true):=by
         intro c VO;rw[take_succ t j DH]at VO
         rcases List.mem_append.1 VO with h | h
         ·exact hd.out c h
         ·simp at h;rw[h];exact hc
        have iv:Hid (bk (t.data.toList.take (j+1))=bk (t.data.toList.take j)*10+(t[j].toNat - 48)):=by unfold Hid;rw[take_succ t j DH,Ar]
        have kC:Hid (bk (t.data.toList.take (j+1))<10 ^ (j+1)):=by unfold Hid;rw[iv.out,Nat.pow_succ];have:=hn.out;omega
        clear hn hd;generalize bk (t.data.toList.take j)=m at *;have hu:(48:Int)<=(t[j].toNat:Int)/\(t[j].toNat:Int)<=57:=by omega
        go_wp2_with fail;refine(gr _ _).mono ?_;rintro e w'⟨rfl,rfl⟩;rw[hc];go_wp2_with fail;exact⟨⟨j+1,by omega,Oa,kC,by rw[iv.out];go_num,by go_num,trivial⟩,by simp[intOf];omega⟩
       ·have N4:bq t[j]=false:=by simpa using hc
        have E:Hid (nU t.data.toList=-1):=by unfold Hid;rw[e.out,if_neg];intro uj;exact hc (uj _ (List.mem_of_getElem? (byte_at t j DH)))
        clear hn hd e;generalize bk (t.data.toList.take j)=m at *;go_wp2_with fail;refine(gr _ _).mono ?_;rintro e w'⟨rfl,rfl⟩;rw[N4];go_wp2_with fail;go_ret;exact⟨cX E.symm,rfl⟩
      ·have uq:¬ (j:Int)<(t.size:Int):=by omega
       have AY:t.data.toList.take j=t.data.toList:=List.take_of_length_le (by simp;omega);have E:Hid (nU t.data.toList=if bk (t.data.toList.take j)<=32767 then(bk (t.data.toList.take j):Int) else -1):=by unfold Hid;rw[e.out,if_pos (by have:=hd.out;rw[AY]at this;exact this),AY]
       clear hn hd e AY;generalize bk (t.data.toList.take j)=m at *;by_cases hm:m<=32767
       ·have hmi:¬ (32767:Int)<(m:Int):=by omega
        go_wp2_with fail;go_ret;exact⟨cX (by rw[E.out,if_pos hm]),rfl⟩
       ·have hmi:(32767:Int)<(m:Int):=by omega
        go_wp2_with fail;go_ret;exact⟨cX (by rw[E.out,if_neg hm]),rfl⟩
theorem tu:∀(t:Sp.Bs) (a:Nat),a*10 ^ t.length<=eu a t
 | [],a=>by show a*10 ^ 0<=a;omega
 | c :: r,a=>by have h:=tu r (a*10+(c.toNat - 48));have e:eu a (c :: r)=eu (a*10+(c.toNat - 48)) r:=rfl;rw[e,List.length_cons,Nat.pow_succ];refine Nat.le_trans ?_ h;rw[Nat.add_mul,Nat.mul_comm (10 ^ r.length) 10,<-Nat.mul_assoc];omega
theorem sO(h:aC l=3):nU (Sp.tok l)=match fE (Sp.tok l) with
  | some v=>(v:Int)
  | none=>-1:=by
 obtain⟨db,hd⟩:=dp h;unfold nU fE;by_cases h1:1<(Sp.tok l).length/\(Sp.tok l).head?=some 48
 ·rw[if_pos (.inr (.inr ⟨h1.2,h1.1⟩)),if_pos h1]
 ·rw[if_neg h1]
  by_cases h5:5<(Sp.tok l).length
  ·rw[if_pos (.inr (.inl h5)),if_neg]
   cases ht:Sp.tok l with
   | nil=>exact absurd ht db
   | cons c r =>
    rw[ht]at h5 h1 hd;have hc:=hd c (by simp);unfold bq at hc;simp at hc;have rM:c.toNat≠48:=fun e=>h1 ⟨by simp at h5 ⊢;omega,by simp;exact UInt8.toNat_inj.1 e⟩
    have e:bk (c :: r)=eu (0*10+(c.toNat - 48)) r:=rfl;have hp:=tu r (0*10+(c.toNat - 48));have hY:10 ^ 5<=10 ^ r.length:=Nat.pow_le_pow_right (by omega) (by simp at h5;omega);have tK:1*10 ^ r.length<=(0*10+(c.toNat - 48))*10 ^ r.length:=Nat.mul_le_mul_right _ (by omega);rw[e];omega
  ·rw[if_neg (by rintro(k | k | k);exact db k;exact h5 k;exact h1 ⟨k.2,k.1⟩),if_pos hd]
   split<;>rfl
theorem vV(h:aC l≠3):nU (Sp.tok l)=-1:=by
 unfold nU;split
 ·rfl
 ·rename_i hn
  rw[if_neg];intro uj;cases ht:Sp.tok l with
  | nil=>exact hn (.inl ht)
  | cons c r=>exact h (IP ht (uj c (by rw[ht];simp)))
end
section
section
variable{p p' p1 p2:FP}
variable{l l' l1 l2:Sp.Bs}
variable{i pb gg cap:Nat}
def left{α:Type}:Sp.R α->Except (Nat × Nat) Sp.Bs
 | .ok (_,l)=>.ok l
 | .error e=>.error e
def In64(n:Int):Prop:=-9223372036854775808<=n/\n<=9223372036854775807
def eQ(p:FP)(l:Sp.Bs):Prop:=p.ns.length+2*l.length<=2000/\p.qs.length+l.length<=2000/\In64 p.ct.1
structure bQ(p p':FP)(l l':Sp.Bs):Prop where
 pre:∃ex,p'.ns=p.ns ++ ex
 nl:p'.ns.length+2*l'.length<=p.ns.length+2*l.length
 ql:p'.qs.length+l'.length<=p.qs.length+l.length
 pt:In64 p.ct.1->In64 p'.ct.1
theorem bQ.len(h:bQ p p' l l'):p.ns.length<=p'.ns.length:=by obtain⟨ex,e⟩:=h.pre;rw[e];simp
theorem bQ.at(h:bQ p p' l l')(hi:i<p.ns.length):p'.ns[i]?=p.ns[i]?:=by obtain⟨ex,e⟩:=h.pre;rw[e,List.getElem?_append_left hi]
theorem bQ.trans(h:bQ p p1 l l1)(k:bQ p1 p2 l1 l2):bQ p p2 l l2:=by
 obtain⟨e1,h1⟩:=h.pre;obtain⟨e2,h2⟩:=k.pre;refine⟨⟨e1 ++ e2,by rw[h2,h1,List.append_assoc]⟩,?_,?_,fun q=>k.pt (h.pt q)⟩
 ·have:=h.nl;have:=k.nl;omega
 ·have:=h.ql;have:=k.ql;omega
theorem bQ.DI(h:bQ p p' l l')(k:eQ p l):eQ p' l':=by have:=h.nl;have:=h.ql;obtain⟨k1,k2,k3⟩:=k;exact⟨by omega,by omega,h.pt k3⟩
theorem bQ.xC(h:l'.length<=l.length):bQ p p l l':=⟨⟨[],by simp⟩,by omega,by omega,id⟩
theorem bQ.node(h:bQ p p' l l')(n:aJ)(v:Value)(hs:p'.ns.length+1+2*l'.length<=p.ns.length+2*l.length):bQ p { p' with ns:=p'.ns ++ [n],nv:=v } l l':=by obtain⟨ex,e⟩:=h.pre;exact⟨⟨ex ++ [n],by show p'.ns ++ [n]=_;rw[e,List.append_assoc]⟩,by simp;omega,h.ql,h.pt⟩
def du(p p':FP)(l:Sp.Bs):Prop:=(∃ex,p'.ns=p.ns ++ ex)/\p'.ns.length<=p.ns.length+2*l.length+2
theorem du.refl(p:FP)(l:Sp.Bs):du p p l:=⟨⟨[],by simp⟩,by omega⟩
theorem du.made(h:bQ p p1 l l1)(k:du p1 p2 l1):du p p2 l:=by obtain⟨e1,h1⟩:=h.pre;obtain⟨⟨e2,h2⟩,h3⟩:=k;have:=h.nl;exact⟨⟨e1 ++ e2,by rw[h2,h1,List.append_assoc]⟩,by omega⟩
theorem du.node(h:du p p' l1)(hl:l1.length<l.length)(n:aJ)(v:Value):du p { p' with ns:=p'.ns ++ [n],nv:=v } l:=by obtain⟨⟨ex,e⟩,h2⟩:=h;exact⟨⟨ex ++ [n],by show p'.ns ++ [n]=_;rw[e,List.append_assoc]⟩,by simp;omega⟩
theorem du.rl(h:bQ p p' l l'):du p p' l:=⟨h.pre,by have:=h.nl;omega⟩
theorem du.len(h:du p p' l):p.ns.length<=p'.ns.length:=by obtain⟨⟨ex,e⟩,_⟩:=h;rw[e];simp
theorem du.more(h:du p p' l1)(hl:l1.length<=l.length):du p p' l:=⟨h.1,by have:=h.2;omega⟩
def ik(p p':FP)(l:Sp.Bs)(k:Int):Sp.R Sm->Prop
 | .ok (x,l')=>bQ p p' l l'/\(∃j:Nat,k=(j:Int)/\j<p'.ns.length/\pL p'.ns p.ns.length x j p.ct p'.ct)/\p'.qs=p.qs ++ ft x
 | .error _=>du p p' l
def iF(base b pb:Nat)(s:ByteArray)(o:Nat)(p:FP)(l:Sp.Bs)(w:Wd)(r:Sp.R Sm)(e:Ending)(w':Wd):Prop :=
 ∃(k:Int) (p':FP),e=.returned (.int .i64 k)/\FX base b pb s (left r) (o:Int) p' w'/\FK b pb p p' w w'/\ik p p' l k r
def lh(f:FuncId)(base b pb:Nat)(s:ByteArray)(o n:Nat)(u:Sp.Bs->Sp.R Sm):Prop :=
 ∀(l:Sp.Bs) (p:FP) (w:Wd),l.length<n->FR base b pb s l (o:Int) p w->eQ p l->Calls prog f #[.pointer (some ⟨b,0,none⟩)] w (iF base b pb s o p l w (u l))
def yM(f:FuncId)(base b pb:Nat)(s:ByteArray)(v:Int):Prop :=
 ∀(er:Nat × Nat) (p:FP) (w:Wd),FE base b pb s er p w->Calls prog f #[.pointer (some ⟨b,0,none⟩)] w fun e w'=>e=.returned (.int .i64 v)/\w'=w
theorem O7{w:Wd}{first:Int}(h:Bk w pb (cM p first) 105)(v:Value)(qs:List Int):(w.setCell ⟨pb,4,none⟩ v).heap[pb]?=some (.cells (cM { p with qs:=qs,qv:=v } first) 105):=by rw[ai h 4 v];rfl
theorem UT:(prog.info? 3).map (fun i=>(i.zero,i.size,i.bytes))=some (some (.int .i64 0),1,8):=by kernel_rfl
theorem De{base b:Nat}{s:ByteArray}{r:Except (Nat × Nat) Sp.Bs}{oo:Int}{w w1:Wd}{o:Obj}(h:FX base b pb s r oo p w)(hn:p.qs.length+1<=1000000)(n:Int)
  (jG:w1.ownsRow base 3 1 (.slice (some ⟨gg,0,none⟩) (p.qs.length+1) cap) (p.qs.length+1) ((p.qs.map fun n=>Value.int .i64 n) ++ [.int .i64 n])) (hg:(w.alloc o).drew.grownBy w1 p.qv.ownBlock) (zl:p.qv.ownBlock=some gg∨gg=w.heap.size+1) :
  FX base b pb s r oo { p with qs:=p.qs ++ [n],qv:=.slice (some ⟨gg,0,none⟩) (p.qs.length+1) cap } (w1.setCell ⟨pb,4,none⟩ (.slice (some ⟨gg,0,none⟩) (p.qs.length+1) cap))/\FK b pb p { p with qs:=p.qs ++ [n],qv:=.slice (some ⟨gg,0,none⟩) (p.qs.length+1) cap } w (w1.setCell ⟨pb,4,none⟩ (.slice (some ⟨gg,0,none⟩) (p.qs.length+1) cap)):=by
 have hp:=h.prog;have dj:=ah hp.aV;obtain⟨i,a,t,o',er,hb⟩:=h.Ln;have gU:∀k,k<w.heap.size->p.qv.ownBlock≠some k->w1.heap[k]?=w.heap[k]?:=fun k hk hn=>by rw[hg.block k (by show k<(w.alloc o).heap.size;simp;omega) (fun e=>hn e.symm)];exact Below.heap_alloc _ _ _ hk
 have dI:w.heap.size<=w1.heap.size:=by
  have:=hg.size;have h2:(w.alloc o).drew.heap.size=w.heap.size+1:=by show(w.alloc o).heap.size=_;simp
  omega
 have KA:=hp.dM hp.aV kJ;have eI:=hp.dM hb jQ;have rJ:w1.heap[pb]?=some (.cells (cM p 0) 105):=by rw[gU pb dj KA.2];exact hp.aV
 have hpn:lj base pb { p with qs:=p.qs ++ [n],qv:=.slice (some ⟨gg,0,none⟩) (p.qs.length+1) cap } (w1.setCell ⟨pb,4,none⟩ (.slice (some ⟨gg,0,none⟩) (p.qs.length+1) cap)):=by
  refine⟨O7 rJ _ _,?_,?_,hp.ge,hp.n5,by simp;omega⟩
  ·refine aZ hp.jF (fun g rK=>?_)
   have NR:=(bj hp.jF g rK).2.1;rw[Below.heap_setCell _ _ _ _ (fun e=>KA.1 (by rw[<-show g=pb from e];exact rK))];exact gU g NR (fun e=>hp.qh g rK e)
  ·show World.ownsRow _ base 3 1 _ (p.qs ++ [n]).length ((p.qs ++ [n]).map _)
   rw[List.map_append,List.length_append];exact aZ jG (fun g rK=>Below.heap_setCell _ _ _ _ (fun e=>by obtain⟨_,_,c,hc⟩:=bj jG g rK;have e':g=pb:=e;rw[e',rJ]at hc;cases hc))
 refine⟨h.move ?_ hpn,hg.os,hg.tape,hg.output,by simp[World.setCell];omega,fun _ e=>.inl e,?_,?_⟩
 ·rw[Below.heap_setCell _ _ _ _ h.ne]
  exact gU b (ah hb) eI.2
 ·intro g rK
  have e:gg=g:=by simpa [Value.ownBlock] using rK
  subst e
  rcases zl with h1 | h1
  ·exact .inl h1
  ·exact .inr (by omega)
 ·intro k hk _ h2 _ h4
  rw[Below.heap_setCell _ _ _ _ h2];exact gU k hk h4
theorem wL(base b pb:Nat)(s:ByteArray):yM 210 base b pb s 0:=by
 intro er p w h;obtain⟨i,l0,o,hb,Uy⟩:=h.aV;have c6:=cell_of hb 6 (v:=.int .i64 er.1) rfl;have c3:=cell_of hb 3 (v:=.string ⟨(Sp.tok l0).toArray⟩) rfl;have hz:((er.1:Int) == 0)=false:=by have:=h.nz;simp;omega
 have ek:¬ ((er.1:Int)=0):=by have:=h.nz;omega
 have dI:(⟨(Sp.tok l0).toArray⟩:ByteArray).size<=400:=by rw[nf,dR];have:=fv l0;omega
 generalize (er.1:Int)=q at *;clear h hb;go_enter func210,ntmps210;go_wp2_with fail;refine(gk _ dI _).mono ?_;rintro e w1⟨rfl,rfl⟩;go_wp2_with fail;refine(dm l0 Uy _).mono ?_;rintro e w1⟨rfl,rfl⟩;go_wp2_with fail;go_ret;exact⟨rfl,rfl⟩
end
end
section
section
variable{base b pb o:Nat}
variable{s:ByteArray}
variable{l:Sp.Bs}
variable{p:FP}
variable{w w':Wd}
theorem FR.asks{o:Int}(h:FR base b pb s l o p w):w.cell? ⟨b,6,none⟩=some (.int .i64 0)/\w.cell? ⟨b,3,none⟩=some (.string ⟨(Sp.tok l).toArray⟩)/\(⟨(Sp.tok l).toArray⟩:ByteArray).size<=400/\l.length<=400:=by have h1:=h.len;have h2:=h.sz;have h3:=fv l;exact⟨cell_of h.aV 6 rfl,cell_of h.aV 3 rfl,by rw[nf,dR];omega,by omega⟩
theorem qx(h:Sp.tok l=[45]):aC l≠3/\aC l≠2:=by
 constructor
 ·intro k
  have:=(dp k).2 45 (by rw[h];simp);simp[bq]at this
 ·intro k
  cases l with
  | nil=>simp[Sp.tok]at h
  | cons d q =>
   have e:d=45:=by
    unfold Sp.tok at h;cases hn:bf (d :: q) with
    | zero=>rw[hn]at h;simp at h
    | succ m=>rw[hn,List.take_succ_cons]at h;exact(List.cons.inj h).1
   subst e;rw[bX]at k;simp[Sp.isLet,bq]at k;split at k<;>omega
theorem mJ(h:Sp.tok l=[40]):aC l≠3/\aC l≠2:=by
 constructor
 ·intro k
  have:=(dp k).2 40 (by rw[h];simp);simp[bq]at this
 ·intro k
  cases l with
  | nil=>simp[Sp.tok]at h
  | cons d q =>
   have e:d=40:=by
    unfold Sp.tok at h;cases hn:bf (d :: q) with
    | zero=>rw[hn]at h;simp at h
    | succ m=>rw[hn,List.take_succ_cons]at h;exact(List.cons.inj h).1
   subst e;rw[bX]at k;simp[Sp.isLet,bq]at k;split at k<;>omega
theorem wX{f:FuncId}{o n:Nat}{u:Sp.Bs->Sp.R Sm}{v:Int}{r:Except (Nat × Nat) Sp.Bs}(hr:∀l,r=.ok l->lh f base b pb s o n u/\l.length<n/\eQ p l)(hi:yM f base b pb s v)(h:FX base b pb s r (o:Int) p w) :
  Calls prog f #[.pointer (some ⟨b,0,none⟩)] w fun e w'=>∃(k:Int) (p':FP),e=.returned (.int .i64 k)/\FX base b pb s (r.bind fun l=>left (u l)) (o:Int) p' w'/\FK b pb p p' w w'/\(∀l,r=.ok l->ik p p' l k (u l))/\(∀e,r=.error e->p'=p):=by
 cases r with
 | ok l =>obtain⟨h1,h2,h3⟩:=hr l rfl;refine(h1 l p w h2 h h3).mono ?_;rintro e w'⟨k,p',rfl,h1,k1,g1⟩;exact⟨k,p',rfl,h1,k1,fun l' hl=>by cases hl;exact g1,fun _ hl=>nomatch hl⟩
 | error e =>refine(hi e p w h).mono ?_;rintro e' w'⟨rfl,rfl⟩;exact⟨v,p,rfl,h,FK.refl _ _ _ _,(fun _ hl=>nomatch hl),fun _ _=>rfl⟩
theorem Lj{u:Sp.Bs->Sp.R Sm}{r:Except (Nat × Nat) Sp.Bs}{p':FP}{k:Int}(hl:eQ p l)(hr:∀l1,r=.ok l1->l1.length<=l.length)(g:∀l1,r=.ok l1->ik p p' l1 k (u l1))(e:∀e,r=.error e->p'=p):p'.ns.length+1<=1000000:=by
 obtain⟨h1,h2,_⟩:=hl;cases r with
 | error er=>rw[e er rfl];omega
 | ok l1 =>
  have g1:=g l1 rfl;have:=hr l1 rfl;cases hu:u l1 with
  | error er=>rw[hu]at g1;have:=(show du p p' l1 from g1).2;omega
  | ok xl=>rw[hu]at g1;have:=g1.1.nl;omega
theorem OP{u:Sp.Bs->Sp.R Sm}{p1:FP}{k:Int}{n:aJ}{v:Value}(ht:Sp.tok l=[45])(hn:n.kind=3)(ha:n.a=k)
  (g:∀l1,Sp.enter [45] o l=.ok l1->ik p p1 l1 k (u l1)) (he:∀e,Sp.enter [45] o l=.error e->p1=p)
  (h5:FX base b pb s ((Sp.enter [45] o l).bind fun l=>left (u l)) (o:Int) { p1 with ns:=p1.ns ++ [n],nv:=v } w') (k5:FK b pb p { p1 with ns:=p1.ns ++ [n],nv:=v } w w') :
  iF base b pb s o p l w (jZ Tr u o l) (.returned (.int .i64 (p1.ns.length:Nat))) w':=by
 have eV:=aI ht (by simp);refine⟨_,_,rfl,?_,k5,?_⟩
 ·cases hq:Sp.enter [45] o l with
  | error e=>rw[hq]at h5;unfold jZ;rw[hq];exact h5
  | ok l1 =>
   rw[hq]at h5;unfold jZ;rw[hq];simp only[Except.bind]at h5 ⊢;cases hu:u l1 with
   | error e=>rw[hu]at h5;exact h5
   | ok xl=>rw[hu]at h5;exact h5
 ·cases hq:Sp.enter [45] o l with
  | error e =>unfold jZ;rw[hq];show du p _ l;rw[he e hq];exact⟨⟨[n],rfl⟩,by simp;omega⟩
  | ok l1 =>
   obtain⟨_,_,uT⟩:=cE hq;have g1:=g l1 hq;unfold jZ;rw[hq];simp only;cases hu:u l1 with
   | error e =>rw[hu]at g1;exact du.node (l1:=l1) g1 (by rw[uT];omega) n v
   | ok xl =>obtain⟨x,l2⟩:=xl;rw[hu]at g1;obtain⟨m1,⟨j,yf,Hz,DL⟩,DU⟩:=g1;have hm:bQ p p1 l l2:=(bQ.xC (by rw[uT];omega)).trans m1;refine⟨hm.node n v (by have:=m1.nl;rw[uT]at this;omega),⟨p1.ns.length,rfl,by simp,?_⟩,DU⟩;refine⟨n,j,by simp,hn,by rw[ha,yf],Hz,DL.mono (Nat.le_refl _) (fun i _ hi=>?_)⟩;show(p1.ns ++ [n])[i]?=_;rw[List.getElem?_append_left (by omega)]
theorem Dq(base b pb:Nat)(s:ByteArray)(o n:Nat)(ho:o<=12)(hr:o<12->lh 210 base b pb s (o+1) n (bo Tr n (o+1)))
  (l:Sp.Bs) (p:FP) (w:Wd) (hl:l.length<n+1) (h:FR base b pb s l (o:Int) p w) (hlim:eQ p l) (ht:Sp.tok l=[45]) :
  Calls prog 210 #[.pointer (some ⟨b,0,none⟩)] w (iF base b pb s o p l w (bo Tr (n+1) o l)):=by
 obtain⟨c6,c3,dI,uP⟩:=h.asks;have hE:Hid (bo Tr (n+1) o l=jZ Tr (bo Tr n (o+1)) o l):=by unfold Hid;rw[fX,if_neg (qx ht).1,if_neg (qx ht).2,if_pos ht]
 have HN:Hid (∀w,Calls prog 129 #[.string ⟨[45].toArray⟩] w fun e w'=>e=.returned (.bool (aR l).isSome)/\w'=w):=by rw[<-ht];exact dm l uP
 have eV:=aI ht (by simp);rw[ht]at c3 dI;have P8:Hid (∀l1,Sp.enter [45] o l=.ok l1->l1=Sp.next l/\o<12):=fun l1 e=>by obtain⟨_,h2,h3⟩:=cE e;exact⟨h3,by omega⟩
 have HR:=hid hr;have HT:=hid ht;clear hr ht;go_enter func210,ntmps210;go_wp2_with fail;refine(gk _ dI _).mono ?_;rintro e w1⟨rfl,rfl⟩;go_wp2_with fail;refine(HN.out _).mono ?_;rintro e w1⟨rfl,rfl⟩;go_wp2_with fail;refine(Az ho h [45]).mono ?_;rintro e w2⟨rfl,h2,k2⟩;go_wp2_with fail;refine(wX (o:=o+1) (n:=n) (u:=bo Tr n (o+1)) (fun l1 e1=>by obtain⟨e2,e3⟩:=P8.out l1 e1;refine⟨HR.out e3,by rw[e2];omega,?_⟩;rw[e2];exact(bQ.xC (by omega)).DI hlim) (wL base b pb s) h2).mono ?_
 rintro e w3⟨k,p1,rfl,h3,k3,g3,e3⟩;obtain⟨q,c5,f5,hq,hs⟩:=h3.mi 0;obtain⟨h4,k4⟩:=hs (RowKit.wrap64 (q - 1)) (o:Int) (fun l e=>by rw[hq l e,IntWalk.wrap64_in _ (by omega)];omega);have iw:=Lj (l:=l) hlim (fun l1 e1=>by rw[(P8.out l1 e1).1];omega) g3 e3;have H4:=hid (And.intro h4 k4);have G3:=hid (And.intro g3 e3);clear hs hq h4 k4 g3 e3;go_wp2_with fail;refine(eL H4.1 { kind:=3,a:=k } iw).mono ?_;rintro e w5⟨rfl,v,h5,k5⟩;go_wp2_with fail;go_ret;rw[hE.out];exact OP HT.out rfl rfl G3.1 G3.2 h5 ((k2.trans k3).trans (H4.2.trans k5))
end
end
section
theorem td(base b pb:Nat)(s:ByteArray)(o n:Nat)
  (l:Sp.Bs) (p:FP) (w:Wd) (h:FR base b pb s l (o:Int) p w) (S1:Sp.tok l≠[45]) (TO:Sp.tok l≠[40]) (hf:nU (Sp.tok l)=-1) (hv:aR l=none) (hE:Hid (bo Tr (n+1) o l=.error (2,l.length))) :
  Calls prog 210 #[.pointer (some ⟨b,0,none⟩)] w (iF base b pb s o p l w (bo Tr (n+1) o l)):=by
 obtain⟨c6,c3,dI,uP⟩:=h.asks;have HN:Hid (∀w,Calls prog 129 #[.string ⟨(Sp.tok l).toArray⟩] w fun e w'=>e=.returned (.bool false)/\w'=w):=by have:=dm l uP;rw[hv]at this;exact this
 have HV:Hid (∀w,Calls prog 238 #[.string ⟨(Sp.tok l).toArray⟩] w fun e w'=>e=.returned (.int .i64 (-1))/\w'=w):=by intro w;have:=gk _ dI w;rw[show(⟨(Sp.tok l).toArray⟩:ByteArray).data.toList=Sp.tok l from rfl,hf]at this;exact this
 have nd1:((⟨(Sp.tok l).toArray⟩:ByteArray).toList == [45])=false:=by rw[ByteArray.toList_eq];simpa using S1
 have nd2:((⟨(Sp.tok l).toArray⟩:ByteArray).toList == [40])=false:=by rw[ByteArray.toList_eq];simpa using TO
 clear dI S1 TO hf hv;generalize (⟨(Sp.tok l).toArray⟩:ByteArray)=t at *;go_enter func210,ntmps210;go_wp2_with fail;refine(HV.out _).mono ?_;rintro e w1⟨rfl,rfl⟩;go_wp2_with fail;refine(HN.out _).mono ?_;rintro e w1⟨rfl,rfl⟩;go_wp2_with fail;refine(oC h 2 (by decide) 2 rfl).mono ?_;rintro e w2⟨rfl,h2,k2⟩;go_wp2_with fail;go_ret;rw[hE.out];exact⟨_,p,rfl,h2,k2,du.refl _ _⟩
attribute [local go_sem ↓] Go.wp_at_zero Go.wp_at_succ
theorem AO(base b pb:Nat)(s:ByteArray)(o n:Nat)
  (l:Sp.Bs) (p:FP) (w:Wd) (h:FR base b pb s l (o:Int) p w) (hlim:eQ p l) (hk:aC l=3) (v:Nat) (hv:fE (Sp.tok l)=some v) :
  Calls prog 210 #[.pointer (some ⟨b,0,none⟩)] w (iF base b pb s o p l w (bo Tr (n+1) o l)):=by
 obtain⟨i0,hi,Hq,gT,ek⟩:=info_parts UT;obtain⟨c6,c3,dI,uP⟩:=h.asks;have hE:Hid (bo Tr (n+1) o l=.ok (.num v,Sp.next l)):=by unfold Hid;rw[fX,if_pos hk,hv];rfl
 have hf:nU (Sp.tok l)=(v:Int):=by rw[sO hk,hv]
 have Yu:aR l=none:=by
  cases hq:aR l with
  | none=>rfl
  | some q=>have:=eZ hq;omega
 have TM:v<=32767:=by obtain⟨_,h1,h2⟩:=oL hv;omega
 have HN:Hid (∀w,Calls prog 129 #[.string ⟨(Sp.tok l).toArray⟩] w fun e w'=>e=.returned (.bool false)/\w'=w):=by have:=dm l uP;rw[Yu]at this;exact this
 have HV:Hid (∀w,Calls prog 238 #[.string ⟨(Sp.tok l).toArray⟩] w fun e w'=>e=.returned (.int .i64 (v:Int))/\w'=w):=by intro w;have:=gk _ dI w;rw[show(⟨(Sp.tok l).toArray⟩:ByteArray).data.toList=Sp.tok l from rfl,hf]at this;exact this
 have nd1:((⟨(Sp.tok l).toArray⟩:ByteArray).toList == [45])=false:=by rw[ByteArray.toList_eq];simp;intro e;exact(qx e).1 hk
 have nd2:((⟨(Sp.tok l).toArray⟩:ByteArray).toList == [40])=false:=by rw[ByteArray.toList_eq];simp;intro e;exact(mJ e).1 hk
 have eV:(Sp.next l).length<l.length:=fL (dc (.inr (.inl hk)));clear dI hf hv Yu hk;generalize (⟨(Sp.tok l).toArray⟩:ByteArray)=t at *;go_enter func210,ntmps210;go_wp2_with fail;refine(HV.out _).mono ?_;rintro e w1⟨rfl,rfl⟩;go_wp2_with fail;refine(HN.out _).mono ?_;rintro e w1⟨rfl,rfl⟩;go_wp2_with fail;refine(dP h).mono ?_;rintro e w2⟨rfl,h2,k2⟩;have hp:=h2.prog;have d4:=cell_of h2.aV 4 (v:=.pointer (some ⟨pb,0,none⟩)) rfl;have d0:=cell_of hp.aV 4 (v:=p.qv) rfl;have f0:=aw hp.aV 4;have F3:pb<w2.heap.size:=ah hp.aV;have xz:b<w2.heap.size:=ah h2.aV;have ag:p.qv.ownBlock≠some pb:=(hp.dM hp.aV kJ).2;have ab:p.qv.ownBlock≠some b:=(hp.dM h2.aV jQ).2;have Wy:=hp.kF;have nO:=hp.ge;have DU:p.qs.length+1<=2000:=by have:=hlim.2.1;omega
 have UG:p.qs.length+1<=maxLen:=by unfold maxLen;omega
 have Ud:(p.qs.length+1)*8<=140737488355328:=by omega
 clear hp;go_wp2_with fail
 go_region_law
  ((refine step_append_lies _ (by rfl) _ _ _ (by rfl) base 3 i0 _ 1 8 underlying35 hi Hq gT ek rfl (by omega) p.qv p.qs.length (p.qs.map fun n=>Value.int .i64 n) (by rfl) ((Wy.alloc _).drew)
     ⟨w2.heap.size,0,none⟩ 1 1 [.int .i64 (v:Int)] (by rfl) (by rfl) (World.news_of_block (cs:=#[.int .i64 (v:Int)]) (t:=3) (fr:=(0,0)) (heap_alloc_new w2 _)) (by simp[Value.oneCell'])
     (by omega) UG Ud (by simp;omega) (w2.heap.size+1) (by simp) ?_;intro gg cap w3 rN oR zl dj;have f1:w3.frozen? ⟨pb,4,none⟩=false:=(by rw[oR.frozen_far _ (by simp;omega) (Ne.symm ag)];exact qZ F3 f0);have e1:w3.cell? ⟨pb,4,none⟩=some p.qv:=(by rw[oR.cell_far _ (by simp;omega) (Ne.symm ag)];exact mG F3 d0);have e4:w3.cell? ⟨b,4,none⟩=some (.pointer (some ⟨pb,0,none⟩)):=(by rw[oR.cell_far _ (by simp;omega) (Ne.symm ab)];exact mG xz d4)))
 all_goals
  have HF:=De (r:=.ok (Sp.next l)) h2 (by omega) (v:Int) rN oR zl;have HH:=hid HF;clear HF rN oR zl dj;go_wp2_with fail;refine(eL HH.1 { kind:=1,n:=(v:Int) } (by have:=hlim.1;show p.ns.length+1<=_;omega)).mono ?_;rintro e w5⟨rfl,v5,h5,k5⟩;go_wp2_with fail;go_ret;rw[hE.out];refine⟨_,_,rfl,h5,(k2.trans HH.2).trans k5,⟨⟨_,rfl⟩,by simp;omega,by simp;omega,id⟩,⟨p.ns.length,rfl,by simp,?_⟩,rfl⟩;exact⟨_,by simp;rfl,rfl,rfl,TM,Nat.le_refl _,rfl⟩
end
section
section
variable{pb g cap j:Nat}
variable{ns:List aJ}
structure dq(pb g cap:Nat)(ns:List aJ)(w:Wd):Prop where
 slice:w.cell? ⟨pb,0,none⟩=some (.slice (some ⟨g,0,none⟩) ns.length cap)
 cells:∀(j:Nat) (d:aJ) (c:Nat) (u:Value),ns[j]?=some d->c<10->(cw d)[c]?=some u->w.cell? ⟨g,j*10+c,none⟩=some u
 ltp:pb<w.heap.size
 ltg:g<w.heap.size
 mm:ns.length<=cap
 hmax:cap<=maxLen
 hn:ns.length<=2000
theorem dq.after{w w':Wd}(h:dq pb g cap ns w)(hb:Below w.heap.size w w'):dq pb g cap ns w' :=
 ⟨by rw[hb.cell (p:=⟨pb,0,none⟩) h.ltp];exact h.slice,fun j d c u h1 h2 h3=>by rw[hb.cell (p:=⟨g,j*10+c,none⟩) h.ltg];exact h.cells j d c u h1 h2 h3,Nat.lt_of_lt_of_le h.ltp hb.size,Nat.lt_of_lt_of_le h.ltg hb.size,h.mm,h.hmax,h.hn⟩
theorem dq.facts{w:Wd}(h:dq pb g cap ns w){d:aJ}(hd:ns[j]?=some d) :
  j<ns.length/\w.cell? ⟨g,j*10,none⟩=some (.int .i64 d.kind)/\w.cell? ⟨g,j*10+1,none⟩=some (.int .i64 d.a)/\w.cell? ⟨g,j*10+2,none⟩=some (.int .i64 d.b)/\w.cell? ⟨g,j*10+3,none⟩=some (.int .i64 d.c)/\w.cell? ⟨g,j*10+4,none⟩=some (.int .i64 d.n)/\w.cell? ⟨g,j*10+5,none⟩=some (.int .i64 d.next)/\w.cell? ⟨g,j*10+6,none⟩=some (.string ⟨d.sign.toArray⟩)/\w.cell? ⟨g,j*10+7,none⟩=some (.int .i64 d.site)/\w.cell? ⟨g,j*10+8,none⟩=some (.int .i64 d.aA)/\w.cell? ⟨g,j*10+9,none⟩=some (.bool d.els):=by
 have c:=fun(c:Nat) {u:Value} (hc:c<10) (hu:(cw d)[c]?=some u)=>h.cells j d c u hd hc hu
 exact⟨(List.getElem?_eq_some_iff.1 hd).1,c 0 (by omega) rfl,c 1 (by omega) rfl,c 2 (by omega) rfl,c 3 (by omega) rfl,c 4 (by omega) rfl,c 5 (by omega) rfl,c 6 (by omega) rfl,c 7 (by omega) rfl,c 8 (by omega) rfl,c 9 (by omega) rfl⟩
end
end
section
def yD(base pb:Nat)(t:Bl)(w:Wd):Prop :=
 ∃(p:FP) (first:Int) (ct:Ct),w.heap[pb]?=some (.cells (cM p first) 105)/\w.ownsRow base 176 10 p.nv p.ns.length (fR p.ns)/\w.ownsRow base 3 1 p.qv p.qs.length (p.qs.map fun n=>.int .i64 n) /\
  p.ns.length<=2000/\p.qs.length<=2000/\ji p.ns 0 p.ns.length t first (0,0) ct/\p.ct=Sp.aD ct/\In64 ct.1/\p.qs=di t
def gY(s:ByteArray)(w:Wd)(e:Ending)(w':Wd):Prop:=Below w.heap.size w w'/\match Sp.tree s.data.toList with
 | .ok t=>∃pb,e=.returned (.tuple #[.pointer (some ⟨pb,0,none⟩),.int .i64 0,.int .i64 0])/\w.heap.size<=pb/\yD w.heap.size pb t w'
 | .error er=>e=.returned (.tuple #[.pointer none,.int .i64 er.1,.int .i64 er.2])
def Bf:FP:={ ns:=[],ct:=(0,0),qs:=[],nv:=.slice none 0 0,qv:=.slice none 0 0 }
theorem MD{w:Wd}{pb:Nat}{p:FP}{first:Int}(h:Bk w pb (cM p first) 105)(n:Int):(w.setCell ⟨pb,1,none⟩ (.int .i64 n)).heap[pb]?=some (.cells (cM p n) 105):=by rw[ai h 1 (.int .i64 n)];rfl
theorem Dg(w:Wd)(s:ByteArray)(hs:s.size<=400){w1 w3:Wd}(hw1:w1=(w.alloc (.cells (cM Bf 0) 105)).alloc (.cells (ch s 0 0 ByteArray.empty w.heap.size 0 0) 174))(hx:mL (w.heap.size+1) w1 w3)
  (hb:w3.heap[w.heap.size+1]?=some (.cells (ch s ((s.size - (Sp.skip s.data.toList).length+bf (Sp.skip s.data.toList):Nat):Int) ((s.size - (Sp.skip s.data.toList).length:Nat):Int) ⟨(Sp.tok (Sp.skip s.data.toList)).toArray⟩ w.heap.size 0 0) 174)) :
  FR w.heap.size (w.heap.size+1) w.heap.size s (Sp.skip s.data.toList) 0 Bf w3/\Below w.heap.size w w3:=by
 have h1:w1.heap.size=w.heap.size+2:=by subst hw1;simp
 have hp:w1.heap[w.heap.size]?=some (.cells (cM Bf 0) 105):=by subst hw1;rw[Below.heap_alloc _ _ _ (by simp)];exact heap_alloc_new _ _
 have qL:Below w.heap.size w w1:=by subst hw1;exact((Below.refl _ _).alloc (Nat.le_refl _) _).alloc (by simp) _
 refine⟨⟨hb,⟨?_,World.ownsRow_nil _ _ _ _,World.ownsRow_nil _ _ _ _,Nat.le_refl _,by simp[Bf],by simp[Bf]⟩,kI _,hs,by omega,by omega⟩,?_⟩
 ·rw[hx.block _ (by omega) (by omega)];exact hp
 ·refine⟨hx.os.trans qL.os,hx.tape.trans qL.tape,hx.output.trans qL.output,by have:=hx.size;have:=qL.size;omega,fun k hk=>?_⟩
  rw[hx.block k (by omega) (by omega)];exact qL.block k hk
end
section
section
variable{j c base sz n i g cap b pb:Nat}
variable{d d':aJ}
variable{u:Value}
variable{w:Wd}
variable{xs:List Value}
variable{s:ByteArray}
variable{p:FP}
theorem iC:∀(ns:List aJ) (j c:Nat),c<10->(fR ns)[10*j+c]?=(ns[j]?).bind fun d=>(cw d)[c]?
 | [],j,c,_=>by simp[fR]
 | d :: ns,0,c,hc=>by show(cw d ++ fR ns)[10*0+c]?=_;rw[List.getElem?_append_left (by show _<10;omega)];simp
 | d :: ns,j+1,c,hc=>by show(cw d ++ fR ns)[10*(j+1)+c]?=_;rw[List.getElem?_append_right (by show 10<=_;omega)];rw[show 10*(j+1)+c - (cw d).length=10*j+c by show _ - 10=_;omega,iC ns j c hc];simp
theorem Eb(ns:List aJ):(fR ns).length=ns.length*10:=by
 induction ns with
 | nil=>rfl
 | cons d ns ih=>show(cw d ++ fR ns).length=_;rw[List.length_append,ih];show 10+_=_;simp;omega
theorem El{ns:List aJ}(hd:ns[j]?=some d)(hc:c<10)(hu:(cw d).set c u=cw d'):(fR ns).set (10*j+c) u=fR (ns.set j d'):=by
 apply List.ext_getElem?;intro m;have em:m=10*(m / 10)+m % 10:=by omega
 have hm:m % 10<10:=Nat.mod_lt _ (by omega);have hj:j<ns.length:=(List.getElem?_eq_some_iff.1 hd).1;rw[em,iC _ _ _ hm,List.getElem?_set,List.getElem?_set];by_cases e:j=m / 10
 ·subst e
  rw[if_pos rfl,if_pos hj];have h1:=congrArg (fun l:List Value=>l[m % 10]?) hu;simp only[List.getElem?_set]at h1;by_cases ec:c=m % 10
  ·subst ec
   rw[if_pos rfl,if_pos (by rw[Eb];omega)];rw[if_pos rfl,if_pos (by show _<10;omega)]at h1;simpa using h1
  ·rw[if_neg (by omega),iC _ _ _ hm,hd]
   rw[if_neg ec]at h1;simpa using h1
 ·rw[if_neg (by omega),if_neg e,iC _ _ _ hm]
theorem CZ{e:TypeId}(h:w.ownsRow base e sz (.slice (some ⟨g,0,none⟩) n cap) n xs)(u:Value)(_hi:i<n*sz):(w.setCell ⟨g,i,none⟩ u).ownsRow base e sz (.slice (some ⟨g,0,none⟩) n cap) n (xs.set i u):=by
 obtain⟨h1,h2⟩:=h;refine⟨by simpa using h1,.inr ?_⟩
 rcases h2 with⟨h2,_⟩ | ⟨g',aad,cur,hv,hg,hb,h3,h4,h5,h6⟩
 ·cases h2
 ·cases hv
  refine⟨g,cap,cur.setIfInBounds i u,rfl,hg,ai hb i u,h3,h4,by simpa using h5,?_⟩;rw[Array.toList_setIfInBounds,List.take_set,h6]
theorem nj{e:TypeId}(h:w.ownsRow base e sz (.slice (some ⟨g,0,none⟩) n cap) n xs)(hu:xs[i]?=some u):w.cell? ⟨g,i,none⟩=some u/\w.frozen? ⟨g,i,none⟩=false:=by
 obtain⟨h1,h2⟩:=h
 rcases h2 with⟨h2,_⟩ | ⟨g',aad,cur,hv,hg,hb,h3,h4,h5,h6⟩
 ·cases h2
 ·cases hv
  refine⟨cell_of hb i ?_,aw hb i⟩;rw[<-h6]at hu;have dj:=(List.getElem?_eq_some_iff.1 hu).1;have:i<n*sz:=by simp at dj;omega
  rw[List.getElem?_take_of_lt this]at hu;simpa using hu
theorem FX.wY{r:Except (Nat × Nat) Sp.Bs}{o:Int}(h:FX base b pb s r o p w)(hv:p.nv=.slice (some ⟨g,0,none⟩) p.ns.length cap)(hd:p.ns[j]?=some d)(hc:c<10)(hu:(cw d).set c u=cw d') :
  FX base b pb s r o { p with ns:=p.ns.set j d' } (w.setCell ⟨g,j*10+c,none⟩ u)/\FK b pb p { p with ns:=p.ns.set j d' } w (w.setCell ⟨g,j*10+c,none⟩ u):=by
 have hp:=h.prog;obtain⟨i,a,t,o',er,hb⟩:=h.Ln;have hj:j<p.ns.length:=(List.getElem?_eq_some_iff.1 hd).1;have YJ:p.nv.ownBlock=some g:=by rw[hv];rfl
 have KA:=hp.dM hp.aV kJ;have eI:=hp.dM hb jQ;have h1:pb≠g:=fun e=>KA.1 (by rw[e];exact YJ)
 have h2:b≠g:=fun e=>eI.1 (by rw[e];exact YJ)
 refine⟨h.move (Below.heap_setCell _ _ _ _ h2) ⟨?_,?_,?_,hp.ge,by simpa using hp.n5,hp.q5⟩,rfl,rfl,rfl,by simp[World.setCell],fun _ e=>.inl e,fun _ e=>.inl e,?_⟩
 ·rw[Below.heap_setCell _ _ _ _ h1];exact hp.aV
 ·show World.ownsRow _ base 176 10 p.nv (p.ns.set j d').length (fR (p.ns.set j d'))
  have hr:=hp.jF;rw[hv]at hr ⊢;rw[<-El hd hc hu,List.length_set,Nat.mul_comm 10 j];exact CZ hr u (by omega)
 ·exact aZ hp.kF (fun q hq=>Below.heap_setCell _ _ _ _ (fun e=>hp.qh g YJ (by rw[<-show q=g from e];exact hq)))
 ·intro k hk _ _ h3 _
  exact Below.heap_setCell _ _ _ _ (fun e=>h3 (by rw[show k=g from e];exact YJ))
theorem lj.slice(h:lj base pb p w)(hn:0<p.ns.length):∃g cap,p.nv=.slice (some ⟨g,0,none⟩) p.ns.length cap/\p.ns.length<=cap/\cap<=maxLen:=by
 rcases h.jF.2 with⟨_,h2⟩ | ⟨g,cap,cur,hv,_,_,h3,h4,_⟩
 ·omega
 ·exact⟨g,cap,hv,h3,h4⟩
theorem lj.cells(h:lj base pb p w)(hv:p.nv=.slice (some ⟨g,0,none⟩) p.ns.length cap)(hd:p.ns[j]?=some d)(hc:c<10)(hu:(cw d)[c]?=some u):w.cell? ⟨g,j*10+c,none⟩=some u/\w.frozen? ⟨g,j*10+c,none⟩=false:=by have hr:=h.jF;rw[hv]at hr;exact nj hr (by rw[Nat.mul_comm j 10,iC _ _ _ hc,hd];exact hu)
theorem Di{l:Sp.Bs}{o:Int}(h:FR base b pb s l o p w) :
  Calls prog 131 #[.pointer (some ⟨b,0,none⟩)] w fun e w'=>∃k:Int,e=.returned (.int .i64 k)/\FX base b pb s (left (dE l)) o p w'/\FK b pb p p w w'/\∀kk,aR l=some kk->k=(kk:Int):=by
 obtain⟨c6,c3,dI,uP⟩:=h.asks;cases hv:aR l with
 | some kk =>
  obtain⟨c,ht,rL,DC,rM,rfl⟩:=dK hv;have hE:Hid (dE l=.ok (c.toNat - 97,Sp.next l)):=iz hv;have HN:Hid (∀w,Calls prog 129 #[.string ⟨[c].toArray⟩] w fun e w'=>e=.returned (.bool true)/\w'=w):=by have:=dm l uP;rw[ht,hv]at this;exact this
  obtain⟨t,et,iv,hx⟩:=oq c;rw[ht,<-et]at c3;rw[<-et]at HN;have h0:0<t.size:=by omega
  have FY:(97:Int)<=(t[0].toNat:Int)/\(t[0].toNat:Int)<=104:=by rw[hx];omega
  have aU:Hid (((c.toNat - 97:Nat):Int)=(t[0].toNat:Int) - 97):=by unfold Hid;rw[hx];omega
  clear hx et ht hv rL dI;go_enter func131,ntmps131;go_wp2_with fail;refine(HN.out _).mono ?_;rintro e w1⟨rfl,rfl⟩;go_wp2_with fail;refine(dP h).mono ?_;rintro e w2⟨rfl,h2,k2⟩;go_wp2_with fail;go_ret;exact⟨_,rfl,by rw[hE.out];exact h2,k2,fun kk e=>by cases e;rw[aU.out]⟩
 | none =>
  have hE:Hid (dE l=.error (2,l.length)):=jN hv;have HN:Hid (∀w,Calls prog 129 #[.string ⟨(Sp.tok l).toArray⟩] w fun e w'=>e=.returned (.bool false)/\w'=w):=by have:=dm l uP;rw[hv]at this;exact this
  clear hv dI;generalize (⟨(Sp.tok l).toArray⟩:ByteArray)=t at *;go_enter func131,ntmps131;go_wp2_with fail;refine(HN.out _).mono ?_;rintro e w1⟨rfl,rfl⟩;go_wp2_with fail;refine(oC h 2 (by decide) 2 rfl).mono ?_;rintro e w2⟨rfl,h2,k2⟩;go_wp2_with fail;go_ret;exact⟨0,rfl,by rw[hE.out];exact h2,k2,fun kk e=>by cases e⟩
def cN(l:Sp.Bs):Bool:=(aR l).isSome || Sp.tok l == sP || Sp.tok l == kU || Sp.tok l == Qw || Sp.tok l == oG
theorem xL(l:Sp.Bs)(hl:l.length<=400)(w:Wd) :
  Calls prog 98 #[.string ⟨(Sp.tok l).toArray⟩] w fun e w'=>e=.returned (.bool (cN l))/\w'=w:=by
 have e:Hid (cN l=((aR l).isSome || (⟨(Sp.tok l).toArray⟩:ByteArray).toList == [114,101,97,100] || (⟨(Sp.tok l).toArray⟩:ByteArray).toList == [97,115,115,101,114,116] || (⟨(Sp.tok l).toArray⟩:ByteArray).toList == [105,102] || (⟨(Sp.tok l).toArray⟩:ByteArray).toList == [119,104,105,108,101])):=by unfold Hid;rw[ByteArray.toList_eq];rfl
 have HN:Hid (∀w,Calls prog 129 #[.string ⟨(Sp.tok l).toArray⟩] w fun e w'=>e=.returned (.bool (aR l).isSome)/\w'=w):=dm l hl;generalize (⟨(Sp.tok l).toArray⟩:ByteArray)=t at *;generalize (aR l).isSome=nb at *;go_enter func98,ntmps98;go_wp2_with fail;refine(HN.out _).mono ?_;rintro e w1⟨rfl,rfl⟩;cases nb
 all_goals
  go_wp2
  all_goals
   go_ret;exact⟨bA (by rw[e.out];simp_all),rfl⟩
end
end
section
section
variable{l r:Bs}
theorem Dc(h:cN l=true):aC l=2:=by
 unfold cN at h;simp only[Bool.or_eq_true,beq_iff_eq]at h
 rcases h with(((h | h) | h) | h) | h
 ·cases hq:aR l with
  | none=>rw[hq]at h;cases h
  | some k=>exact eZ hq
 ·exact iT (c:=114) h rfl
 ·exact iT (c:=97) h rfl
 ·exact iT (c:=105) h rfl
 ·exact iT (c:=119) h rfl
theorem Fc(h:cN l=false):aR l=none/\Sp.tok l≠sP/\Sp.tok l≠kU/\Sp.tok l≠Qw/\Sp.tok l≠oG:=by
 unfold cN at h;simp only[Bool.or_eq_false_iff,beq_eq_false_iff_ne]at h;obtain⟨⟨⟨⟨h1,h2⟩,h3⟩,h4⟩,h5⟩:=h;refine⟨?_,h2,h3,h4,h5⟩;cases hq:aR l with
 | none=>rfl
 | some k=>rw[hq]at h1;cases h1
theorem nC(A:eW)(n o:Nat)(h:cN l=false):bH A n o l=.error (2,l.length):=by
 obtain⟨h1,h2,h3,h4,h5⟩:=Fc h;cases n with
 | zero=>rfl
 | succ n =>unfold bH;rw[if_neg h2,if_neg h3,if_neg h4,if_neg h5];unfold cy;rw[jN h1]
def dh(A:eW)(st:Bs->R A.T):Nat->List A.T->Bs->R (List A.T)
 | 0,acc,l=>.ok (acc,l)
 | m+1,acc,l=>if cN l=true then(match st l with
     | .ok (x,l1)=>dh A st m (acc ++ [x]) l1
     | .error e=>.error e) else .ok (acc,l)
def uA{α:Type}:R α->R α
 | .ok (x,l)=>if aC l=2 then .error (2,l.length) else .ok (x,l)
 | .error e=>.error e
theorem zW(A:eW)(st:Bs->R A.T)(gI:∀l,cN l=false->st l=.error (2,l.length))(cW:∀l x l1,st l=.ok (x,l1)->l1.length<l.length):∀(m:Nat) (acc:List A.T) (l:Bs),l.length<m->cZ A st m acc l=uA (dh A st m acc l)
 | 0,_,_,h=>absurd h (Nat.not_lt_zero _)
 | m+1,acc,l,h=>by
  unfold cZ dh;by_cases hb:cN l=true
  ·rw[if_pos hb,if_pos (Dc hb)]
   cases hs:st l with
   | error e=>rfl
   | ok xl =>have:=cW l xl.1 xl.2 hs;exact zW A st gI cW m _ _ (by omega)
  ·have DS:cN l=false:=by simpa using hb
   rw[if_neg hb];unfold uA;by_cases hk:aC l=2
   ·rw[if_pos hk,gI l DS];simp only[hk,if_true]
   ·rw[if_neg hk];simp only[hk,if_false]
theorem OX{c:UInt8}(h:aC l=2)(hc:Sp.isLet c=false):Sp.tok l≠c :: r:=by
 intro e;cases l with
 | nil=>simp[Sp.tok]at e
 | cons d q =>
  have ed:d=c:=by
   unfold Sp.tok at e;cases hn:bf (d :: q) with
   | zero=>rw[hn]at e;simp at e
   | succ m=>rw[hn,List.take_succ_cons]at e;exact(List.cons.inj e).1
  subst ed;rw[bX,if_neg (by rw[hc];simp)]at h;split at h
  ·omega
  ·split at h<;>omega
def bD(A:eW)(st:Bs->R A.T)(o:Nat)(l:Bs):R (List A.T):=match Sp.enter [123] o l with
 | .ok l1=>(match dh A st (l1.length+1) [] l1 with
  | .ok (xs,l2)=>(match Sp.take [125] l2 with
   | .ok l3=>.ok (xs,l3)
   | .error e=>.error e)
  | .error e=>.error e)
 | .error e=>.error e
theorem MP(A:eW)(st:Bs->R A.T)(gI:∀l,cN l=false->st l=.error (2,l.length))(cW:∀l x l1,st l=.ok (x,l1)->l1.length<l.length)(o:Nat)(l:Bs):aS A st o l=bD A st o l:=by
 unfold aS bD;cases Sp.enter [123] o l with
 | error e=>rfl
 | ok l1 =>
  simp only;rw[zW A st gI cW _ _ _ (by omega)];cases dh A st (l1.length+1) [] l1 with
  | error e=>rfl
  | ok xl =>
   obtain⟨xs,l2⟩:=xl;simp only[uA];by_cases hk:aC l2=2
   ·rw[if_pos hk]
    unfold Sp.take;rw[if_neg (OX hk rfl)];rfl
   ·rw[if_neg hk];rfl
theorem Px(A:eW)(l:Bs):ou A l=(match dh A (bH A (l.length+1) 0) (l.length+1) [] l with
  | .ok (xs,l1)=>if l1=[] then .ok xs else Sp.bad 2 l1
  | .error e=>.error e):=by
 unfold ou;rw[zW A _ (fun l h=>nC A _ _ h) (fun l x l1 h=>jK _ _ _ _ _ h) _ _ _ (by omega)];cases dh A (bH A (l.length+1) 0) (l.length+1) [] l with
 | error e=>rfl
 | ok xl =>
  obtain⟨xs,l2⟩:=xl;simp only[uA];by_cases hk:aC l2=2
  ·rw[if_pos hk]
   have:l2≠[]:=by intro e;subst e;simp[aC]at hk
   rw[if_neg this];rfl
  ·rw[if_neg hk]
end
end
section
section
variable{src l1:Sp.Bs}
theorem sh(A:eW)(src:Sp.Bs)(h:¬ 400<src.length):Sp.parse A src=(match dh A (bH A ((Sp.skip src).length+1) 0) ((Sp.skip src).length+1) [] (Sp.skip src) with
  | .ok (fs,l1)=>if l1=[] then .ok fs else .error (2,src.length - l1.length)
  | .error e=>.error (e.1,src.length - e.2)):=by
 unfold Sp.parse;rw[if_neg h,Px]
 rcases dh A (bH A ((Sp.skip src).length+1) 0) ((Sp.skip src).length+1) [] (Sp.skip src) with e | ⟨fs,l1⟩
 ·rfl
 ·simp only
  by_cases hl:l1=[]
  ·rw[if_pos hl,if_pos hl]
  ·rw[if_neg hl,if_neg hl];rfl
theorem JY(h:400<src.length):Sp.tree src=.error (1,0):=by unfold Sp.tree Sp.parse;rw[if_pos h]
theorem PU(h:¬ 400<src.length){fs:List (Bl->Bl)}(e:dh Tr (bH Tr ((Sp.skip src).length+1) 0) ((Sp.skip src).length+1) [] (Sp.skip src)=.ok (fs,[])):Sp.tree src=.ok (aP fs):=by unfold Sp.tree;rw[sh Tr src h,e];rfl
theorem IY(h:¬ 400<src.length){fs:List (Bl->Bl)}(hl:l1≠[])(e:dh Tr (bH Tr ((Sp.skip src).length+1) 0) ((Sp.skip src).length+1) [] (Sp.skip src)=.ok (fs,l1)):Sp.tree src=.error (2,src.length - l1.length):=by unfold Sp.tree;rw[sh Tr src h,e];simp only;rw[if_neg hl]
theorem LA(h:¬ 400<src.length){er:Nat × Nat}(e:dh Tr (bH Tr ((Sp.skip src).length+1) 0) ((Sp.skip src).length+1) [] (Sp.skip src)=.error er):Sp.tree src=.error (er.1,src.length - er.2):=by unfold Sp.tree;rw[sh Tr src h,e]
end
end
section
section
variable{base b pb m lv op:Nat}
variable{s:ByteArray}
variable{o first k k2:Int}
variable{p:FP}
variable{w:Wd}
variable{l l1:Sp.Bs}
theorem lJ{r:Except (Nat × Nat) Sp.Bs}(h:FX base b pb s r o p w)(x y site:Int)(t:Sp.Bs)(hn:p.ns.length+1<=1000000) :
  Calls prog 176 #[.pointer (some ⟨b,0,none⟩),.int .i64 x,.string ⟨t.toArray⟩,.int .i64 site,.int .i64 y] w fun e w'=>e=.returned (.int .i64 (p.ns.length:Nat))/\∃v,FX base b pb s r o { p with ns:=p.ns ++ [{ kind:=4,a:=x,b:=y,sign:=t,site:=site }],nv:=v } w'/\FK b pb p { p with ns:=p.ns ++ [{ kind:=4,a:=x,b:=y,sign:=t,site:=site }],nv:=v } w w':=by
 have H:=hid h;clear h;go_enter func176,ntmps176;go_wp2_with fail;refine(eL H.out { kind:=4,a:=x,b:=y,sign:=t,site:=site } hn).mono ?_;rintro e w2⟨rfl,v,h2,k2⟩;go_wp2_with fail;go_ret;exact⟨rfl,v,h2,k2⟩
theorem AG(h:Bk w pb (cM p first) 105)(n:Int):(w.setCell ⟨pb,3,none⟩ (.int .i64 n)).heap[pb]?=some (.cells (cM { p with ct:=(p.ct.1,n) } first) 105):=by rw[ai h 3 (.int .i64 n)];rfl
theorem lK(h:Bk w pb (cM p first) 105)(n:Int):(w.setCell ⟨pb,2,none⟩ (.int .i64 n)).heap[pb]?=some (.cells (cM { p with ct:=(n,p.ct.2) } first) 105):=by rw[ai h 2 (.int .i64 n)];rfl
theorem FX.iX{r:Except (Nat × Nat) Sp.Bs}{p':FP}(h:FX base b pb s r o p w)(i:Nat)(u:Value)(hb:Bk (w.setCell ⟨pb,i,none⟩ u) pb (cM p' 0) 105)(h1:p'.ns=p.ns)(h2:p'.qs=p.qs)(h3:p'.nv=p.nv)(h4:p'.qv=p.qv) :
  FX base b pb s r o p' (w.setCell ⟨pb,i,none⟩ u)/\FK b pb p p' w (w.setCell ⟨pb,i,none⟩ u):=by
 have hp:=h.prog;have KA:=hp.dM hp.aV kJ;refine⟨h.move (Below.heap_setCell _ _ _ _ h.ne) ⟨hb,?_,?_,hp.ge,by rw[h1];exact hp.n5,by rw[h2];exact hp.q5⟩,rfl,rfl,rfl,by simp[World.setCell],fun _ e=>.inl (by rw[<-h3];exact e),fun _ e=>.inl (by rw[<-h4];exact e),fun k hk _ e2 _ _=>Below.heap_setCell _ _ _ _ e2⟩
 ·rw[h1,h3]
  exact aZ hp.jF (fun g rK=>Below.heap_setCell _ _ _ _ (fun e=>KA.1 (by rw[<-show g=pb from e];exact rK)))
 ·rw[h2,h4]
  exact aZ hp.kF (fun g rK=>Below.heap_setCell _ _ _ _ (fun e=>KA.2 (by rw[<-show g=pb from e];exact rK)))
def nG(b:Nat)(s:ByteArray)(w:Wd):Nat:=match w.cell? ⟨b,6,none⟩ with
 | some (.int _ 0)=>(match w.cell? ⟨b,2,none⟩ with
  | some (.int _ a)=>s.size+1 - a.toNat
  | _=>0)
 | _=>0
theorem FR.rest(h:FR base b pb s l o p w):nG b s w=l.length+1:=by unfold nG;rw[cell_of h.aV 6 (v:=.int .i64 0) rfl];simp only;rw[cell_of h.aV 2 (v:=.int .i64 ((s.size - l.length:Nat):Int)) rfl];simp only;have:=h.len;omega
theorem FE.rest{er:Nat × Nat}(h:FE base b pb s er p w):nG b s w=0:=by
 obtain⟨i,l0,o,hb,_⟩:=h.aV;have hz:=h.nz;unfold nG;rw[cell_of hb 6 (v:=.int .i64 er.1) rfl];split
 ·rename_i k e
  have:er.1=0:=(by simpa using e:_/\er.1=0).2;omega
 ·rfl
theorem FX.pd{α:Type}{r:Sp.R α}(h:FX base b pb s (left r) o p w)(hm:∀x l,r=.ok (x,l)->l.length<m):nG b s w<=m:=by
 cases r with
 | error e=>rw[FE.rest (show FE base b pb s e p w from h)];omega
 | ok xl=>rw[FR.rest (show FR base b pb s xl.2 o p w from h)];exact hm xl.1 xl.2 rfl
def rv(A:eW)(lv:Nat)(u:Sp.Bs->Sp.R A.S)(fin:Sp.R A.S):Sp.R A.S->Prop
 | .ok (x,l)=>∃m,l.length<m/\fin=bC A lv u m x l
 | .error e=>fin=.error e
def LK(A:eW)(op:Nat)(x:A.S):Sp.R A.S->Sp.R A.S
 | .ok (y,l)=>.ok (A.bin op x y,l)
 | .error e=>.error e
theorem vq(A:eW)(lv:Nat)(u:Sp.Bs->Sp.R A.S)(m:Nat)(x:A.S)(l:Sp.Bs):bC A lv u (m+1) x l=match eb (Sp.tok l) with
  | some k=>if cL k=lv then(match u (Sp.next l) with
    | .ok (y,l')=>bC A lv u m (A.bin k x y) l'
    | .error e=>.error e) else .ok (x,l)
  | none=>.ok (x,l):=by rw[bC];rfl
theorem Cp{A:eW}{u:Sp.Bs->Sp.R A.S}{fin:Sp.R A.S}{x:A.S}(h:rv A lv u fin (.ok (x,l)))(ia:eb (Sp.tok l)=some op)(Ke:cL op=lv)(cW:∀l x l1,u l=.ok (x,l1)->l1.length<=l.length):rv A lv u fin (LK A op x (u (Sp.next l))):=by
 obtain⟨m,hm,e⟩:=h;cases m with
 | zero=>omega
 | succ m =>
  have hn:=fC ia;rw[vq]at e;rw[ia]at e;simp only[Ke,if_true]at e;cases hu:u (Sp.next l) with
  | error er=>rw[hu]at e;exact e
  | ok yl =>obtain⟨y,l1⟩:=yl;have:=cW _ _ _ hu;rw[hu]at e;exact⟨m,by omega,e⟩
theorem CH{A:eW}{u:Sp.Bs->Sp.R A.S}{fin:Sp.R A.S}{x:A.S}(h:rv A lv u fin (.ok (x,l)))(ia:∀op,eb (Sp.tok l)=some op->cL op≠lv):fin=.ok (x,l):=by
 obtain⟨m,hm,e⟩:=h;cases m with
 | zero=>omega
 | succ m =>
  rw[vq]at e;cases ho:eb (Sp.tok l) with
  | none=>rw[ho]at e;exact e
  | some op =>rw[ho]at e;simp only[if_neg (ia op ho)]at e;exact e
def jP(lv:Nat)(u:Sp.Bs->Sp.R Sm)(fin:Sp.R Sm)(r:Sp.R Sm):Prop:=rv Tr lv u fin r
def roundOf(op:Nat)(x:Sm):Sp.R Sm->Sp.R Sm
 | .ok (y,l)=>.ok (.bin op x y,l)
 | .error e=>.error e
theorem Nj(op:Nat)(x:Sm)(r:Sp.R Sm):LK Tr op x r=roundOf op x r:=by rcases r with e | ⟨y,l⟩<;>rfl
theorem jY{u:Sp.Bs->Sp.R Sm}{fin:Sp.R Sm}{x:Sm}(h:jP lv u fin (.ok (x,l)))(ia:eb (Sp.tok l)=some op)(Ke:cL op=lv)(cW:∀l x l1,u l=.ok (x,l1)->l1.length<=l.length):jP lv u fin (roundOf op x (u (Sp.next l))):=by have:=Cp (A:=Tr) h ia Ke cW;rw[<-Nj];exact this
theorem vS{u:Sp.Bs->Sp.R Sm}{fin:Sp.R Sm}{x:Sm}(h:jP lv u fin (.ok (x,l)))(ia:∀op,eb (Sp.tok l)=some op->cL op≠lv):fin=.ok (x,l):=CH (A:=Tr) h ia
theorem tm{u:Sp.Bs->Sp.R Sm}{fin:Sp.R Sm}{e:Nat × Nat}(h:jP lv u fin (.error e)):fin=.error e:=h
theorem tC{u:Sp.Bs->Sp.R Sm}:jP lv u (bL Tr lv u l) (u l):=by
 unfold bL;show rv Tr lv u _ _
 rcases hu:u l with e | ⟨x,l1⟩
 ·exact rfl
 ·exact⟨l1.length+1,by omega,rfl⟩
theorem mg{p1 p2 p3:FP}{x:Sm}{r:Sp.R Sm}{n:aJ}{v:Value}(g:ik p p1 l k (.ok (x,l1)))(ia:eb (Sp.tok l1)=some op)
  (e1:p2.ns=p1.ns) (e2:p2.qs=p1.qs) (e3:p2.ct=if 3<=op then Sp.aL p1.ct else p1.ct) (g2:ik p2 p3 (Sp.next l1) k2 r) (hk:n.kind=4) (ha:n.a=k) (hb:n.b=k2) (hs:n.sign=Sp.tok l1) (Hn:n.site=if 3<=op then p1.ct.2 else -1) :
  ik p { p3 with ns:=p3.ns ++ [n],nv:=v } l (p3.ns.length:Nat) (roundOf op x r):=by
 have hn:=fC ia;obtain⟨m1,⟨j,yf,Hz,DL⟩,q1⟩:=g;cases r with
 | error e =>
  have g3:du p2 p3 (Sp.next l1):=g2;have g4:du p1 p3 (Sp.next l1):=by obtain⟨⟨ex,hex⟩,g5⟩:=g3;exact⟨⟨ex,by rw[hex,e1]⟩,by rw[e1]at g5;exact g5⟩
  exact du.made m1 (g4.node hn n v)
 | ok yl =>
  obtain⟨y,l2⟩:=yl;obtain⟨m2,⟨j2,i1,i2,i3⟩,q2⟩:=g2;obtain⟨ex1,x1⟩:=m1.pre;obtain⟨ex2,x2⟩:=m2.pre;have n1:=m1.nl;have n2:=m2.nl;have l1':=m1.ql;have QX:=m2.ql;rw[e1]at n2 x2;rw[e2]at QX q2;have hlen:p1.ns.length<=p3.ns.length:=by rw[x2];simp
  have Xu:p.ns.length<=p1.ns.length:=m1.len;have Zo:∀i,i<p1.ns.length->(p3.ns ++ [n])[i]?=p1.ns[i]?:=fun i hi=>by rw[List.getElem?_append_left (by omega),x2,List.getElem?_append_left hi]
  refine⟨⟨⟨ex1 ++ (ex2 ++ [n]),by show p3.ns ++ [n]=_;rw[x2,x1];simp⟩,by simp;omega,by show p3.qs.length+_<=_;omega,fun q=>m2.pt (by rw[e3];have:=m1.pt q;split<;>exact this)⟩,⟨p3.ns.length,rfl,by simp,?_⟩,by show p3.qs=_;rw[q2,q1];simp[ft]⟩;refine⟨n,j,j2,p1.ct,by simp,hk,by rw[ha,yf],by rw[hb,i1],?_,re ia,by omega,i2,DL.mono (Nat.le_refl _) (fun i _ hi=>Zo i (by omega)),Hn,?_⟩
  ·rw[hs]
   unfold eb at ia
   repeat' split at ia
   all_goals first | (rename_i he;cases ia;rw[he];rfl) | cases ia
  ·rw[<-e3,e1]at *
   exact i3.mono Xu (fun i _ hi=>by show(p3.ns ++ [n])[i]?=_;rw[List.getElem?_append_left (by omega)])
end
end
end Go.Proofs.YtiopfihjmkfdmaaGreatDoor
