import Derived.Test.YtiopfihjmkfdmaaGreatDoorB4
namespace Go.Proofs.YtiopfihjmkfdmaaGreatDoor
open Go.Proofs.Tryz Sp
open Go.RowKit
set_option maxRecDepth 100000
set_option maxHeartbeats 16000000
section
variable{A:eW}
variable{b m1 m2 o k m j N lo hi Bd n base:Nat}
variable{s:ByteArray}
variable{ct bh ct1 ct2:Int × Int}
variable{w w' a wr w1 w2:Wd}
variable{er:Nat × Nat}
variable{l' l t:Sp.Bs}
variable{v a0 a1 a2 v' u x y bv cv:Value}
variable{α τ:Type}
variable{e:TypeId}
variable{vs:List Value}
variable{p:Int}
variable{he:Bool}
def Reads(Rp:yQ A)(f:Nat)(b:Nat)(s:ByteArray)(m1 m2 o n:Nat)(u:Sp.Bs->Sp.R A.S):Prop :=
 ∀l ct w,l.length<n->Rd b s m1 m2 l o ct w->Env b m1 m2 w->Calls prog f #[.pointer (some ⟨b,0,none⟩)] w (nH Rp b s m1 m2 o ct w (u l))
theorem yd(Rp:yQ A)(b:Nat)(s:ByteArray)(m1 m2 o n:Nat)(u:Sp.Bs->Sp.R A.S)(cW:∀l x l1,u l=.ok (x,l1)->l1.length<=l.length)
  (hu:Reads Rp 247 b s m1 m2 o n u):Reads Rp 235 b s m1 m2 o n (ov A u):=by
 intro l ct w hl h hE;have hc:Calls prog 234 #[.pointer (some ⟨b,0,none⟩),.int .i64 1,.func (Fn.func 247) #[.pointer (some ⟨b,0,none⟩)] #[]] w (nH Rp b s m1 m2 o ct w (ov A u l)):=Ce Rp b s m1 m2 o n u cW hu l ct w hl h hE;clear cW hu;generalize ov A u l=r at hc ⊢;cases r with
 | error er =>go_enter func235,ntmps235;go_wp2_with fail;refine hc.mono ?_;rintro e w1⟨N,rfl,hf⟩;exact⟨rfl,N,rfl,hf⟩
 | ok xl =>obtain⟨x,l1⟩:=xl;go_enter func235,ntmps235;go_wp2_with fail;refine hc.mono ?_;rintro e w1⟨v,rfl,ct1,hv,h1,x1⟩;go_wp2_with fail;go_ret;exact⟨v,rfl,ct1,hv,h1,x1⟩
theorem y4(Rp:yQ A)(b:Nat)(s:ByteArray)(m1 m2 o n:Nat)(u:Sp.Bs->Sp.R A.S)(cW:∀l x l1,u l=.ok (x,l1)->l1.length<=l.length)
  (hu:Reads Rp 247 b s m1 m2 o n u):Reads Rp 207 b s m1 m2 o n (mO A u):=by
 intro l ct w hl h hE;have hc:Calls prog 234 #[.pointer (some ⟨b,0,none⟩),.int .i64 0,.func (Fn.func 235) #[.pointer (some ⟨b,0,none⟩)] #[]] w (nH Rp b s m1 m2 o ct w (mO A u l)):=xN Rp b s m1 m2 o n (ov A u) (sJ cW) (yd Rp b s m1 m2 o n u cW hu) l ct w hl h hE;clear cW hu;generalize mO A u l=r at hc ⊢;cases r with
 | error er =>go_enter func207,ntmps207;go_wp2_with fail;refine hc.mono ?_;rintro e w1⟨N,rfl,hf⟩;exact⟨rfl,N,rfl,hf⟩
 | ok xl =>obtain⟨x,l1⟩:=xl;go_enter func207,ntmps207;go_wp2_with fail;refine hc.mono ?_;rintro e w1⟨v,rfl,ct1,hv,h1,x1⟩;go_wp2_with fail;go_ret;exact⟨v,rfl,ct1,hv,h1,x1⟩
theorem lF(Rp:yQ A){r:Sp.R A.S}{e:Ending}(hr:r=.error er)(h:bB s b w er e w'):nH Rp b s m1 m2 o ct w r e w':=by rw[hr];exact h
theorem zh(Rp:yQ A){r:Sp.R A.S}{x:A.S}(hr:r=.ok (x,l'))(hv:Rp.S ct v x bh)(h:Rd b s m1 m2 l' o bh w')(hx:Ext b w w'):nH Rp b s m1 m2 o ct w r (.returned v) w':=by rw[hr];exact⟨v,rfl,bh,hv,h,hx⟩
def jZ(A:eW)(u:Sp.Bs->Sp.R A.S)(o:Nat)(l:Sp.Bs):Sp.R A.S:=match Sp.enter [45] o l with
 | .ok l1=>(match u l1 with
  | .ok (x,l2)=>.ok (A.neg x,l2)
  | .error e=>.error e)
 | .error e=>.error e
theorem j9(Rp:yQ A)(b:Nat)(s:ByteArray)(m1 m2 o n:Nat)(u:Sp.Bs->Sp.R A.S)
  (hu:o<12->Reads Rp 247 b s m1 m2 (o+1) n u) (l:Sp.Bs) (ct:Int × Int) (w:Wd) (hl:l.length<n+1) (h:Rd b s m1 m2 l o ct w) (hE:Env b m1 m2 w) (ho:o<=12) (ht:Sp.tok l=[45]) :
  Calls prog 253 #[.pointer (some ⟨b,0,none⟩)] w (nH Rp b s m1 m2 o ct w (jZ A u o l)):=by
 by_cases rR:o=12
 ·subst rR
  have hr:Hid (jZ A u 12 l=.error (3,l.length)):=by unfold Hid jZ Sp.enter;rw[if_pos ht,if_pos rfl];rfl
  go_enter func253,ntmps253;go_wp2_with fail;refine(qy h [45] ht).mono ?_;rintro e w1⟨N,rfl,hf⟩;exact⟨rfl,lF Rp hr.out ⟨N,rfl,hf⟩⟩
 ·have N5:Sp.enter [45] o l=.ok (Sp.next l):=by unfold Sp.enter;rw[if_pos ht,if_neg rR]
  have Tf:=aI ht (by simp);cases hr:u (Sp.next l) with
  | error er =>
   have aU:Hid (jZ A u o l=.error er):=by unfold Hid jZ;rw[N5];simp only;rw[hr]
   go_enter func253,ntmps253;go_wp2_with fail;refine(iU h (by omega) [45] ht).mono ?_;rintro e w1⟨rfl,h1,x1⟩;go_wp2_with fail;refine(hu (by omega) (Sp.next l) ct w1 (by omega) h1 (hE.ext x1)).mono ?_;intro e w2 hp;rw[hr]at hp;obtain⟨N,rfl,hf⟩:=hp;exact⟨rfl,lF Rp aU.out (bB.ahead x1 ⟨N,rfl,hf⟩)⟩
  | ok xl =>
   obtain⟨x,l2⟩:=xl;have aU:Hid (jZ A u o l=.ok (A.neg x,l2)):=by unfold Hid jZ;rw[N5];simp only;rw[hr]
   go_enter func253,ntmps253;go_wp2_with fail;refine(iU h (by omega) [45] ht).mono ?_;rintro e w1⟨rfl,h1,x1⟩;go_wp2_with fail;refine(hu (by omega) (Sp.next l) ct w1 (by omega) h1 (hE.ext x1)).mono ?_;intro e w2 hp;rw[hr]at hp;obtain⟨v,rfl,ct1,hv,h2,x2⟩:=hp;obtain⟨tv,uv,rfl⟩:=Rp.iface _ _ _ _ hv;have c4:w2.cell? ⟨b,4,none⟩=some (.int .i64 ((o:Int)+1)):=h2.c4;have f4:=h2.fz 4;have Bq:=uz h2 o (o:Int) rfl;have HS:=hid Bq;have hn:=Rp.neg _ _ _ _ hv;have HN:=hid hn;clear Bq hn hr;go_wp2_with fail;go_ret;exact zh Rp aU.out HN HS.1 ((x1.trans x2).trans HS.2)
def bZ(A:eW)(q:Sp.Bs->Sp.R A.S)(o:Nat)(l:Sp.Bs):Sp.R A.S:=match Sp.enter [40] o l with
 | .ok l1=>(match q l1 with
  | .ok (x,l2)=>(match Sp.take [41] l2 with
   | .ok l3=>.ok (x,l3)
   | .error e=>.error e)
  | .error e=>.error e)
 | .error e=>.error e
theorem tW(Rp:yQ A)(b:Nat)(s:ByteArray)(m1 m2 o n:Nat)(q:Sp.Bs->Sp.R A.S)
  (hu:o<12->Reads Rp 207 b s m1 m2 (o+1) n q) (l:Sp.Bs) (ct:Int × Int) (w:Wd) (hl:l.length<n+1) (h:Rd b s m1 m2 l o ct w) (hE:Env b m1 m2 w) (ho:o<=12) :
  Calls prog 254 #[.pointer (some ⟨b,0,none⟩)] w (nH Rp b s m1 m2 o ct w (bZ A q o l)):=by
 by_cases ht:Sp.tok l=[40]
 ·by_cases rR:o=12
  ·subst rR
   have hr:Hid (bZ A q 12 l=.error (3,l.length)):=by unfold Hid bZ Sp.enter;rw[if_pos ht,if_pos rfl];rfl
   go_enter func254,ntmps254;go_wp2_with fail;refine(qy h [40] ht).mono ?_;rintro e w1⟨N,rfl,hf⟩;exact⟨rfl,lF Rp hr.out ⟨N,rfl,hf⟩⟩
  ·have N5:Sp.enter [40] o l=.ok (Sp.next l):=by unfold Sp.enter;rw[if_pos ht,if_neg rR]
   have Tf:=aI ht (by simp);cases hr:q (Sp.next l) with
   | error er =>
    have aU:Hid (bZ A q o l=.error er):=by unfold Hid bZ;rw[N5];simp only;rw[hr]
    go_enter func254,ntmps254;go_wp2_with fail;refine(iU h (by omega) [40] ht).mono ?_;rintro e w1⟨rfl,h1,x1⟩;go_wp2_with fail;refine(hu (by omega) (Sp.next l) ct w1 (by omega) h1 (hE.ext x1)).mono ?_;intro e w2 hp;rw[hr]at hp;obtain⟨N,rfl,hf⟩:=hp;exact⟨rfl,lF Rp aU.out (bB.ahead x1 ⟨N,rfl,hf⟩)⟩
   | ok xl =>
    obtain⟨x,l2⟩:=xl;by_cases Bq:Sp.tok l2=[41]
    ·have aU:Hid (bZ A q o l=.ok (x,Sp.next l2)):=by unfold Hid bZ;rw[N5];simp only;rw[hr];simp only;unfold Sp.take;rw[if_pos Bq]
     go_enter func254,ntmps254;go_wp2_with fail;refine(iU h (by omega) [40] ht).mono ?_;rintro e w1⟨rfl,h1,x1⟩;go_wp2_with fail;refine(hu (by omega) (Sp.next l) ct w1 (by omega) h1 (hE.ext x1)).mono ?_;intro e w2 hp;rw[hr]at hp;obtain⟨v,rfl,ct1,hv,h2,x2⟩:=hp;have HV:=hid hv;clear hv hr;go_wp2_with fail;refine(dx h2 [41] Bq).mono ?_;rintro e w3⟨rfl,h3,x3⟩;have c4:w3.cell? ⟨b,4,none⟩=some (.int .i64 ((o:Int)+1)):=h3.c4;have f4:=h3.fz 4;have Bq:=uz h3 o (o:Int) rfl;have HS:=hid Bq;clear Bq;go_wp2_with fail;go_ret;exact zh Rp aU.out HV HS.1 (((x1.trans x2).trans x3).trans HS.2)
    ·have aU:Hid (bZ A q o l=.error (2,l2.length)):=by unfold Hid bZ;rw[N5];simp only;rw[hr];simp only;unfold Sp.take;rw[if_neg Bq];rfl
     go_enter func254,ntmps254;go_wp2_with fail;refine(iU h (by omega) [40] ht).mono ?_;rintro e w1⟨rfl,h1,x1⟩;go_wp2_with fail;refine(hu (by omega) (Sp.next l) ct w1 (by omega) h1 (hE.ext x1)).mono ?_;intro e w2 hp;rw[hr]at hp;obtain⟨v,rfl,ct1,hv,h2,x2⟩:=hp;clear hv hr;go_wp2_with fail;refine(lU h2 [41] Bq).mono ?_;rintro e w3⟨N,rfl,hf⟩;exact⟨rfl,lF Rp aU.out (bB.ahead (x1.trans x2) ⟨N,rfl,hf⟩)⟩
 ·have hr:Hid (bZ A q o l=.error (2,l.length)):=by
   unfold Hid bZ Sp.enter;rw[if_neg ht];rfl
  go_enter func254,ntmps254;go_wp2_with fail;refine(yO h [40] ht).mono ?_;rintro e w1⟨N,rfl,hf⟩;exact⟨rfl,lF Rp hr.out ⟨N,rfl,hf⟩⟩
theorem fX(A:eW)(n o:Nat)(l:Sp.Bs):bo A (n+1) o l =
  if aC l=3 then(match fE (Sp.tok l) with
   | some v=>.ok (A.num v,Sp.next l)
   | none=>Sp.bad 2 l)
  else if aC l=2 then(match dE l with
   | .ok (k,l1)=>.ok (A.name k,l1)
   | .error e=>.error e)
  else if Sp.tok l=[45] then jZ A (bo A n (o+1)) o l
  else bZ A (mO A (bo A n (o+1))) o l:=rfl
theorem jN(h:aR l=none):dE l=.error (2,l.length):=by unfold dE;rw[h];rfl
theorem iz(h:aR l=some k):dE l=.ok (k,Sp.next l):=by unfold dE;rw[h]
theorem D4(Rp:yQ A)(b:Nat)(s:ByteArray)(m1 m2 o n:Nat)(ho:o<=12)
  (ih:o<12->Reads Rp 247 b s m1 m2 (o+1) n (bo A n (o+1))):Reads Rp 247 b s m1 m2 o (n+1) (bo A (n+1) o):=by
 intro l ct w hl h hE;rw[fX];have c2:=h.c2;by_cases h3:aC l=3
 ·rw[if_pos h3]
  have ZM:w.cell? ⟨b,2,none⟩=some (.int .i64 3):=by rw[c2,h3];rfl
  clear c2;cases hv:fE (Sp.tok l) with
  | none =>go_enter func247,ntmps247;go_wp2_with fail;refine(Fq h hE.laid h3 hv).mono ?_;rintro e w1⟨N,rfl,hf⟩;exact⟨rfl,N,rfl,hf⟩
  | some v =>
   have hle:v<=32767:=by have:=oL hv;omega
   go_enter func247,ntmps247;go_wp2_with fail;refine(IZ h h3 hv).mono ?_;rintro e w1⟨rfl,h1,x1⟩;go_wp2_with fail;go_ret;exact⟨_,rfl,ct,Rp.num ct v hle,h1,x1⟩
 ·rw[if_neg h3]
  have n3:¬ (((aC l:Nat):Int)=3):=by omega
  have b3:(((aC l:Nat):Int) == 3)=false:=by simpa using n3
  by_cases h2:aC l=2
  ·rw[if_pos h2]
   have ZM:w.cell? ⟨b,2,none⟩=some (.int .i64 2):=by rw[c2,h2];rfl
   clear c2 n3 b3 h3;cases hv:aR l with
   | none =>rw[jN hv];go_enter func247,ntmps247;go_wp2_with fail;refine(vf h hv).mono ?_;rintro e w1⟨N,rfl,hf⟩;exact⟨rfl,N,rfl,hf⟩
   | some k =>
    rw[iz hv];have hk:k<8:=by obtain⟨c,_,_,h1,h2,rfl⟩:=dK hv;omega
    go_enter func247,ntmps247;go_wp2_with fail;refine(nt h hv).mono ?_;rintro e w1⟨rfl,h1,x1⟩;go_wp2_with fail;go_ret;exact⟨_,rfl,ct,Rp.name ct k hk,h1,x1⟩
  ·rw[if_neg h2]
   have n2:¬ (((aC l:Nat):Int)=2):=by omega
   have b2:(((aC l:Nat):Int) == 2)=false:=by simpa using n2
   have c3:=h.c3;by_cases ht:Sp.tok l=[45]
   ·rw[if_pos ht]
    have Xd:w.cell? ⟨b,3,none⟩=some (.string ⟨#[45]⟩):=by rw[c3,ht]
    have hc:=j9 Rp b s m1 m2 o n (bo A n (o+1)) ih l ct w hl h hE ho ht;clear c3 ht ih h2 h3;generalize jZ A (bo A n (o+1)) o l=r at hc ⊢;generalize aC l=kd at *;cases r with
    | error er =>go_enter func247,ntmps247;go_wp2_with fail;refine hc.mono ?_;rintro e w1⟨N,rfl,hf⟩;exact⟨rfl,N,rfl,hf⟩
    | ok xl =>obtain⟨x,l1⟩:=xl;go_enter func247,ntmps247;go_wp2_with fail;refine hc.mono ?_;rintro e w1⟨v,rfl,ct1,hv,h1,x1⟩;go_wp2_with fail;go_ret;exact⟨v,rfl,ct1,hv,h1,x1⟩
   ·rw[if_neg ht]
    have hb:=gO ht;have hc:=tW Rp b s m1 m2 o n (mO A (bo A n (o+1))) (fun rR=>y4 Rp b s m1 m2 (o+1) n _ (fun l x l1 h=>Nat.le_of_lt (iH n (o+1) l x l1 h)) (ih rR)) l ct w hl h hE ho;clear ih h2 h3 ht;generalize bZ A (mO A (bo A n (o+1))) o l=r at hc ⊢;generalize aC l=kd at *;cases r with
    | error er =>go_enter func247,ntmps247;go_wp2_with fail;refine hc.mono ?_;rintro e w1⟨N,rfl,hf⟩;exact⟨rfl,N,rfl,hf⟩
    | ok xl =>obtain⟨x,l1⟩:=xl;go_enter func247,ntmps247;go_wp2_with fail;refine hc.mono ?_;rintro e w1⟨v,rfl,ct1,hv,h1,x1⟩;go_wp2_with fail;go_ret;exact⟨v,rfl,ct1,hv,h1,x1⟩
theorem tw(Rp:yQ A)(b:Nat)(s:ByteArray)(m1 m2:Nat):∀(n o:Nat),o<=12->Reads Rp 247 b s m1 m2 o n (bo A n o)
 | 0,_,_=>fun l _ _ hl _ _=>absurd hl (Nat.not_lt_zero _)
 | n+1,o,ho=>D4 Rp b s m1 m2 o n ho (fun h=>tw Rp b s m1 m2 n (o+1) (by omega))
theorem gv(Rp:yQ A)(b:Nat)(s:ByteArray)(m1 m2 o:Nat)(ho:o<=12)(l:Sp.Bs)(ct:Int × Int)(w:Wd)(h:Rd b s m1 m2 l o ct w)(hE:Env b m1 m2 w) :
  Calls prog 207 #[.pointer (some ⟨b,0,none⟩)] w (nH Rp b s m1 m2 o ct w (Sp.pS A o l)) :=
 y4 Rp b s m1 m2 o (l.length+1) _ (fun l' x l1 h=>Nat.le_of_lt (iH (l.length+1) o l' x l1 h)) (tw Rp b s m1 m2 (l.length+1) o ho) l ct w (Nat.lt_succ_self _) h hE
theorem tJ(h:dQ (Sp.tok l)=some k):aC l≠3:=by
 intro h3;obtain⟨db,hd⟩:=dp h3
 revert h db hd
 generalize Sp.tok l=t;intro h db hd;cases t with
 | nil=>exact db rfl
 | cons c r =>
  have hc:=hd c (by simp);unfold bq at hc;simp at hc;unfold dQ at h
  repeat' split at h
  all_goals first
   | (rename_i e;injection e with e1 _;subst e1;revert hc;decide)
   | cases h
def lT(V:Int × Int->Wd->Value->α->Int × Int->Prop)(b:Nat)(s:ByteArray)(m1 m2 o:Nat)(ct:Int × Int)(w:Wd):Sp.R α->Ending->Wd->Prop
 | .ok (x,l'),e,w'=>∃v,e=.returned v/\∃bh,V ct w' v x bh/\Rd b s m1 m2 l' o bh w'/\Ext b w w'
 | .error er,e,w'=>bB s b w er e w'
theorem bS{V:Int × Int->Wd->Value->α->Int × Int->Prop}{r:Sp.R α}{e:Ending}(hr:r=.error er)(h:bB s b w er e w'):lT V b s m1 m2 o ct w r e w':=by rw[hr];exact h
theorem fm{V:Int × Int->Wd->Value->α->Int × Int->Prop}{r:Sp.R α}{x:α}(hr:r=.ok (x,l'))(hv:V ct w' v x bh)(h:Rd b s m1 m2 l' o bh w')(hx:Ext b w w'):lT V b s m1 m2 o ct w r (.returned v) w':=by rw[hr];exact⟨v,rfl,bh,hv,h,hx⟩
def Vg(Rp:yQ A)(ct:Int × Int)(_w:Wd)(v:Value)(c:Nat × A.S × A.S)(ct2:Int × Int):Prop :=
 ∃tl ul tr ur ct1,v=.agg #[.int .i64 (c.1:Nat),.iface tl ul,.iface tr ur]/\c.1<6/\Rp.S ct (.iface tl ul) c.2.1 ct1/\Rp.S ct1 (.iface tr ur) c.2.2 ct2
theorem vH(h:gK m w)(t:Sp.Bs)(ht:t.length<=400)(ho:dQ t=none)(k:Nat) :
  (Instr.lookup 143 (.map (some m)) (.string ⟨t.toArray⟩) true).run prog (w.drewN k)=.ok (.tuple #[.int .i64 0,.bool false]) (w.drewN k):=by
 rw[yW (h.drewN k) t ht,ho];rfl
theorem oA(h:gK m w)(t:Sp.Bs)(ht:t.length<=400)(ho:dQ t=some j)(k:Nat) :
  (Instr.lookup 143 (.map (some m)) (.string ⟨t.toArray⟩) true).run prog (w.drewN k)=.ok (.tuple #[.int .i64 (j:Nat),.bool true]) (w.drewN k):=by
 rw[yW (h.drewN k) t ht,ho];rfl
theorem vO(h:dQ t=some k):k<6:=by
 unfold dQ at h
 repeat' split at h
 all_goals first | (cases h;decide) | cases h
theorem EI{t:TypeId}(h:Bk w N #[a0,a1,a2] t)(v0 v1 v2:Value) :
  (((w.setCell ⟨N,0,none⟩ v0).setCell ⟨N,1,none⟩ v1).setCell ⟨N,2,none⟩ v2).heap[N]?=some (.cells #[v0,v1,v2] t):=by
 rw[ai (ai (ai h 0 v0) 1 v1) 2 v2];rfl
theorem gh(Rp:yQ A)(b:Nat)(s:ByteArray)(m1 m2 o:Nat)(ho:o<=12)(l:Sp.Bs)(ct:Int × Int)(w:Wd)(h:Rd b s m1 m2 l o ct w)(hE:Env b m1 m2 w) :
  Calls prog 205 #[.pointer (some ⟨b,0,none⟩)] w (lT (Vg Rp) b s m1 m2 o ct w (bn A o l)):=by
 have jo:Hid (Rd b s m1 m2 l o ct (w.alloc (.cells #[.int .i64 0,.nilIface,.nilIface] 285))/\Env b m1 m2 (w.alloc (.cells #[.int .i64 0,.nilIface,.nilIface] 285))/\Ext b w (w.alloc (.cells #[.int .i64 0,.nilIface,.nilIface] 285))) :=
  ⟨h.ext _,hE.ext ((Ext.refl b w).alloc _),(Ext.refl b w).alloc _⟩
 have dj:=h.lt;cases hr:Sp.pS A o l with
 | error er =>
  have aU:Hid (bn A o l=.error er):=by unfold Hid bn;rw[hr]
  go_enter func205,ntmps205;go_wp2_with fail;refine(gv Rp b s m1 m2 o ho l ct _ jo.1 jo.2.1).mono ?_;intro e w1 hp;rw[hr]at hp;obtain⟨N,rfl,hf⟩:=hp;exact⟨rfl,bS aU.out (bB.ahead jo.2.2 ⟨N,rfl,hf⟩)⟩
 | ok xl =>
  obtain⟨x,l1⟩:=xl;cases hq:dQ (Sp.tok l1) with
  | none =>
   have aU:Hid (bn A o l=.error (2,l1.length)):=by unfold Hid bn;rw[hr];simp only;rw[hq];rfl
   go_enter func205,ntmps205;go_wp2_with fail;refine(gv Rp b s m1 m2 o ho l ct _ jo.1 jo.2.1).mono ?_;intro e w1 hp;rw[hr]at hp;obtain⟨v,rfl,ct1,hv,h1,x1⟩:=hp;have c3:=h1.c3;have c8:=h1.c8;have S7:=jo.2.1.ext x1;have Hf:=vH S7.rels (Sp.tok l1) h1.iE hq;clear hr hq;go_wp2_with fail;go_quiet (fail);go_wp2_with fail;refine(eA (h1.drewN _) 2).mono ?_;rintro e w2⟨rfl,rfl⟩;go_wp2_with fail;exact⟨rfl,bS aU.out (bB.ahead ((jo.2.2.trans x1).drewN _) (gp (h1.drewN _) 2 2 rfl))⟩
  | some k =>
   have Kx:=vO hq;cases sL:Sp.pS A o (Sp.next l1) with
   | error er =>
    have aU:Hid (bn A o l=.error er):=by unfold Hid bn;rw[hr];simp only;rw[hq];simp only;rw[sL]
    go_enter func205,ntmps205;go_wp2_with fail;refine(gv Rp b s m1 m2 o ho l ct _ jo.1 jo.2.1).mono ?_;intro e w1 hp;rw[hr]at hp;obtain⟨v,rfl,ct1,hv,h1,x1⟩:=hp;have c3:=h1.c3;have c8:=h1.c8;have S7:=jo.2.1.ext x1;have Hf:=oA S7.rels (Sp.tok l1) h1.iE hq;have HQ3:Hid (aC l1≠3):=tJ hq;clear hr hq;go_wp2_with fail;go_quiet (fail);go_wp2_with fail;refine(gQ (h1.drewN _) HQ3.out).mono ?_;rintro e w2⟨rfl,h2,x2⟩;go_wp2_with fail;refine(gv Rp b s m1 m2 o ho (Sp.next l1) ct1 _ h2 (S7.ext x2.il)).mono ?_;intro e w3 AV;rw[sL]at AV;obtain⟨N,rfl,hf⟩:=AV;exact⟨rfl,bS aU.out (bB.ahead ((jo.2.2.trans x1).trans x2.il) ⟨N,rfl,hf⟩)⟩
   | ok yl =>
    obtain⟨y,l2⟩:=yl;have aU:Hid (bn A o l=.ok ((k,x,y),l2)):=by unfold Hid bn;rw[hr];simp only;rw[hq];simp only;rw[sL]
    go_enter func205,ntmps205;go_wp2_with fail;refine(gv Rp b s m1 m2 o ho l ct _ jo.1 jo.2.1).mono ?_;intro e w1 hp;rw[hr]at hp;obtain⟨v,rfl,ct1,hv,h1,x1⟩:=hp;obtain⟨tl,ul,rfl⟩:=Rp.iface _ _ _ _ hv;have HV:=hid hv;have c3:=h1.c3;have c8:=h1.c8;have S7:=jo.2.1.ext x1;have Hf:=oA S7.rels (Sp.tok l1) h1.iE hq;have HQ3:Hid (aC l1≠3):=tJ hq;clear hr hq hv;go_wp2_with fail;go_quiet (fail);go_wp2_with fail;refine(gQ (h1.drewN _) HQ3.out).mono ?_;rintro e w2⟨rfl,h2,x2⟩;go_wp2_with fail;refine(gv Rp b s m1 m2 o ho (Sp.next l1) ct1 _ h2 (S7.ext x2.il)).mono ?_;intro e w3 AV;rw[sL]at AV;obtain⟨v3,rfl,ct2,TM,h3,x3⟩:=AV;obtain⟨tr,ur,rfl⟩:=Rp.iface _ _ _ _ TM;have HV3:=hid TM;have eI:=lI ((x1.trans x2.il).trans x3) dj;have k0:=cell_of eI 0 (v:=.int .i64 0) rfl;have k1:=cell_of eI 1 (v:=.nilIface) rfl;have k2:=cell_of eI 2 (v:=.nilIface) rfl;have f0:=aw eI 0;have f1:=aw eI 1;have f2:=aw eI 2;clear sL TM;have hW:=EI eI (.int .i64 (k:Nat)) (.iface tl ul) (.iface tr ur);have q0:=cell_of hW 0 (v:=.int .i64 (k:Nat)) rfl;have q1:=cell_of hW 1 (v:=.iface tl ul) rfl;have q2:=cell_of hW 2 (v:=.iface tr ur) rfl;have HR:Hid (Rd b s m1 m2 l2 o ct2 (((w3.setCell ⟨w.heap.size,0,none⟩ (.int .i64 (k:Nat))).setCell ⟨w.heap.size,1,none⟩ (.iface tl ul)).setCell ⟨w.heap.size,2,none⟩ (.iface tr ur))) :=
     ((h3.eh (p:=⟨w.heap.size,0,none⟩) (by show w.heap.size≠b;omega) (kH eI (by decide)) _).eh (p:=⟨w.heap.size,1,none⟩) (by show w.heap.size≠b;omega) (Fw (kH eI (by decide))) _).eh (p:=⟨w.heap.size,2,none⟩) (by show w.heap.size≠b;omega) (Fw (Fw (kH eI (by decide)))) _
    have HX:Hid (Ext b w (((w3.setCell ⟨w.heap.size,0,none⟩ (.int .i64 (k:Nat))).setCell ⟨w.heap.size,1,none⟩ (.iface tl ul)).setCell ⟨w.heap.size,2,none⟩ (.iface tr ur))) :=
     (((((jo.2.2.trans x1).trans x2.il).trans x3).setCell (p:=⟨w.heap.size,0,none⟩) (.inr (Nat.le_refl _)) _).setCell (p:=⟨w.heap.size,1,none⟩) (.inr (Nat.le_refl _)) _).setCell (p:=⟨w.heap.size,2,none⟩) (.inr (Nat.le_refl _)) _
    have Q0:=hid q0;have Q1:=hid q1;have Q2:=hid q2;clear q0 q1 q2 hW;go_wp2_with fail;exact bodyPost_ret (v:=.agg #[.int .i64 (k:Nat),.iface tl ul,.iface tr ur]) (by simp[results,results205,go_sem,Q0.out,Q1.out,Q2.out]) rfl (fm aU.out ⟨tl,ul,tr,ur,ct1,rfl,Kx,HV,HV3⟩ HR HX)
def eJ(lo hi:Nat)(w w':Wd):Prop:=∀k,lo<=k->k<hi->¬ nV w.heap[k]?->w'.heap[k]?=w.heap[k]?
theorem eJ.refl(lo hi:Nat)(w:Wd):eJ lo hi w w:=fun _ _ _ _=>rfl
theorem Ext.Ft(h:Ext b w w')(hh:hi<=w.heap.size)(hb:b<lo∨hi<=b):eJ lo hi w w' :=
 fun k h1 h2 hn=>h.block k (by omega) (by omega) (fun _=>hn)
abbrev aD(ct:Int × Int):Int × Int:=(RowKit.wrap64 (ct.1+1),ct.2)
abbrev aL(ct:Int × Int):Int × Int:=(ct.1,RowKit.wrap64 (ct.2+1))
def nw(T:Int × Int->Nat->Nat->Wd->Value->τ->Int × Int->Prop)(ct:Int × Int)(lo hi:Nat)(w:Wd)(v:Value)(xs:List τ)(bh:Int × Int):Prop :=
 ∃(vs:List Value) (f:Nat->Int × Int),w.ownsRow lo 234 1 v xs.length vs/\(∀g,v.ownBlock=some g->g<hi)/\(∀(i:Nat) (u:Value) (x:τ),vs[i]?=some u->xs[i]?=some x->T (f i) lo hi w u x (f (i+1)))/\f 0=ct/\f xs.length=bh
structure kt(A:eW)(Rp:yQ A) where
 T:Int × Int->Nat->Nat->Wd->Value->A.T->Int × Int->Prop
 mono:∀{ct bh:Int × Int} {lo hi Bd nZ:Nat} {w w':Wd} {v:Value} {x:A.T},T ct lo hi w v x bh->Bd<=lo->hi<=nZ->eJ lo hi w w'->T ct Bd nZ w' v x bh
 iface:∀{ct bh:Int × Int} {lo hi:Nat} {w:Wd} {v:Value} {x:A.T},T ct lo hi w v x bh->∃t u,v=.iface t u
 assign:∀(ct:Int × Int) (lo hi:Nat) (w:Wd) (k:Nat) (v:Value) (x:A.S) (bh:Int × Int),k<8->Rp.S (aD ct) v x bh->T ct lo hi w (.iface 279 (.agg #[.int .i64 ct.1,.int .i64 (k:Nat),v])) (A.assign k x) bh
 read:∀(ct:Int × Int) (lo hi:Nat) (w:Wd) (k:Nat),k<8->T ct lo hi w (.iface 283 (.agg #[.int .i64 ct.1,.int .i64 (k:Nat)])) (A.read k) (aD ct)
 assert:∀(ct:Int × Int) (lo hi:Nat) (w:Wd) (k:Nat) (v:Value) (x:A.S) (ct1:Int × Int) (u:Value) (y:A.S) (ct2:Int × Int),k<6->Rp.S (aL (aD ct)) v x ct1->Rp.S ct1 u y ct2->T ct lo hi w (.iface 287 (.agg #[.int .i64 ct.1,.int .i64 ct.2,.int .i64 (k:Nat),v,u])) (A.assert k x y) ct2
 ite:∀(ct:Int × Int) (lo hi:Nat) (w:Wd) (k:Nat) (v:Value) (x:A.S) (ct1:Int × Int) (u:Value) (y:A.S) (ct2:Int × Int) (bv:Value) (xs:List A.T) (mz:Int × Int),k<6->Rp.S (aD ct) v x ct1->Rp.S ct1 u y ct2->nw T ct2 lo hi w bv xs mz ->
  T ct lo hi w (.iface 290 (.agg #[.int .i64 ct.1,.int .i64 (k:Nat),v,u,bv,.slice none 0 0,.bool false])) (A.ite k x y xs none) mz
 iteElse:∀(ct:Int × Int) (lo hi:Nat) (w:Wd) (k:Nat) (v:Value) (x:A.S) (ct1:Int × Int) (u:Value) (y:A.S) (ct2:Int × Int) (bv:Value) (xs:List A.T) (mz:Int × Int) (cv:Value) (ys:List A.T) (sM:Int × Int),k<6->Rp.S (aD ct) v x ct1->Rp.S ct1 u y ct2->nw T ct2 lo hi w bv xs mz->nw T mz lo hi w cv ys sM ->
  T ct lo hi w (.iface 290 (.agg #[.int .i64 ct.1,.int .i64 (k:Nat),v,u,bv,cv,.bool true])) (A.ite k x y xs (some ys)) sM
 loop:∀(ct:Int × Int) (lo hi:Nat) (w:Wd) (k:Nat) (v:Value) (x:A.S) (ct1:Int × Int) (u:Value) (y:A.S) (ct2:Int × Int) (bv:Value) (xs:List A.T) (mz:Int × Int),k<6->Rp.S (aD ct) v x ct1->Rp.S ct1 u y ct2->nw T ct2 lo hi w bv xs mz ->
  T ct lo hi w (.iface 293 (.agg #[.int .i64 ct.1,.int .i64 (k:Nat),v,u,bv])) (A.loop k x y xs) mz
theorem AS(h:w.ownsRow lo e 1 v n vs)(hl:Bd<=lo)(hg:∀g,v.ownBlock=some g->g<hi)(hs:eJ lo hi w w')(he:e≠226:=by decide):w'.ownsRow Bd e 1 v n vs:=by
 obtain⟨h1,h2⟩:=h;refine⟨h1,?_⟩
 rcases h2 with h2 | ⟨g,cap,cur,rfl,hb,hh,r⟩
 ·exact .inl h2
 ·exact .inr ⟨g,cap,cur,rfl,Nat.le_trans hl hb,by rw[hs g hb (hg g rfl) (kH hh he)];exact hh,r⟩
theorem nw.mono{Rp:yQ A}(Rt:kt A Rp){nZ:Nat}{xs:List A.T}(h:nw Rt.T ct lo hi w v xs bh)(hl:Bd<=lo)(hh:hi<=nZ)(hs:eJ lo hi w w'):nw Rt.T ct Bd nZ w' v xs bh:=by obtain⟨vs,f,h1,h2,h3,h4⟩:=h;exact⟨vs,f,AS h1 hl h2 hs,fun g hg=>Nat.lt_of_lt_of_le (h2 g hg) hh,fun i u x hu hx=>Rt.mono (h3 i u x hu hx) hl hh hs,h4⟩
theorem Ext.grown{row:Option Nat}(h:Ext b a w)(hg:w.grownBy w' row)(hr:∀k,row=some k->a.heap.size<=k):Ext b a w' :=
 ⟨hg.os.trans h.os,hg.tape.trans h.tape,hg.output.trans h.output,Nat.le_trans h.size hg.size,fun k hk hb hn=>(hg.block k (Nat.lt_of_lt_of_le hk h.size) (fun e=>by have:=hr k e.symm;omega)).trans (h.block k hk hb hn)⟩
theorem xP:(prog.info? 234).map (fun i=>(i.zero,i.size,i.bytes))=some (some .nilIface,1,16):=by kernel_rfl
def yr(T:Int × Int->Nat->Nat->Wd->Value->τ->Int × Int->Prop)(ct:Int × Int)(base:Nat)(w:Wd)(t:Value)(vs:List Value)(xs:List τ)(bh:Int × Int):Prop :=
 ∃f:Nat->Int × Int,(∀(i:Nat) (u:Value) (x:τ),vs[i]?=some u->xs[i]?=some x->∃lo hi,base<=lo/\hi<=w.heap.size/\(∀g,t.ownBlock=some g->g<lo∨hi<=g)/\T (f i) lo hi w u x (f (i+1)))/\f 0=ct/\f xs.length=bh
def qO{Rp:yQ A}(Rt:kt A Rp)(f:Nat)(b:Nat)(s:ByteArray)(m1 m2 o n:Nat)(st:Sp.Bs->Sp.R A.T):Prop :=
 ∀l ct w,l.length<n->Rd b s m1 m2 l o ct w->Env b m1 m2 w->Calls prog f #[.pointer (some ⟨b,0,none⟩)] w (lT (fun ct w' v x bh=>Rt.T ct w.heap.size w'.heap.size w' v x bh) b s m1 m2 o ct w (st l))
theorem Es{st:Sp.Bs->Sp.R A.T}{xs:List A.T}(h:¬ aC l=2):cZ A st m xs l=.ok (xs,l):=by
 cases m with
 | zero=>rfl
 | succ m=>unfold cZ;rw[if_neg h]
theorem BG(h:w.ownsRow base e 1 v n vs)(x:Ext b w w')(hb:b<base)(he:e≠226:=by decide):w'.ownsRow base e 1 v n vs:=by
 obtain⟨h1,h2⟩:=h;refine⟨h1,?_⟩
 rcases h2 with h2 | ⟨g,cap,cur,rfl,hg,hh,r⟩
 ·exact .inl h2
 ·exact .inr ⟨g,cap,cur,rfl,hg,x.bF hh (by omega) (fj he),r⟩
theorem mS(h:w.ownsRow base e 1 v n vs):∀g,v.ownBlock=some g->base<=g/\g<w.heap.size:=by
 intro g hg
 rcases h.2 with⟨rfl,_⟩ | ⟨g',cap,cur,rfl,hb,hh,_⟩
 ·simp[Value.ownBlock]at hg
 ·simp[Value.ownBlock]at hg
  subst hg;exact⟨hb,ah hh⟩
theorem SI(h:w.ownsRow base e 1 v n vs)(he:e≠226)(hk:v.ownBlock=some k):¬ nV w.heap[k]?:=by
 rcases h.2 with⟨rfl,_⟩ | ⟨g',cap,cur,rfl,hb,hh,_⟩
 ·simp[Value.ownBlock]at hk
 ·simp[Value.ownBlock]at hk
  subst hk;exact kH hh he
theorem Jc{Rp:yQ A}(Rt:kt A Rp){t:Value}{xs:List A.T}(h:w.ownsRow base 234 1 t xs.length vs)(he:yr Rt.T ct base w t vs xs bh):nw Rt.T ct base w.heap.size w t xs bh:=by obtain⟨f,he,h0,h1⟩:=he;refine⟨vs,f,h,fun g hg=>(mS h g hg).2,fun i u x hu hx=>?_,h0,h1⟩;obtain⟨lo,hi,h1,h2,_,h4⟩:=he i u x hu hx;exact Rt.mono h4 h1 h2 (eJ.refl _ _ _)
theorem E9{Rp:yQ A}(Rt:kt A Rp){t:Value}{xs:List A.T}{x:A.T}
  (ho:wr.ownsRow base 234 1 t xs.length vs) (he:yr Rt.T ct base wr t vs xs ct1) (hb:b<base) (NN:base<=wr.heap.size) (x1:Ext b wr w1) (hv:Rt.T ct1 wr.heap.size w1.heap.size w1 u x ct2) (hg:w1.grownBy w2 t.ownBlock)
  (zl:v'.ownBlock=t.ownBlock∨v'.ownBlock=some (w1.heap.size+1)):yr Rt.T ct base w2 v' (vs ++ [u]) (xs ++ [x]) ct2:=by
 have hlen:vs.length=xs.length:=by simpa using ho.1
 have iv:=x1.size;have fM:=hg.size;obtain⟨f,he,h0,hf⟩:=he;refine⟨fun i=>if i<=xs.length then f i else ct2,?_,by simp[h0],by simp;omega⟩;intro i u' x' hu hx;show ∃lo hi,base<=lo/\hi<=w2.heap.size/\(∀g,v'.ownBlock=some g->g<lo∨hi<=g)/\Rt.T (if i<=xs.length then f i else ct2) lo hi w2 u' x' (if i+1<=xs.length then f (i+1) else ct2);by_cases hi:i<vs.length
 ·rw[List.getElem?_append_left hi]at hu
  rw[List.getElem?_append_left (by omega)]at hx;obtain⟨lo,nZ,h1,h2,h3,h4⟩:=he i u' x' hu hx;rw[if_pos (by omega),if_pos (by omega)];refine⟨lo,nZ,h1,by omega,fun g rK=>?_,Rt.mono h4 (Nat.le_refl _) (Nat.le_refl _) ?_⟩
  ·rcases zl with zl | zl
   ·exact h3 g (by rw[<-zl];exact rK)
   ·rw[zl]at rK;cases rK;exact .inr (by omega)
  ·intro k TT zr hn
   rw[hg.block k (by omega) (fun e=>by rcases h3 k e.symm with h | h<;>omega)];exact x1.block k (by omega) (by omega) (fun _=>hn)
 ·have e:i=vs.length:=by
   have:=(List.getElem?_eq_some_iff.1 hu).1;simp at this;omega
  subst e;rw[List.getElem?_append_right (Nat.le_refl _)]at hu;rw[hlen,List.getElem?_append_right (Nat.le_refl _)]at hx;simp at hu hx;subst hu hx;rw[if_pos (by omega),if_neg (by omega),hlen,hf];refine⟨wr.heap.size,w1.heap.size,NN,fM,fun g rK=>?_,Rt.mono hv (Nat.le_refl _) (Nat.le_refl _) ?_⟩
  ·rcases zl with zl | zl
   ·exact .inl (mS ho g (by rw[<-zl];exact rK)).2
   ·rw[zl]at rK;cases rK;exact .inr (by omega)
  ·intro k TT zr _
   exact hg.block k zr (fun e=>by have:=(mS ho k e.symm).2;omega)
theorem gl{Rp:yQ A}(Rt:kt A Rp)(b:Nat)(s:ByteArray)(m1 m2 o n:Nat)(st:Sp.Bs->Sp.R A.T)(cW:Hid (∀l x l1,st l=.ok (x,l1)->l1.length<l.length))
  (gI:qO Rt 122 b s m1 m2 o n st) (l:Sp.Bs) (ct:Int × Int) (w:Wd) (hl:l.length<n) (h:Rd b s m1 m2 l o ct w) (hE:Env b m1 m2 w) :
  Calls prog 89 #[.pointer (some ⟨b,0,none⟩)] w (lT (fun ct w' v xs bh=>nw Rt.T ct w.heap.size w'.heap.size w' v xs bh) b s m1 m2 o ct w (cZ A st (l.length+1) [] l)):=by
 obtain⟨i0,hi,Hq,gT,ek⟩:=info_parts xP;have dj:=h.lt;have aat:l.length<=400:=by have:=h.len;have:=h.sz;omega
 go_enter func89,ntmps89;go_wp2_with fail
 go_loopw [3] (fun t wr=>∃(xs:List A.T) (vs:List Value) (l':Sp.Bs) (m:Nat) (bh:Int × Int),Hid (wr.ownsRow w.heap.size 234 1 t xs.length vs/\yr Rt.T ct w.heap.size wr t vs xs bh)/\Hid (l'.length<m/\xs.length+l'.length<=l.length/\cZ A st (l.length+1) [] l=cZ A st m xs l')/\Hid (Rd b s m1 m2 l' o bh wr/\Env b m1 m2 wr/\Ext b w wr)) (fun _ wr=>gR b s wr)
 case atStart=>exact⟨[],[],l,l.length+1,ct,⟨World.ownsRow_nil _ _ _ _,fun _=>ct,fun i u x hu=>by simp at hu,rfl,rfl⟩,⟨Nat.lt_succ_self _,by simp,rfl⟩,h,hE,Ext.refl _ _⟩
 case round =>
  obtain⟨xs,vs,l',m,bh,UA,kg,dw⟩:=hrel;have c2:=dw.1.c2;by_cases hk:aC l'=2
  ·have ZM:wr.cell? ⟨b,2,none⟩=some (.int .i64 2):=by rw[c2,hk];rfl
   have HK:=hid hk;clear c2 hk;go_wp2_with fail;have Wc:l'.length<n:=by have:=kg.2.1;omega
   refine(gI l' bh wr Wc dw.1 dw.2.1).mono ?_;intro e w1 hp;cases hr:st l' with
   | error er =>
    rw[hr]at hp;obtain⟨N,rfl,hf⟩:=hp;have aU:cZ A st (l.length+1) [] l=.error er:=by
     rw[kg.2.2];cases m with
     | zero=>exact absurd kg.1 (by omega)
     | succ m=>unfold cZ;rw[if_pos HK.out,hr]
    exact⟨rfl,bS aU (bB.ahead dw.2.2 ⟨N,rfl,hf⟩)⟩
   | ok xl =>
    obtain⟨x,l1⟩:=xl;rw[hr]at hp;obtain⟨v,rfl,ct1,hv,h1,x1⟩:=hp;obtain⟨tv,uv,rfl⟩:=Rt.iface hv;have HV:=hid hv;have HR:=hid hr;have jG:Hid (w1.ownsRow w.heap.size 234 1 u3 xs.length vs) :=
     BG UA.1 x1 dj
    clear hv hr;go_wp2_with (first
     | (at_builtin;refine wpList_append_own_at _ rfl _ _ 82 rfl w.heap.size 234 i0 .nilIface 1 16 underlying82 hi Hq gT ek rfl (by decide) _ _ _ rfl (jG.alloc _) ⟨w1.heap.size,0,none⟩ 1 1 [.iface tv uv] rfl rfl (cell_one_new _ _ _) ?q1 ?q2 ?q3 ?q4 ?_))
    case q1=>intro u hu;simp at hu;subst hu;rfl
    case q2=>have:=kg.2.1;unfold maxLen;omega
    case q3=>have:=kg.2.1;omega
    case q4=>have:=dw.2.2.size;have:=x1.size;simp;omega
    intro v' w2 gj dX WM Vr;have Bp:=ot dX;have eN:∀k,Value.ownBlock u3=some k->w.heap.size<=k:=fun k hk=>(mS UA.1 k hk).1
    have NN:w.heap.size<=wr.heap.size:=dw.2.2.size;have Hh:yr Rt.T ct w.heap.size w2 v' (vs ++ [.iface tv uv]) (xs ++ [x]) ct1 :=
     E9 Rt UA.1 UA.2 dj NN x1 HV.out Bp (by simpa using Vr)
    have my:Ext b w w2:=(dw.2.2.trans x1).grown Bp eN;have WL:Rd b s m1 m2 l1 o ct1 w2:=h1.bF (Bp.block b h1.lt (fun e=>by have:=eN b e.symm;omega)) (fun k _ hk eI=>Bp.block k hk (fun e=>SI jG.out (by decide) e.symm eI));have hd:=cW.out _ _ _ HR.out;have cK:gR b s w2<gR b s wr:=by rw[WL.rest,dw.1.rest];exact hd
    have A1:Hid (w2.ownsRow w.heap.size 234 1 v' (xs ++ [x]).length (vs ++ [.iface tv uv])/\yr Rt.T ct w.heap.size w2 v' (vs ++ [.iface tv uv]) (xs ++ [x]) ct1):=⟨by simpa using gj,Hh⟩;have A2:Hid (l1.length<m - 1/\(xs ++ [x]).length+l1.length<=l.length/\cZ A st (l.length+1) [] l=cZ A st (m - 1) (xs ++ [x]) l1):=by
     have h1:=kg.1;have h2:=kg.2.1;refine⟨by omega,by simp;omega,?_⟩;rw[kg.2.2];cases m with
     | zero=>omega
     | succ m =>
      conv=>lhs;unfold cZ
      rw[if_pos HK.out,HR.out];rfl
    have A3:Hid (Rd b s m1 m2 l1 o ct1 w2/\Env b m1 m2 w2/\Ext b w w2):=⟨WL,hE.ext my,my⟩;clear gj dX WM Vr Bp Hh;go_wp2_with fail;exact⟨⟨_,_,_,_,_,A1,A2,A3⟩,cK⟩
  ·have n2:¬ (((aC l':Nat):Int)=2):=by omega
   have b2:(((aC l':Nat):Int) == 2)=false:=by simpa using n2
   have aU:Hid (cZ A st (l.length+1) [] l=.ok (xs,l')):=by unfold Hid;rw[kg.2.2,Es hk]
   have gU:Hid (nw Rt.T ct w.heap.size wr.heap.size wr u3 xs bh):=Jc Rt UA.1 UA.2;clear hk;generalize aC l'=kd at *;go_wp2_with fail;go_ret;exact fm aU.out gU dw.1 dw.2.2
def qk{Rp:yQ A}(Rt:kt A Rp)(b:Nat)(s:ByteArray)(m1 m2 o:Nat)(ct:Int × Int)(w:Wd)(r:Sp.R A.T):Ending->Wd->Prop :=
 lT (fun ct w' v x bh=>Rt.T ct w.heap.size w'.heap.size w' v x bh) b s m1 m2 o ct w r
theorem uZ(h:aR l=some k):k<8:=by obtain⟨c,_,_,h1,h2,rfl⟩:=dK h;omega
theorem rF(h:Sp.tok l=t):Sp.take t l=.ok (Sp.next l):=by unfold Sp.take;rw[if_pos h]
theorem uH(h:¬ Sp.tok l=t):Sp.take t l=.error (2,l.length):=by unfold Sp.take;rw[if_neg h];rfl
theorem sZ(h:aR l=none):dE l=.error (2,l.length):=by unfold dE;rw[h];rfl
theorem tD(h:aR l=some k):dE l=.ok (k,Sp.next l):=by unfold dE;rw[h]
theorem ng{Rp:yQ A}(Rt:kt A Rp)(b:Nat)(s:ByteArray)(m1 m2 o:Nat)(ho:o<=12)(l:Sp.Bs)(ct:Int × Int)(w:Wd)(h:Rd b s m1 m2 l o (aD ct) w)(hE:Env b m1 m2 w) :
  Calls prog 168 #[.pointer (some ⟨b,0,none⟩),.int .i64 ct.1] w (qk Rt b s m1 m2 o ct w (cy A o l)):=by
 cases hn:aR l with
 | none =>
  have aU:Hid (cy A o l=.error (2,l.length)):=by unfold Hid cy;rw[sZ hn]
  go_enter func168,ntmps168;go_wp2_with fail;refine(vf h hn).mono ?_;rintro e w1⟨N,rfl,hf⟩;exact⟨rfl,bS aU.out ⟨N,rfl,hf⟩⟩
 | some k =>
  have hk:=uZ hn;have e1:=tD hn;by_cases ht:Sp.tok (Sp.next l)=[61]
  ·have e2:=rF ht
   cases hr:Sp.pS A o (Sp.next (Sp.next l)) with
   | error er =>
    have aU:Hid (cy A o l=.error er):=by unfold Hid cy;rw[e1];simp only;rw[e2];simp only;rw[hr]
    clear e1 e2;go_enter func168,ntmps168;go_wp2_with fail;refine(nt h hn).mono ?_;rintro e w1⟨rfl,h1,x1⟩;go_wp2_with fail;refine(dx h1 [61] ht).mono ?_;rintro e w2⟨rfl,h2,x2⟩;go_wp2_with fail;refine(gv Rp b s m1 m2 o ho _ (aD ct) w2 h2 ((hE.ext x1).ext x2)).mono ?_;intro e w3 hp;rw[hr]at hp;obtain⟨N,rfl,hf⟩:=hp;exact⟨rfl,bS aU.out (bB.ahead (x1.trans x2) ⟨N,rfl,hf⟩)⟩
   | ok xl =>
    obtain⟨x,l3⟩:=xl;by_cases hs:Sp.tok l3=[59]
    ·have aU:Hid (cy A o l=.ok (A.assign k x,Sp.next l3)):=by unfold Hid cy;rw[e1];simp only;rw[e2];simp only;rw[hr];simp only;rw[rF hs]
     clear e1 e2;go_enter func168,ntmps168;go_wp2_with fail;refine(nt h hn).mono ?_;rintro e w1⟨rfl,h1,x1⟩;go_wp2_with fail;refine(dx h1 [61] ht).mono ?_;rintro e w2⟨rfl,h2,x2⟩;go_wp2_with fail;refine(gv Rp b s m1 m2 o ho _ (aD ct) w2 h2 ((hE.ext x1).ext x2)).mono ?_;intro e w3 hp;rw[hr]at hp;obtain⟨v,rfl,ct1,hv,h3,x3⟩:=hp;obtain⟨tv,uv,rfl⟩:=Rp.iface _ _ _ _ hv;have HV:=hid hv;clear hv hr;go_wp2_with fail;refine(dx h3 [59] hs).mono ?_;rintro e w4⟨rfl,h4,x4⟩;go_wp2_with fail;go_ret;exact fm aU.out (Rt.assign ct _ _ _ k _ _ ct1 hk HV.out) h4 (((x1.trans x2).trans x3).trans x4)
    ·have aU:Hid (cy A o l=.error (2,l3.length)):=by unfold Hid cy;rw[e1];simp only;rw[e2];simp only;rw[hr];simp only;rw[uH hs]
     clear e1 e2;go_enter func168,ntmps168;go_wp2_with fail;refine(nt h hn).mono ?_;rintro e w1⟨rfl,h1,x1⟩;go_wp2_with fail;refine(dx h1 [61] ht).mono ?_;rintro e w2⟨rfl,h2,x2⟩;go_wp2_with fail;refine(gv Rp b s m1 m2 o ho _ (aD ct) w2 h2 ((hE.ext x1).ext x2)).mono ?_;intro e w3 hp;rw[hr]at hp;obtain⟨v,rfl,ct1,hv,h3,x3⟩:=hp;clear hv hr;go_wp2_with fail;refine(lU h3 [59] hs).mono ?_;rintro e w4⟨N,rfl,hf⟩;exact⟨rfl,bS aU.out (bB.ahead ((x1.trans x2).trans x3) ⟨N,rfl,hf⟩)⟩
  ·have aU:Hid (cy A o l=.error (2,(Sp.next l).length)):=by unfold Hid cy;rw[e1];simp only;rw[uH ht]
   clear e1;go_enter func168,ntmps168;go_wp2_with fail;refine(nt h hn).mono ?_;rintro e w1⟨rfl,h1,x1⟩;go_wp2_with fail;refine(lU h1 [61] ht).mono ?_;rintro e w2⟨N,rfl,hf⟩;exact⟨rfl,bS aU.out (bB.ahead x1 ⟨N,rfl,hf⟩)⟩
theorem D1{Rp:yQ A}(Rt:kt A Rp)(b:Nat)(s:ByteArray)(m1 m2 o:Nat)(l:Sp.Bs)(ct:Int × Int)(w:Wd)(h:Rd b s m1 m2 l o (aD ct) w)(ht:Sp.tok l=sP) :
  Calls prog 164 #[.pointer (some ⟨b,0,none⟩),.int .i64 ct.1] w (qk Rt b s m1 m2 o ct w (gx A l)):=by
 cases hn:aR (Sp.next l) with
 | none =>
  have aU:Hid (gx A l=.error (2,(Sp.next l).length)):=by unfold Hid gx;rw[sZ hn]
  go_enter func164,ntmps164;go_wp2_with fail;refine(dx h [114,101,97,100] ht).mono ?_;rintro e w1⟨rfl,h1,x1⟩;go_wp2_with fail;refine(vf h1 hn).mono ?_;rintro e w2⟨N,rfl,hf⟩;exact⟨rfl,bS aU.out (bB.ahead x1 ⟨N,rfl,hf⟩)⟩
 | some k =>
  have hk:=uZ hn;have e1:=tD hn;by_cases hs:Sp.tok (Sp.next (Sp.next l))=[59]
  ·have aU:Hid (gx A l=.ok (A.read k,Sp.next (Sp.next (Sp.next l)))):=by unfold Hid gx;rw[e1];simp only;rw[rF hs]
   clear e1;go_enter func164,ntmps164;go_wp2_with fail;refine(dx h [114,101,97,100] ht).mono ?_;rintro e w1⟨rfl,h1,x1⟩;go_wp2_with fail;refine(nt h1 hn).mono ?_;rintro e w2⟨rfl,h2,x2⟩;go_wp2_with fail;refine(dx h2 [59] hs).mono ?_;rintro e w3⟨rfl,h3,x3⟩;go_wp2_with fail;go_ret;exact fm aU.out (Rt.read ct _ _ _ k hk) h3 ((x1.trans x2).trans x3)
  ·have aU:Hid (gx A l=.error (2,(Sp.next (Sp.next l)).length)):=by unfold Hid gx;rw[e1];simp only;rw[uH hs]
   clear e1;go_enter func164,ntmps164;go_wp2_with fail;refine(dx h [114,101,97,100] ht).mono ?_;rintro e w1⟨rfl,h1,x1⟩;go_wp2_with fail;refine(nt h1 hn).mono ?_;rintro e w2⟨rfl,h2,x2⟩;go_wp2_with fail;refine(lU h2 [59] hs).mono ?_;rintro e w3⟨N,rfl,hf⟩;exact⟨rfl,bS aU.out (bB.ahead (x1.trans x2) ⟨N,rfl,hf⟩)⟩
theorem mY{Rp:yQ A}(Rt:kt A Rp)(b:Nat)(s:ByteArray)(m1 m2 o:Nat)(ho:o<=12)(l:Sp.Bs)(ct:Int × Int)(w:Wd)(h:Rd b s m1 m2 l o (aD ct) w)(hE:Env b m1 m2 w)(ht:Sp.tok l=kU) :
  Calls prog 165 #[.pointer (some ⟨b,0,none⟩),.int .i64 ct.1] w (qk Rt b s m1 m2 o ct w (cY A o l)):=by
 have dj:=h.lt;cases hr:bn A o (Sp.next l) with
 | error er =>
  have aU:Hid (cY A o l=.error er):=by unfold Hid cY;rw[hr]
  go_enter func165,ntmps165;go_wp2_with fail;refine(dx h [97,115,115,101,114,116] ht).mono ?_;rintro e w1⟨rfl,h1,x1⟩;go_wp2_with fail;refine(fN h1).mono ?_;rintro e Wz⟨rfl,Ww,Re⟩;go_wp2_with fail;refine(gh Rp b s m1 m2 o ho _ (aL (aD ct)) Wz Ww ((hE.ext x1).ext Re)).mono ?_;intro e w2 hp;rw[hr]at hp;obtain⟨N,rfl,hf⟩:=hp;exact⟨rfl,bS aU.out (bB.ahead (x1.trans Re) ⟨N,rfl,hf⟩)⟩
 | ok cl =>
  obtain⟨⟨k,x,y⟩,l1⟩:=cl;by_cases hs:Sp.tok l1=[59]
  ·have aU:Hid (cY A o l=.ok (A.assert k x y,Sp.next l1)):=by unfold Hid cY;rw[hr];simp only;rw[rF hs]
   go_enter func165,ntmps165;go_wp2_with fail;refine(dx h [97,115,115,101,114,116] ht).mono ?_;rintro e w1⟨rfl,h1,x1⟩;go_wp2_with fail;refine(fN h1).mono ?_;rintro e Wz⟨rfl,Ww,Re⟩;go_wp2_with fail;refine(gh Rp b s m1 m2 o ho _ (aL (aD ct)) Wz Ww ((hE.ext x1).ext Re)).mono ?_;intro e w2 hp;rw[hr]at hp;obtain⟨v,rfl,ct2,⟨tl,ul,tr,ur,ct1,rfl,hk,hl,yh⟩,h2,x2⟩:=hp;have HL:=hid hl;have qK:=hid yh;have Kx:k<6:=hk;clear hr hl yh hk;have H2:Hid (Rd b s m1 m2 l1 o ct2 (w2.alloc (.cells #[.int .i64 (k:Nat),.iface tl ul,.iface tr ur] 285))):=h2.ext _;go_wp2_with fail;refine(dx H2.out [59] hs).mono ?_;rintro e w3⟨rfl,h3,x3⟩;have eI:=lI x3 h2.lt;have k0:=cell_of eI 0 (v:=.int .i64 (k:Nat)) rfl;have k1:=cell_of eI 1 (v:=.iface tl ul) rfl;have k2:=cell_of eI 2 (v:=.iface tr ur) rfl;have X:Hid (Ext b w w3):=(((x1.trans Re).trans x2).alloc _).trans x3;clear eI x3;go_wp2_with fail;go_ret;exact fm aU.out (Rt.assert ct _ _ _ k _ _ ct1 _ _ ct2 Kx HL.out qK.out) h3 X.out
  ·have aU:Hid (cY A o l=.error (2,l1.length)):=by unfold Hid cY;rw[hr];simp only;rw[uH hs]
   go_enter func165,ntmps165;go_wp2_with fail;refine(dx h [97,115,115,101,114,116] ht).mono ?_;rintro e w1⟨rfl,h1,x1⟩;go_wp2_with fail;refine(fN h1).mono ?_;rintro e Wz⟨rfl,Ww,Re⟩;go_wp2_with fail;refine(gh Rp b s m1 m2 o ho _ (aL (aD ct)) Wz Ww ((hE.ext x1).ext Re)).mono ?_;intro e w2 hp;rw[hr]at hp;obtain⟨v,rfl,ct2,⟨tl,ul,tr,ur,ct1,rfl,hk,hl,yh⟩,h2,x2⟩:=hp;clear hr hl yh hk;have H2:Hid (Rd b s m1 m2 l1 o ct2 (w2.alloc (.cells #[.int .i64 (k:Nat),.iface tl ul,.iface tr ur] 285))):=h2.ext _;go_wp2_with fail;refine(lU H2.out [59] hs).mono ?_;rintro e w3⟨N,rfl,hf⟩;exact⟨rfl,bS aU.out (bB.ahead (((x1.trans Re).trans x2).alloc _) ⟨N,rfl,hf⟩)⟩
def rG{Rp:yQ A}(Rt:kt A Rp)(b:Nat)(s:ByteArray)(m1 m2 o n:Nat)(aV:Sp.Bs->Sp.R (List A.T)):Prop :=
 ∀l ct w,l.length<n->Rd b s m1 m2 l o ct w->Env b m1 m2 w->Calls prog 206 #[.pointer (some ⟨b,0,none⟩)] w (lT (fun ct w' v xs bh=>nw Rt.T ct w.heap.size w'.heap.size w' v xs bh) b s m1 m2 o ct w (aV l))
theorem Cj{Rp:yQ A}(Rt:kt A Rp)(b:Nat)(s:ByteArray)(m1 m2 o n:Nat)(ho:o<=12)(st:Sp.Bs->Sp.R A.T)(cW:∀l x l1,st l=.ok (x,l1)->l1.length<l.length)
  (gI:o<12->qO Rt 122 b s m1 m2 (o+1) n st):rG Rt b s m1 m2 o (n+1) (aS A st o):=by
 intro l ct w hl h hE;have dj:=h.lt;by_cases ht:Sp.tok l=[123]
 ·by_cases rR:o=12
  ·subst rR
   have hr:Hid (aS A st 12 l=.error (3,l.length)):=by unfold Hid aS Sp.enter;rw[if_pos ht,if_pos rfl];rfl
   go_enter func206,ntmps206;go_wp2_with fail;refine(qy h [123] ht).mono ?_;rintro e w1⟨N,rfl,hf⟩;exact⟨rfl,bS hr.out ⟨N,rfl,hf⟩⟩
  ·have N5:Sp.enter [123] o l=.ok (Sp.next l):=by unfold Sp.enter;rw[if_pos ht,if_neg rR]
   have Tf:=aI ht (by simp);have hs:=gI (by omega);cases hr:cZ A st ((Sp.next l).length+1) [] (Sp.next l) with
   | error er =>
    have aU:Hid (aS A st o l=.error er):=by unfold Hid aS;rw[N5];simp only;rw[hr]
    go_enter func206,ntmps206;go_wp2_with fail;refine(iU h (by omega) [123] ht).mono ?_;rintro e w1⟨rfl,h1,x1⟩;go_wp2_with fail;refine(gl Rt b s m1 m2 (o+1) n st cW hs (Sp.next l) ct w1 (by omega) h1 (hE.ext x1)).mono ?_;intro e w2 hp;rw[hr]at hp;obtain⟨N,rfl,hf⟩:=hp;exact⟨rfl,bS aU.out (bB.ahead x1 ⟨N,rfl,hf⟩)⟩
   | ok xl =>
    obtain⟨xs,l2⟩:=xl;by_cases Bq:Sp.tok l2=[125]
    ·have aU:Hid (aS A st o l=.ok (xs,Sp.next l2)):=by unfold Hid aS;rw[N5];simp only;rw[hr];simp only;unfold Sp.take;rw[if_pos Bq]
     go_enter func206,ntmps206;go_wp2_with fail;refine(iU h (by omega) [123] ht).mono ?_;rintro e w1⟨rfl,h1,x1⟩;go_wp2_with fail;refine(gl Rt b s m1 m2 (o+1) n st cW hs (Sp.next l) ct w1 (by omega) h1 (hE.ext x1)).mono ?_;intro e w2 hp;rw[hr]at hp;obtain⟨v,rfl,ct1,hv,h2,x2⟩:=hp;have HV:=hid hv;clear hv hr;go_wp2_with fail;refine(dx h2 [125] Bq).mono ?_;rintro e w3⟨rfl,h3,x3⟩;have c4:w3.cell? ⟨b,4,none⟩=some (.int .i64 ((o:Int)+1)):=h3.c4;have f4:=h3.fz 4;have Bq:=uz h3 o (o:Int) rfl;have HS:=hid Bq;clear Bq;have HB:Hid (nw Rt.T ct w.heap.size (w3.setCell ⟨b,4,none⟩ (.int .i64 (o:Int))).heap.size (w3.setCell ⟨b,4,none⟩ (.int .i64 (o:Int))) v xs ct1) :=
      nw.mono Rt HV.out x1.size (by have:=x3.size;simp[World.setCell];omega) ((x3.trans HS.2).Ft (Nat.le_refl _) (.inl (by have:=x1.size;omega)))
     go_wp2_with fail;go_ret;exact fm aU.out HB HS.1 (((x1.trans x2).trans x3).trans HS.2)
    ·have aU:Hid (aS A st o l=.error (2,l2.length)):=by unfold Hid aS;rw[N5];simp only;rw[hr];simp only;unfold Sp.take;rw[if_neg Bq];rfl
     go_enter func206,ntmps206;go_wp2_with fail;refine(iU h (by omega) [123] ht).mono ?_;rintro e w1⟨rfl,h1,x1⟩;go_wp2_with fail;refine(gl Rt b s m1 m2 (o+1) n st cW hs (Sp.next l) ct w1 (by omega) h1 (hE.ext x1)).mono ?_;intro e w2 hp;rw[hr]at hp;obtain⟨v,rfl,ct1,hv,h2,x2⟩:=hp;clear hv hr;go_wp2_with fail;refine(lU h2 [125] Bq).mono ?_;rintro e w3⟨N,rfl,hf⟩;exact⟨rfl,bS aU.out (bB.ahead (x1.trans x2) ⟨N,rfl,hf⟩)⟩
 ·have hr:Hid (aS A st o l=.error (2,l.length)):=by
   unfold Hid aS Sp.enter;rw[if_neg ht];rfl
  go_enter func206,ntmps206;go_wp2_with fail;refine(yO h [123] ht).mono ?_;rintro e w1⟨N,rfl,hf⟩;exact⟨rfl,bS hr.out ⟨N,rfl,hf⟩⟩
theorem Rd.drew(h:Rd b s m1 m2 l o ct w):Rd b s m1 m2 l o ct w.drew:=h.bF rfl (fun _ _ _ _=>rfl)
theorem eU{T:Int × Int->Nat->Nat->Wd->Value->τ->Int × Int->Prop}{xs:List τ}(h:nw T ct lo hi w v xs bh):∃a n c,v=.slice a n c:=by
 obtain⟨vs,f,h1,_⟩:=h
 rcases h1.2 with⟨rfl,_⟩ | ⟨g,cap,cur,rfl,_⟩
 ·exact⟨none,0,0,rfl⟩
 ·exact⟨_,_,_,rfl⟩
theorem jU{Rp:yQ A}(Rt:kt A Rp)(b:Nat)(s:ByteArray)(m1 m2 o n:Nat)(ho:o<=12)(aV:Sp.Bs->Sp.R (List A.T))(gU:rG Rt b s m1 m2 o n aV)
  (l:Sp.Bs) (ct:Int × Int) (w:Wd) (hl:l.length<=n) (h:Rd b s m1 m2 l o (aD ct) w) (hE:Env b m1 m2 w) (ht:Sp.tok l=oG) (tN:∀c l1,bn A o (Sp.next l)=.ok (c,l1)->l1.length<l.length) :
  Calls prog 167 #[.pointer (some ⟨b,0,none⟩),.int .i64 ct.1] w (qk Rt b s m1 m2 o ct w (ef A aV o l)):=by
 have dj:=h.lt;cases hr:bn A o (Sp.next l) with
 | error er =>
  have aU:Hid (ef A aV o l=.error er):=by unfold Hid ef;rw[hr]
  go_enter func167,ntmps167;go_wp2_with fail;refine(dx h [119,104,105,108,101] ht).mono ?_;rintro e w1⟨rfl,h1,x1⟩;go_wp2_with fail;refine(gh Rp b s m1 m2 o ho _ (aD ct) w1 h1 (hE.ext x1)).mono ?_;intro e w2 hp;rw[hr]at hp;obtain⟨N,rfl,hf⟩:=hp;exact⟨rfl,bS aU.out (bB.ahead x1 ⟨N,rfl,hf⟩)⟩
 | ok cl =>
  obtain⟨⟨k,x,y⟩,l1⟩:=cl;have uT:=tN _ _ hr;cases hb:aV l1 with
  | error er =>
   have aU:Hid (ef A aV o l=.error er):=by unfold Hid ef;rw[hr];simp only;rw[hb]
   go_enter func167,ntmps167;go_wp2_with fail;refine(dx h [119,104,105,108,101] ht).mono ?_;rintro e w1⟨rfl,h1,x1⟩;go_wp2_with fail;refine(gh Rp b s m1 m2 o ho _ (aD ct) w1 h1 (hE.ext x1)).mono ?_;intro e w2 hp;rw[hr]at hp;obtain⟨v,rfl,ct2,⟨tl,ul,tr,ur,ct1,rfl,hk,Hx,yh⟩,h2,x2⟩:=hp;have H2:Hid (Rd b s m1 m2 l1 o ct2 (w2.alloc (.cells #[.int .i64 (k:Nat),.iface tl ul,.iface tr ur] 285)).drew):=(h2.ext _).drew;have HE:Hid (Env b m1 m2 (w2.alloc (.cells #[.int .i64 (k:Nat),.iface tl ul,.iface tr ur] 285)).drew):=((hE.ext x1).ext x2).ext ((Ext.refl b w2).alloc _).drew;have P1:=h2.lt;clear hr Hx yh hk tN;go_wp2_with fail;have hc:=gU l1 ct2 _ (by omega) H2.out HE.out;rw[hb]at hc
   go_region_dies
   all_goals
    refine hc.mono ?_;rintro e w3⟨N,rfl,hf⟩;exact⟨rfl,bS aU.out (bB.ahead ((x1.trans x2).alloc _).drew ⟨N,rfl,hf⟩)⟩
  | ok bl =>
   obtain⟨xs,l2⟩:=bl;have aU:Hid (ef A aV o l=.ok (A.loop k x y xs,l2)):=by unfold Hid ef;rw[hr];simp only;rw[hb]
   go_enter func167,ntmps167;go_wp2_with fail;refine(dx h [119,104,105,108,101] ht).mono ?_;rintro e w1⟨rfl,h1,x1⟩;go_wp2_with fail;refine(gh Rp b s m1 m2 o ho _ (aD ct) w1 h1 (hE.ext x1)).mono ?_;intro e w2 hp;rw[hr]at hp;obtain⟨v,rfl,ct2,⟨tl,ul,tr,ur,ct1,rfl,hk,Hx,yh⟩,h2,x2⟩:=hp;have HL:=hid Hx;have qK:=hid yh;have Kx:k<6:=hk;have H2:Hid (Rd b s m1 m2 l1 o ct2 (w2.alloc (.cells #[.int .i64 (k:Nat),.iface tl ul,.iface tr ur] 285)).drew):=(h2.ext _).drew;have HE:Hid (Env b m1 m2 (w2.alloc (.cells #[.int .i64 (k:Nat),.iface tl ul,.iface tr ur] 285)).drew):=((hE.ext x1).ext x2).ext ((Ext.refl b w2).alloc _).drew;have P1:=h2.lt;clear hr Hx yh hk tN;go_wp2_with fail;have hc:=gU l1 ct2 _ (by omega) H2.out HE.out;rw[hb]at hc
   go_region_with (go_at_call 206;go_must (refine hc.mono ?_);rintro e w3 ⟨vb,rfl,mz,Bc,h3,x3⟩;obtain⟨a3,n3,c3,rfl⟩:=eU Bc;have eI:=lI (c:=#[.int .i64 (k:Nat),.iface tl ul,.iface tr ur]) (t:=285) (f:=(0,0)) (w:=w2) (w':=w3) ⟨x3.os,x3.tape,x3.output,x3.size,x3.block⟩ P1;have k0:=cell_of eI 0 (v:=.int .i64 (k:Nat)) rfl;have k1:=cell_of eI 1 (v:=.iface tl ul) rfl;have k2:=cell_of eI 2 (v:=.iface tr ur) rfl)
   all_goals
    have HB:Hid (nw Rt.T ct2 w.heap.size w3.heap.size w3 (.slice a3 n3 c3) xs mz):=nw.mono Rt Bc (by have:=x1.size;have:=x2.size;show w.heap.size<=(w2.alloc _).heap.size;simp;omega) (Nat.le_refl _) (eJ.refl _ _ _);have X:Hid (Ext b w w3):=(((x1.trans x2).alloc _).drew).trans x3;clear Bc x3 hc k0 k1 k2 eI;go_wp2_with fail;go_ret;exact fm aU.out (Rt.loop ct _ _ _ k _ _ ct1 _ _ ct2 _ _ mz Kx HL.out qK.out HB.out) h3 X.out
theorem eJ.setCell(h:eJ lo hi w w'){p:Addr}(hp:p.block<lo∨hi<=p.block)(u:Value):eJ lo hi w (w'.setCell p u) :=
 fun k h1 h2 hn=>by rw[Below.heap_setCell _ _ _ _ (by omega)];exact h k h1 h2 hn
def jz(p:Int)(k:Nat)(x y bv cv:Value)(he:Bool):Array Value:=#[.int .i64 p,.int .i64 (k:Nat),x,y,bv,cv,.bool he]
theorem Pe(h:Bk w N (jz p k x y bv cv he) 290)(v:Value):(w.setCell ⟨N,4,none⟩ v).heap[N]?=some (.cells (jz p k x y v cv he) 290):=by rw[ai h 4 v];rfl
theorem Ps(h:Bk w N (jz p k x y bv cv he) 290)(v:Value):(w.setCell ⟨N,5,none⟩ v).heap[N]?=some (.cells (jz p k x y bv v he) 290):=by rw[ai h 5 v];rfl
theorem PR(h:Bk w N (jz p k x y bv cv he) 290)(xE:Bool):(w.setCell ⟨N,6,none⟩ (.bool xE)).heap[N]?=some (.cells (jz p k x y bv cv xE) 290):=by rw[ai h 6 (.bool xE)];rfl
theorem jA{Rp:yQ A}(Rt:kt A Rp)(b:Nat)(s:ByteArray)(m1 m2 o n:Nat)(ho:o<=12)(aV:Sp.Bs->Sp.R (List A.T))(gU:rG Rt b s m1 m2 o n aV)(Hl:∀l x l1,aV l=.ok (x,l1)->l1.length<=l.length)
  (l:Sp.Bs) (ct:Int × Int) (w:Wd) (hl:l.length<=n) (h:Rd b s m1 m2 l o (aD ct) w) (hE:Env b m1 m2 w) (ht:Sp.tok l=Qw) (tN:∀c l1,bn A o (Sp.next l)=.ok (c,l1)->l1.length<l.length) :
  Calls prog 166 #[.pointer (some ⟨b,0,none⟩),.int .i64 ct.1] w (qk Rt b s m1 m2 o ct w (qF A aV o l)):=by
 have dj:=h.lt;cases hr:bn A o (Sp.next l) with
 | error er =>
  have aU:Hid (qF A aV o l=.error er):=by unfold Hid qF;rw[hr]
  go_enter func166,ntmps166;go_wp2_with fail;refine(dx h [105,102] ht).mono ?_;rintro e w1⟨rfl,h1,x1⟩;go_wp2_with fail;refine(gh Rp b s m1 m2 o ho _ (aD ct) w1 h1 (hE.ext x1)).mono ?_;intro e w2 hp;rw[hr]at hp;obtain⟨N,rfl,hf⟩:=hp;exact⟨rfl,bS aU.out (bB.ahead x1 ⟨N,rfl,hf⟩)⟩
 | ok cl =>
  obtain⟨⟨k,x,y⟩,l1⟩:=cl;have uT:=tN _ _ hr;clear tN;go_enter func166,ntmps166;go_wp2_with fail;refine(dx h [105,102] ht).mono ?_;rintro e w1⟨rfl,h1,x1⟩;go_wp2_with fail;refine(gh Rp b s m1 m2 o ho _ (aD ct) w1 h1 (hE.ext x1)).mono ?_;intro e w2 hp;rw[hr]at hp;obtain⟨v,rfl,ct2,⟨tl,ul,tr,ur,ct1,rfl,hk,Hx,yh⟩,h2,x2⟩:=hp;have HL:=hid Hx;have qK:=hid yh;have Kx:k<6:=hk;have H2:Hid (Rd b s m1 m2 l1 o ct2 (w2.alloc (.cells #[.int .i64 ct.1,.int .i64 (k:Nat),.iface tl ul,.iface tr ur,.slice none 0 0,.slice none 0 0,.bool false] 290))):=h2.ext _;have HX:Hid (Ext b w (w2.alloc (.cells #[.int .i64 ct.1,.int .i64 (k:Nat),.iface tl ul,.iface tr ur,.slice none 0 0,.slice none 0 0,.bool false] 290))):=(x1.trans x2).alloc _;have P1:=h2.lt;have Ql:w.heap.size<=w2.heap.size:=by have:=x1.size;have:=x2.size;omega
  have HR:=hid hr;clear Hx yh hk hr;go_wp2_with fail;have hc:=gU l1 ct2 _ (by omega) H2.out (hE.ext HX.out);cases hb:aV l1 with
  | error er =>
   have aU:Hid (qF A aV o l=.error er):=by unfold Hid qF;rw[HR.out];simp only;rw[hb]
   rw[hb]at hc;refine hc.mono ?_;rintro e w3⟨N,rfl,hf⟩;exact⟨rfl,bS aU.out (bB.ahead HX.out ⟨N,rfl,hf⟩)⟩
  | ok bl =>
   obtain⟨xs,l2⟩:=bl;rw[hb]at hc;refine hc.mono ?_;rintro e w3⟨vb,rfl,mz,Bc,h3,x3⟩;obtain⟨a3,n3,c3,rfl⟩:=eU Bc;have eI:w3.heap[w2.heap.size]?=some (.cells (jz ct.1 k (.iface tl ul) (.iface tr ur) (.slice none 0 0) (.slice none 0 0) false) 290):=lI x3 P1;have k3:=cell_of eI 4 (v:=.slice none 0 0) rfl;have f3:=aw eI 4;have yj:=Pe eI (.slice a3 n3 c3);have H4:Hid (Rd b s m1 m2 l2 o mz (w3.setCell ⟨w2.heap.size,4,none⟩ (.slice a3 n3 c3))):=h3.eh (p:=⟨w2.heap.size,4,none⟩) (by show w2.heap.size≠b;omega) (kH eI (by decide)) _;have X4:Hid (Ext b w (w3.setCell ⟨w2.heap.size,4,none⟩ (.slice a3 n3 c3))):=(HX.trans x3).setCell (p:=⟨w2.heap.size,4,none⟩) (.inr Ql) _;have DR:Hid (nw Rt.T ct2 (w2.heap.size+1) w3.heap.size (w3.setCell ⟨w2.heap.size,4,none⟩ (.slice a3 n3 c3)) (.slice a3 n3 c3) xs mz):=nw.mono Rt Bc (by simp) (Nat.le_refl _) ((eJ.refl _ _ _).setCell (p:=⟨w2.heap.size,4,none⟩) (.inl (by show w2.heap.size<(w2.alloc _).heap.size;simp)) _);have ZU:w2.heap.size<w3.heap.size:=ah eI;have hdb:=Hl _ _ _ hb;have KH:=hid hb;have cc3:(w3.setCell ⟨w2.heap.size,4,none⟩ (.slice a3 n3 c3)).cell? ⟨b,3,none⟩=some (.string ⟨(Sp.tok l2).toArray⟩):=H4.c3;clear Bc hb hc x3 h3 eI;by_cases Hh:Sp.tok l2=j0
   ·have aaf:(w3.setCell ⟨w2.heap.size,4,none⟩ (.slice a3 n3 c3)).cell? ⟨b,3,none⟩=some (.string ⟨#[101,108,115,101]⟩):=by rw[cc3,Hh];rfl
    clear cc3;have HEL:Hid (Sp.tok l2=[101,108,115,101]):=Hh;go_wp2_with fail;clear k3 f3 aaf;have W9:w3.heap.size=(w3.setCell ⟨w2.heap.size,4,none⟩ (.slice a3 n3 c3)).heap.size:=by simp[World.setCell]
    rw[W9]at DR ZU;clear W9;generalize w3.setCell ⟨w2.heap.size,4,none⟩ (.slice a3 n3 c3)=w4 at *;refine(dx H4.out [101,108,115,101] HEL.out).mono ?_;rintro e w5⟨rfl,h5,x5⟩;have Nt:w5.heap[w2.heap.size]?=some (.cells (jz ct.1 k (.iface tl ul) (.iface tr ur) (.slice a3 n3 c3) (.slice none 0 0) false) 290):=by exact x5.bF yj (by omega) (fj (by decide))
    have k5:=cell_of Nt 6 (v:=.bool false) rfl;have f5:=aw Nt 6;have XG:=PR Nt true;have H6:Hid (Rd b s m1 m2 (Sp.next l2) o mz (w5.setCell ⟨w2.heap.size,6,none⟩ (.bool true))):=h5.eh (p:=⟨w2.heap.size,6,none⟩) (by show w2.heap.size≠b;omega) (kH Nt (by decide)) _;have X6:Hid (Ext b w (w5.setCell ⟨w2.heap.size,6,none⟩ (.bool true))):=(X4.trans x5).setCell (p:=⟨w2.heap.size,6,none⟩) (.inr Ql) _;have HB6:Hid (nw Rt.T ct2 (w2.heap.size+1) w4.heap.size (w5.setCell ⟨w2.heap.size,6,none⟩ (.bool true)) (.slice a3 n3 c3) xs mz):=nw.mono Rt DR.out (Nat.le_refl _) (Nat.le_refl _) ((x5.Ft (lo:=w2.heap.size+1) (Nat.le_refl _) (.inl (by omega))).setCell (p:=⟨w2.heap.size,6,none⟩) (.inl (Nat.lt_succ_self _)) _);have ZF:w4.heap.size<=(w5.setCell ⟨w2.heap.size,6,none⟩ (.bool true)).heap.size:=by have:=x5.size;simp[World.setCell];omega
    have Tf:=aI HEL.out (by simp);clear Nt h5 x5 DR H4 X4 yj;go_wp2_with fail;clear k5 f5;generalize w5.setCell ⟨w2.heap.size,6,none⟩ (.bool true)=w6 at *;have hc:=gU (Sp.next l2) mz w6 (by omega) H6.out (hE.ext X6.out);cases hb:aV (Sp.next l2) with
    | error er =>
     have aU:Hid (qF A aV o l=.error er):=by unfold Hid qF;rw[HR.out];simp only;rw[KH.out];simp only;rw[if_pos Hh,hb]
     rw[hb]at hc;refine hc.mono ?_;rintro e w7⟨N,rfl,hf⟩;exact⟨rfl,bS aU.out (bB.ahead X6.out ⟨N,rfl,hf⟩)⟩
    | ok cl =>
     obtain⟨ys,l3⟩:=cl;have aU:Hid (qF A aV o l=.ok (A.ite k x y xs (some ys),l3)):=by unfold Hid qF;rw[HR.out];simp only;rw[KH.out];simp only;rw[if_pos Hh,hb]
     rw[hb]at hc;refine hc.mono ?_;rintro e w7⟨vc,rfl,sM,hvc,h7,x7⟩;obtain⟨a7,n7,c7,rfl⟩:=eU hvc;have aav:=ah XG;have Np:w7.heap[w2.heap.size]?=some (.cells (jz ct.1 k (.iface tl ul) (.iface tr ur) (.slice a3 n3 c3) (.slice none 0 0) true) 290):=by exact x7.bF XG (by omega) (fj (by decide))
     have k7:=cell_of Np 5 (v:=.slice none 0 0) rfl;have f7:=aw Np 5;have Dv:=Ps Np (.slice a7 n7 c7);have q0:=cell_of Dv 0 (v:=.int .i64 ct.1) rfl;have q1:=cell_of Dv 1 (v:=.int .i64 (k:Nat)) rfl;have q2:=cell_of Dv 2 (v:=.iface tl ul) rfl;have q3:=cell_of Dv 3 (v:=.iface tr ur) rfl;have q4:=cell_of Dv 4 (v:=.slice a3 n3 c3) rfl;have q5:=cell_of Dv 5 (v:=.slice a7 n7 c7) rfl;have q6:=cell_of Dv 6 (v:=.bool true) rfl;have H8:Hid (Rd b s m1 m2 l3 o sM (w7.setCell ⟨w2.heap.size,5,none⟩ (.slice a7 n7 c7))):=h7.eh (p:=⟨w2.heap.size,5,none⟩) (by show w2.heap.size≠b;omega) (kH Np (by decide)) _;have X8:Hid (Ext b w (w7.setCell ⟨w2.heap.size,5,none⟩ (.slice a7 n7 c7))):=(X6.trans x7).setCell (p:=⟨w2.heap.size,5,none⟩) (.inr Ql) _;have Z6:w7.heap.size<=(w7.setCell ⟨w2.heap.size,5,none⟩ (.slice a7 n7 c7)).heap.size:=by simp[World.setCell]
     have Tv:Hid (nw Rt.T ct2 w.heap.size (w7.setCell ⟨w2.heap.size,5,none⟩ (.slice a7 n7 c7)).heap.size (w7.setCell ⟨w2.heap.size,5,none⟩ (.slice a7 n7 c7)) (.slice a3 n3 c3) xs mz) :=
      nw.mono Rt HB6.out (by omega) (by have:=x7.size;omega) ((x7.Ft (lo:=w2.heap.size+1) ZF (.inl (by omega))).setCell (p:=⟨w2.heap.size,5,none⟩) (.inl (Nat.lt_succ_self _)) _)
     have HC8:Hid (nw Rt.T mz w.heap.size (w7.setCell ⟨w2.heap.size,5,none⟩ (.slice a7 n7 c7)).heap.size (w7.setCell ⟨w2.heap.size,5,none⟩ (.slice a7 n7 c7)) (.slice a7 n7 c7) ys sM) :=
      nw.mono Rt hvc (by omega) Z6 ((eJ.refl _ _ _).setCell (p:=⟨w2.heap.size,5,none⟩) (.inl (by show w2.heap.size<w6.heap.size;omega)) _)
     clear hvc hb hc Dv Np h7 x7 HB6;go_wp2_with fail;go_ret;exact fm aU.out (Rt.iteElse ct _ _ _ k _ _ ct1 _ _ ct2 _ _ mz _ _ sM Kx HL.out qK.out Tv.out HC8.out) H8.out X8.out
   ·have aU:Hid (qF A aV o l=.ok (A.ite k x y xs none,l2)):=by unfold Hid qF;rw[HR.out];simp only;rw[KH.out];simp only;rw[if_neg Hh]
    have db:(Sp.tok l2 == [101,108,115,101])=false:=gO Hh;have q0:=cell_of yj 0 (v:=.int .i64 ct.1) rfl;have q1:=cell_of yj 1 (v:=.int .i64 (k:Nat)) rfl;have q2:=cell_of yj 2 (v:=.iface tl ul) rfl;have q3:=cell_of yj 3 (v:=.iface tr ur) rfl;have q4:=cell_of yj 4 (v:=.slice a3 n3 c3) rfl;have q5:=cell_of yj 5 (v:=.slice none 0 0) rfl;have q6:=cell_of yj 6 (v:=.bool false) rfl;have Tv:Hid (nw Rt.T ct2 w.heap.size (w3.setCell ⟨w2.heap.size,4,none⟩ (.slice a3 n3 c3)).heap.size (w3.setCell ⟨w2.heap.size,4,none⟩ (.slice a3 n3 c3)) (.slice a3 n3 c3) xs mz) :=
     nw.mono Rt DR.out (by omega) (by simp[World.setCell]) (eJ.refl _ _ _)
    clear yj DR Hh;go_wp2_with fail;go_ret;exact fm aU.out (Rt.ite ct _ _ _ k _ _ ct1 _ _ ct2 _ _ mz Kx HL.out qK.out Tv.out) H4.out X4.out
end
namespace Sp
section
variable{A:eW}
variable{o k:Nat}
variable{l l1:Bs}
theorem LF{x:A.S}(h:pS A o l=.ok (x,l1)):l1.length<l.length :=
 GL (iH _ _) l x l1 h
theorem j6{c:Nat × A.S × A.S}(h:bn A o l=.ok (c,l1)):l1.length<l.length:=by
 unfold bn at h;split at h
 ·rename_i x l2 hr
  have h1:=LF hr;split at h
  ·split at h
   ·rename_i y l3 sL
    have h2:=LF sL;have h3:=cj l2;cases h;omega
   ·cases h
  ·cases h
 ·cases h
theorem C3(h:dE l=.ok (k,l1)):l1.length<l.length:=by obtain⟨hk,rfl⟩:=gm h;exact fL (dc (.inl (eZ hk)))
theorem rC{t:Bs}(h:take t l=.ok l1):l1.length<=l.length:=by obtain⟨_,rfl⟩:=bU h;exact cj l
theorem BE{st:Bs->R A.T}(hs:∀l x l1,st l=.ok (x,l1)->l1.length<l.length):∀(m:Nat) (xs:List A.T) (l:Bs) (ys:List A.T) (l1:Bs),cZ A st m xs l=.ok (ys,l1)->l1.length<=l.length
 | 0,xs,l,ys,l1,h=>by unfold cZ at h;cases h;exact Nat.le_refl _
 | m+1,xs,l,ys,l1,h=>by
  unfold cZ at h;split at h
  ·split at h
   ·rename_i x l2 hr
    have:=hs _ _ _ hr;have:=BE hs m _ _ _ _ h;omega
   ·cases h
  ·cases h;exact Nat.le_refl _
theorem sf{st:Bs->R A.T}(hs:∀l x l1,st l=.ok (x,l1)->l1.length<l.length){xs:List A.T}(h:aS A st o l=.ok (xs,l1)):l1.length<l.length:=by
 unfold aS at h;split at h
 ·rename_i l2 hr
  obtain⟨ht,_,rfl⟩:=cE hr;have:=aI ht (by simp);split at h
  ·rename_i ys l3 sL
   have:=BE hs _ _ _ _ _ sL;split at h
   ·rename_i l4 zp
    have:=rC zp;cases h;omega
   ·cases h
  ·cases h
 ·cases h
theorem jK:∀(n o:Nat) (l:Bs) (x:A.T) (l1:Bs),bH A n o l=.ok (x,l1)->l1.length<l.length
 | 0,o,l,x,l1,h=>by unfold bH bad at h;cases h
 | n+1,o,l,x,l1,h=>by
  have hb:∀l xs l1,aS A (bH A n (o+1)) o l=.ok (xs,l1)->l1.length<l.length:=fun l xs l1 h=>sf (jK n (o+1)) h
  have hn:=cj l;unfold bH at h;split at h
  ·unfold gx at h
   split at h
   ·rename_i k l2 hr
    have:=C3 hr;split at h
    ·rename_i l3 sL
     have:=rC sL;cases h;omega
    ·cases h
   ·cases h
  ·split at h
   ·unfold cY at h
    split at h
    ·rename_i k x y l2 hr
     have:=j6 hr;split at h
     ·rename_i l3 sL
      have:=rC sL;cases h;omega
     ·cases h
    ·cases h
   ·split at h
    ·unfold qF at h
     split at h
     ·rename_i k x y l2 hr
      have:=j6 hr;split at h
      ·rename_i xs l3 sL
       have:=hb _ _ _ sL;split at h
       ·split at h
        ·rename_i ys l4 zp
         have:=hb _ _ _ zp;have:=cj l3;cases h;omega
        ·cases h
       ·cases h;omega
      ·cases h
     ·cases h
    ·split at h
     ·unfold ef at h
      split at h
      ·rename_i k x y l2 hr
       have:=j6 hr;split at h
       ·rename_i xs l3 sL
        have:=hb _ _ _ sL;cases h;omega
       ·cases h
      ·cases h
     ·unfold cy at h
      split at h
      ·rename_i k l2 hr
       have:=C3 hr;split at h
       ·rename_i l3 sL
        have:=rC sL;split at h
        ·rename_i x l4 zp
         have:=LF zp;split at h
         ·rename_i l5 qG
          have:=rC qG;cases h;omega
         ·cases h
        ·cases h
       ·cases h
      ·cases h
end
end Sp
section
variable{A:eW}
variable{b base sz n DD B k:Nat}
variable{s:ByteArray}
variable{w wa wb wc w':Wd}
variable{v0 v nv:Value}
variable{vs:List Value}
theorem jR{Rp:yQ A}(Rt:kt A Rp){m1 m2 o:Nat}{ct:Int × Int}{r:Sp.R A.T}(e:Ending)(w':Wd)
  (h:qk Rt b s m1 m2 o ct (w.setCell ⟨b,5,none⟩ v0) r e w'):lT (fun ct w' v x bh=>Rt.T ct w.heap.size w'.heap.size w' v x bh) b s m1 m2 o ct w r e w':=by
 have x:Ext b w (w.setCell ⟨b,5,none⟩ v0):=(Ext.refl b w).setCell (p:=⟨b,5,none⟩) (.inl rfl) _;have hs:(w.setCell ⟨b,5,none⟩ v0).heap.size=w.heap.size:=by simp[World.setCell]
 unfold qk at h;cases r with
 | error er=>exact bB.ahead x h
 | ok xl =>obtain⟨v,rfl,bh,hv,h1,x1⟩:=h;exact⟨v,rfl,bh,by rw[hs]at hv;exact hv,h1,x.trans x1⟩
theorem Cg{Rp:yQ A}(Rt:kt A Rp)(b:Nat)(s:ByteArray)(m1 m2 o n:Nat)(ho:o<=12)
  (ih:o<12->qO Rt 122 b s m1 m2 (o+1) n (bH A n (o+1))):qO Rt 122 b s m1 m2 o (n+1) (bH A (n+1) o):=by
 intro l ct w hl h hE;have gU:rG Rt b s m1 m2 o (n+1) (aS A (bH A n (o+1)) o):=Cj Rt b s m1 m2 o n ho _ (jK n (o+1)) ih;have Hl:∀l x l1,aS A (bH A n (o+1)) o l=.ok (x,l1)->l1.length<=l.length:=fun l x l1 h=>Nat.le_of_lt (sf (jK n (o+1)) h)
 have tN:∀c l1,bn A o (Sp.next l)=.ok (c,l1)->l1.length<l.length:=fun c l1 h=>by have:=j6 h;have:=cj l;omega
 have h5:=h.c5;have f5:=h.fz 5;obtain⟨hp,xp⟩:=Mv h (RowKit.wrap64 (ct.1+1));have HP:=hid hp;have c3:=hp.c3;have Yk:=hE.ext xp;clear hp;unfold bH;by_cases t1:Sp.tok l=sP
 ·rw[if_pos t1]
  have Xd:(w.setCell ⟨b,5,none⟩ (.int .i64 (RowKit.wrap64 (ct.1+1)))).cell? ⟨b,3,none⟩=some (.string ⟨#[114,101,97,100]⟩):=by rw[c3,t1];rfl
  have hc:Calls prog 164 #[.pointer (some ⟨b,0,none⟩),.int .i64 ct.1] (w.setCell ⟨b,5,none⟩ (.int .i64 (RowKit.wrap64 (ct.1+1)))) (lT (fun ct w' v x bh=>Rt.T ct w.heap.size w'.heap.size w' v x bh) b s m1 m2 o ct w (gx A l)):=(D1 Rt b s m1 m2 o l ct _ HP.out t1).mono (jR Rt);clear c3 ih gU Hl tN;generalize gx A l=r at hc ⊢;cases r with
  | error er =>go_enter func122,ntmps122;go_wp2_with fail;refine hc.mono ?_;rintro e w1⟨N,rfl,hf⟩;exact⟨rfl,N,rfl,hf⟩
  | ok xl =>obtain⟨x,l1⟩:=xl;go_enter func122,ntmps122;go_wp2_with fail;refine hc.mono ?_;rintro e w1⟨v,rfl,ct1,hv,h1,x1⟩;go_wp2_with fail;go_ret;exact⟨v,rfl,ct1,hv,h1,x1⟩
 ·rw[if_neg t1]
  have b1:(Sp.tok l == [114,101,97,100])=false:=gO t1;by_cases t2:Sp.tok l=kU
  ·rw[if_pos t2]
   have Xd:(w.setCell ⟨b,5,none⟩ (.int .i64 (RowKit.wrap64 (ct.1+1)))).cell? ⟨b,3,none⟩=some (.string ⟨#[97,115,115,101,114,116]⟩):=by rw[c3,t2];rfl
   have hc:Calls prog 165 #[.pointer (some ⟨b,0,none⟩),.int .i64 ct.1] (w.setCell ⟨b,5,none⟩ (.int .i64 (RowKit.wrap64 (ct.1+1)))) (lT (fun ct w' v x bh=>Rt.T ct w.heap.size w'.heap.size w' v x bh) b s m1 m2 o ct w (cY A o l)):=(mY Rt b s m1 m2 o ho l ct _ HP.out Yk t2).mono (jR Rt);clear c3 ih gU Hl tN b1;generalize cY A o l=r at hc ⊢;cases r with
   | error er =>go_enter func122,ntmps122;go_wp2_with fail;refine hc.mono ?_;rintro e w1⟨N,rfl,hf⟩;exact⟨rfl,N,rfl,hf⟩
   | ok xl =>obtain⟨x,l1⟩:=xl;go_enter func122,ntmps122;go_wp2_with fail;refine hc.mono ?_;rintro e w1⟨v,rfl,ct1,hv,h1,x1⟩;go_wp2_with fail;go_ret;exact⟨v,rfl,ct1,hv,h1,x1⟩
  ·rw[if_neg t2]
   have b2:(Sp.tok l == [97,115,115,101,114,116])=false:=gO t2;by_cases t3:Sp.tok l=Qw
   ·rw[if_pos t3]
    have Xd:(w.setCell ⟨b,5,none⟩ (.int .i64 (RowKit.wrap64 (ct.1+1)))).cell? ⟨b,3,none⟩=some (.string ⟨#[105,102]⟩):=by rw[c3,t3];rfl
    have hc:Calls prog 166 #[.pointer (some ⟨b,0,none⟩),.int .i64 ct.1] (w.setCell ⟨b,5,none⟩ (.int .i64 (RowKit.wrap64 (ct.1+1)))) (lT (fun ct w' v x bh=>Rt.T ct w.heap.size w'.heap.size w' v x bh) b s m1 m2 o ct w (qF A (fun l=>aS A (bH A n (o+1)) o l) o l)):=(jA Rt b s m1 m2 o (n+1) ho _ gU Hl l ct _ (by omega) HP.out Yk t3 tN).mono (jR Rt);clear c3 ih gU Hl tN b1 b2;generalize qF A (fun l=>aS A (bH A n (o+1)) o l) o l=r at hc ⊢;cases r with
    | error er =>go_enter func122,ntmps122;go_wp2_with fail;refine hc.mono ?_;rintro e w1⟨N,rfl,hf⟩;exact⟨rfl,N,rfl,hf⟩
    | ok xl =>obtain⟨x,l1⟩:=xl;go_enter func122,ntmps122;go_wp2_with fail;refine hc.mono ?_;rintro e w1⟨v,rfl,ct1,hv,h1,x1⟩;go_wp2_with fail;go_ret;exact⟨v,rfl,ct1,hv,h1,x1⟩
   ·rw[if_neg t3]
    have b3:(Sp.tok l == [105,102])=false:=gO t3;by_cases t4:Sp.tok l=oG
    ·rw[if_pos t4]
     have Xd:(w.setCell ⟨b,5,none⟩ (.int .i64 (RowKit.wrap64 (ct.1+1)))).cell? ⟨b,3,none⟩=some (.string ⟨#[119,104,105,108,101]⟩):=by rw[c3,t4];rfl
     have hc:Calls prog 167 #[.pointer (some ⟨b,0,none⟩),.int .i64 ct.1] (w.setCell ⟨b,5,none⟩ (.int .i64 (RowKit.wrap64 (ct.1+1)))) (lT (fun ct w' v x bh=>Rt.T ct w.heap.size w'.heap.size w' v x bh) b s m1 m2 o ct w (ef A (fun l=>aS A (bH A n (o+1)) o l) o l)):=(jU Rt b s m1 m2 o (n+1) ho _ gU l ct _ (by omega) HP.out Yk t4 tN).mono (jR Rt);clear c3 ih gU Hl tN b1 b2 b3;generalize ef A (fun l=>aS A (bH A n (o+1)) o l) o l=r at hc ⊢;cases r with
     | error er =>go_enter func122,ntmps122;go_wp2_with fail;refine hc.mono ?_;rintro e w1⟨N,rfl,hf⟩;exact⟨rfl,N,rfl,hf⟩
     | ok xl =>obtain⟨x,l1⟩:=xl;go_enter func122,ntmps122;go_wp2_with fail;refine hc.mono ?_;rintro e w1⟨v,rfl,ct1,hv,h1,x1⟩;go_wp2_with fail;go_ret;exact⟨v,rfl,ct1,hv,h1,x1⟩
    ·rw[if_neg t4]
     have b4:(Sp.tok l == [119,104,105,108,101])=false:=gO t4;have hc:Calls prog 168 #[.pointer (some ⟨b,0,none⟩),.int .i64 ct.1] (w.setCell ⟨b,5,none⟩ (.int .i64 (RowKit.wrap64 (ct.1+1)))) (lT (fun ct w' v x bh=>Rt.T ct w.heap.size w'.heap.size w' v x bh) b s m1 m2 o ct w (cy A o l)):=(ng Rt b s m1 m2 o ho l ct _ HP.out Yk).mono (jR Rt);clear ih gU Hl tN t1 t2 t3 t4;generalize cy A o l=r at hc ⊢;cases r with
     | error er =>go_enter func122,ntmps122;go_wp2_with fail;refine hc.mono ?_;rintro e w1⟨N,rfl,hf⟩;exact⟨rfl,N,rfl,hf⟩
     | ok xl =>obtain⟨x,l1⟩:=xl;go_enter func122,ntmps122;go_wp2_with fail;refine hc.mono ?_;rintro e w1⟨v,rfl,ct1,hv,h1,x1⟩;go_wp2_with fail;go_ret;exact⟨v,rfl,ct1,hv,h1,x1⟩
theorem nJ{Rp:yQ A}(Rt:kt A Rp)(b:Nat)(s:ByteArray)(m1 m2:Nat):∀(n o:Nat),o<=12->qO Rt 122 b s m1 m2 o n (bH A n o)
 | 0,_,_=>fun l _ _ hl _ _=>absurd hl (Nat.not_lt_zero _)
 | n+1,o,ho=>Cg Rt b s m1 m2 o n ho (fun h=>nJ Rt b s m1 m2 n (o+1) (by omega))
theorem tz{l:Sp.Bs}:aC l=1↔l=[]:=by
 cases l with
 | nil=>simp[aC]
 | cons c r =>
  rw[bX];constructor
  ·intro h
   split at h
   ·omega
   ·split at h
    ·omega
    ·split at h<;>omega
  ·intro h;cases h
theorem nm{e:TypeId}(h:w.ownsRow base e sz v n vs):∃a m c,v=.slice a m c:=by
 rcases h.2 with⟨rfl,_⟩ | ⟨g,cap,cur,rfl,_⟩
 ·exact⟨_,_,_,rfl⟩
 ·exact⟨_,_,_,rfl⟩
theorem xU{Rp:yQ A}(Rt:kt A Rp)(b:Nat)(s:ByteArray)(m1 m2:Nat)(l:Sp.Bs)(ct:Int × Int)(w:Wd)(h:Rd b s m1 m2 l 0 ct w)(hE:Env b m1 m2 w) :
  Calls prog 58 #[.pointer (some ⟨b,0,none⟩)] w fun e w'=>match ou A l with
   | .ok xs=>∃v bh nv ns,e=.returned (.agg #[v,.int .i64 bh.1,.int .i64 bh.2,nv])/\nw Rt.T ct w.heap.size w'.heap.size w' v xs bh/\Ext b w w'/\w'.ownsRow (b+1) 226 1 nv ns.length (gu ns)/\jV (Sp.skip s.data.toList) [] ns
   | .error er=>bB s b w er e w':=by
 have dj:=h.lt;have FY:Ext b w (w.alloc (.cells #[.slice none 0 0,.int .i64 0,.int .i64 0,.slice none 0 0] 86)):=(Ext.refl b w).alloc _;have hc:=gl Rt b s m1 m2 0 (l.length+1) (bH A (l.length+1) 0) (jK _ _) (nJ Rt b s m1 m2 (l.length+1) 0 (by omega)) l ct (w.alloc (.cells #[.slice none 0 0,.int .i64 0,.int .i64 0,.slice none 0 0] 86)) (Nat.lt_succ_self _) (h.ext _) (hE.ext FY);unfold ou;cases hr:cZ A (bH A (l.length+1) 0) (l.length+1) [] l with
 | error er =>rw[hr]at hc;go_enter func58,ntmps58;go_wp2_with fail;refine hc.mono ?_;rintro e w1⟨N,rfl,hf⟩;exact⟨rfl,bB.ahead FY ⟨N,rfl,hf⟩⟩
 | ok xl =>
  obtain⟨xs,l1⟩:=xl;rw[hr]at hc;simp only;by_cases he:l1=[]
  ·rw[if_pos he]
   have hk:=tz.2 he;go_enter func58,ntmps58;go_wp2_with fail;refine hc.mono ?_;rintro e w1⟨v,rfl,ct1,hv,h1,x1⟩;have c2:w1.cell? ⟨b,2,none⟩=some (.int .i64 1):=by rw[h1.c2,hk];rfl
   obtain⟨a1,n1,c1,rfl⟩:=eU hv;have eI:=lI x1 dj;have k0:=cell_of eI 0 (v:=.slice none 0 0) rfl;have k1:=cell_of eI 1 (v:=.int .i64 0) rfl;have k2:=cell_of eI 2 (v:=.int .i64 0) rfl;have k3:=cell_of eI 3 (v:=.slice none 0 0) rfl;have f0:=aw eI 0;have f1:=aw eI 1;have f2:=aw eI 2;have f3:=aw eI 3;have c5:=h1.c5;have c6:=h1.c6;obtain⟨nv,ns,hN,hL⟩:=h1;obtain⟨an,nn,cn,rfl⟩:=nm hN.row;have c7:w1.cell? ⟨b,7,none⟩=some (.slice an nn cn):=cell_of hN.aV 7 rfl;have hW:=ai (ai (ai (ai eI 0 (.slice a1 n1 c1)) 1 (.int .i64 ct1.1)) 2 (.int .i64 ct1.2)) 3 (.slice an nn cn);have q0:=cell_of hW 0 (v:=.slice a1 n1 c1) rfl;have q1:=cell_of hW 1 (v:=.int .i64 ct1.1) rfl;have q2:=cell_of hW 2 (v:=.int .i64 ct1.2) rfl;have q3:=cell_of hW 3 (v:=.slice an nn cn) rfl;have HX:Hid (Ext b w ((((w1.setCell ⟨w.heap.size,0,none⟩ (.slice a1 n1 c1)).setCell ⟨w.heap.size,1,none⟩ (.int .i64 ct1.1)).setCell ⟨w.heap.size,2,none⟩ (.int .i64 ct1.2)).setCell ⟨w.heap.size,3,none⟩ (.slice an nn cn)).drew) :=
    (((((FY.trans x1).setCell (p:=⟨w.heap.size,0,none⟩) (.inr (Nat.le_refl _)) _).setCell (p:=⟨w.heap.size,1,none⟩) (.inr (Nat.le_refl _)) _).setCell (p:=⟨w.heap.size,2,none⟩) (.inr (Nat.le_refl _)) _).setCell (p:=⟨w.heap.size,3,none⟩) (.inr (Nat.le_refl _)) _).drew
   have HV:Hid (nw Rt.T ct w.heap.size ((((w1.setCell ⟨w.heap.size,0,none⟩ (.slice a1 n1 c1)).setCell ⟨w.heap.size,1,none⟩ (.int .i64 ct1.1)).setCell ⟨w.heap.size,2,none⟩ (.int .i64 ct1.2)).setCell ⟨w.heap.size,3,none⟩ (.slice an nn cn)).drew.heap.size ((((w1.setCell ⟨w.heap.size,0,none⟩ (.slice a1 n1 c1)).setCell ⟨w.heap.size,1,none⟩ (.int .i64 ct1.1)).setCell ⟨w.heap.size,2,none⟩ (.int .i64 ct1.2)).setCell ⟨w.heap.size,3,none⟩ (.slice an nn cn)).drew (.slice a1 n1 c1) xs ct1) :=
    nw.mono Rt hv (by simp) (by simp[World.setCell]) (((((eJ.refl _ _ _).setCell (p:=⟨w.heap.size,0,none⟩) (.inl (by show w.heap.size<(w.alloc _).heap.size;simp)) _).setCell (p:=⟨w.heap.size,1,none⟩) (.inl (by show w.heap.size<(w.alloc _).heap.size;simp)) _).setCell (p:=⟨w.heap.size,2,none⟩) (.inl (by show w.heap.size<(w.alloc _).heap.size;simp)) _).setCell (p:=⟨w.heap.size,3,none⟩) (.inl (by show w.heap.size<(w.alloc _).heap.size;simp)) _)
   have WT:∀k,nV w1.heap[k]?->k≠w.heap.size:=fun k hk e=>by rw[e,eI]at hk;exact fj (by decide) hk
   have HR:Hid (((((w1.setCell ⟨w.heap.size,0,none⟩ (.slice a1 n1 c1)).setCell ⟨w.heap.size,1,none⟩ (.int .i64 ct1.1)).setCell ⟨w.heap.size,2,none⟩ (.int .i64 ct1.2)).setCell ⟨w.heap.size,3,none⟩ (.slice an nn cn)).drew.ownsRow (b+1) 226 1 (.slice an nn cn) ns.length (gu ns)) :=
    lP hN.row (fun k _ _ hkn=>by have:=WT k hkn;show((((w1.setCell ⟨w.heap.size,0,none⟩ (.slice a1 n1 c1)).setCell ⟨w.heap.size,1,none⟩ (.int .i64 ct1.1)).setCell ⟨w.heap.size,2,none⟩ (.int .i64 ct1.2)).setCell ⟨w.heap.size,3,none⟩ (.slice an nn cn)).heap[k]?=_;rw[Below.heap_setCell _ _ _ _ this,Below.heap_setCell _ _ _ _ this,Below.heap_setCell _ _ _ _ this,Below.heap_setCell _ _ _ _ this])
   have HL:Hid (jV (Sp.skip s.data.toList) [] ns):=by rw[he]at hL;exact hL
   have Q0:=hid q0;have Q1:=hid q1;have Q2:=hid q2;have Q3:=hid q3;have Hi:b≠w.heap.size:=by omega
   have C5:(w1.setCell ⟨w.heap.size,0,none⟩ (.slice a1 n1 c1)).cell? ⟨b,5,none⟩=some (.int .i64 ct1.1):=by rw[World.cell?_of_block (w:=w1) (by rw[Below.heap_setCell _ _ _ _ Hi])];exact c5
   have C6:((w1.setCell ⟨w.heap.size,0,none⟩ (.slice a1 n1 c1)).setCell ⟨w.heap.size,1,none⟩ (.int .i64 ct1.1)).cell? ⟨b,6,none⟩=some (.int .i64 ct1.2):=by rw[World.cell?_of_block (w:=w1) (by rw[Below.heap_setCell _ _ _ _ Hi,Below.heap_setCell _ _ _ _ Hi])];exact c6
   have C7:(((w1.setCell ⟨w.heap.size,0,none⟩ (.slice a1 n1 c1)).setCell ⟨w.heap.size,1,none⟩ (.int .i64 ct1.1)).setCell ⟨w.heap.size,2,none⟩ (.int .i64 ct1.2)).cell? ⟨b,7,none⟩=some (.slice an nn cn):=by rw[World.cell?_of_block (w:=w1) (by rw[Below.heap_setCell _ _ _ _ Hi,Below.heap_setCell _ _ _ _ Hi,Below.heap_setCell _ _ _ _ Hi])];exact c7
   clear hv q0 q1 q2 q3 hW eI hN hL WT;go_wp2_with fail
   go_region_with (fail)
   all_goals
    go_wp2_with fail;exact bodyPost_ret (v:=.agg #[.slice a1 n1 c1,.int .i64 ct1.1,.int .i64 ct1.2,.slice an nn cn]) (by simp[results,results58,go_sem,Q0.out,Q1.out,Q2.out,Q3.out]) rfl ⟨_,ct1,_,ns,rfl,HV.out,HX.out,HR.out,HL.out⟩
  ·rw[if_neg he,show(Sp.bad 2 l1:Except (Nat × Nat) (List A.T))=.error (2,l1.length) from rfl]
   have hk:¬ aC l1=1:=fun h=>he (tz.1 h)
   go_enter func58,ntmps58;go_wp2_with fail;refine hc.mono ?_;rintro e w1⟨v,rfl,ct1,hv,h1,x1⟩;have c2:=h1.c2;have n1:¬ (((aC l1:Nat):Int)=1):=by omega
   have b1:(((aC l1:Nat):Int) == 1)=false:=by simpa using n1
   clear hv hk;generalize aC l1=kd at c2 n1 b1;go_wp2_with fail;refine(eA h1 2).mono ?_;rintro e w2⟨rfl,rfl⟩;go_wp2_with fail;exact⟨rfl,bB.ahead (FY.trans x1) (gp h1 2 2 rfl)⟩
def iR(w:Wd)(B:Nat)(v:Value)(er:Nat × Nat):Prop :=
 (v=.iface 26 (.int .i64 1)/\er=(1,0))∨∃N,B<=N/\v=.iface 90 (.pointer (some ⟨N,0,none⟩))/\w.heap[N]?=some (.cells #[.int .i64 er.2,.int .i64 er.1] 96)
theorem makes(fn:Fn)(first cap:Array Value)(w:Wd):(Instr.makeFunc fn first cap).run prog w=.ok (.func fn first cap) w:=rfl
theorem AE(s:ByteArray)(w:Wd)(hs:400<s.size) :
  Calls prog 36 #[.string s] w fun e w'=>e=.returned (.tuple #[.agg #[.slice none 0 0,.int .i64 0,.int .i64 0,.slice none 0 0],.iface 26 (.int .i64 1)])/\Below w.heap.size w w':=by
 have hmf:=makes
 go_enter_defers func36,ntmps36
 go_wp2_with fail;simp[bodyPostD,Leaves,results,results36,go_sem];exact((Below.refl _ _).alloc (Nat.le_refl _) _).alloc (by simp) _
def tH(s:ByteArray)(m1 m2:Nat)(l:Sp.Bs):Obj :=
 .cells #[.string s,.int .i64 ((s.size - l.length:Nat):Int),.int .i64 (aC l),.string ⟨(Sp.tok l).toArray⟩,.int .i64 0,.int .i64 0,.int .i64 0,.slice none 0 0,.map (some m1),.map (some m2)] 147
theorem O2(l:Sp.Bs)(hl:l=Sp.skip s.data.toList)(hL:Laid wa)(hs:s.size<=400)(ho:jl wa.heap.size wb)(Du:Below wa.heap.size wa wb)(hr:gK wb.heap.size wc)(xG:Below wb.heap.size wb wc) :
  Rd wc.heap.size s wa.heap.size wb.heap.size l 0 (0,0) (wc.alloc (tH s wa.heap.size wb.heap.size l)) /\
  Env wc.heap.size wa.heap.size wb.heap.size (wc.alloc (tH s wa.heap.size wb.heap.size l)) /\
  Below wa.heap.size wa (wc.alloc (tH s wa.heap.size wb.heap.size l))/\wa.heap.size<wc.heap.size:=by
 have h9:=hL.size;have aaB:wa.heap.size<wb.heap.size:=by obtain⟨es,ck,hh,_⟩:=ho;exact ah hh
 have DE:wb.heap.size<wc.heap.size:=by obtain⟨es,ck,hh,_⟩:=hr;exact ah hh
 have b3:Below wa.heap.size wa wc:=Du.trans (xG.mono (by omega));have b4:=b3.alloc (by omega) (tH s wa.heap.size wb.heap.size l);refine⟨⟨.slice none 0 0,[],⟨heap_alloc_new _ _,by rw[hl];exact kI _,hs,World.ownsRow_nil _ _ _ _⟩,by rw[hl];exact .nil⟩,⟨hL.below b4 (by omega),?_,?_,by omega,by omega,by omega⟩,b4,by omega⟩
 ·have x:Ext wc.heap.size wb (wc.alloc (tH s wa.heap.size wb.heap.size l)):=(Ext.aB xG).alloc _
  exact ho.ext x (by omega)
 ·have x:Ext wc.heap.size wc (wc.alloc (tH s wa.heap.size wb.heap.size l)):=(Ext.refl _ _).alloc _
  exact hr.ext x (by omega)
theorem PA{e:TypeId}(h:w.ownsRow base e sz v n vs)(hb:DD<=base):w.ownsRow DD e sz v n vs:=by
 obtain⟨h1,h2⟩:=h;refine⟨h1,?_⟩
 rcases h2 with h2 | ⟨g,cap,cur,e,hg,r⟩
 ·exact .inl h2
 ·exact .inr ⟨g,cap,cur,e,Nat.le_trans hb hg,r⟩
theorem kM{ob:Obj}(h:Below B w w')(hk:k<B)(hb:w.heap[k]?=some ob):w'.heap[k]?=some ob:=by rw[h.block k hk];exact hb
def im{Rp:yQ A}(Rt:kt A Rp)(s:ByteArray)(w:Wd):Except (Nat × Nat) (List A.T)->Ending->Wd->Prop
 | .ok xs,e,w'=>∃v bh nv ns,e=.returned (.tuple #[.agg #[v,.int .i64 bh.1,.int .i64 bh.2,nv],.nilIface])/\nw Rt.T (0,0) w.heap.size w'.heap.size w' v xs bh/\Below w.heap.size w w'/\w'.ownsRow w.heap.size 226 1 nv ns.length (gu ns)/\jV (Sp.skip s.data.toList) [] ns
 | .error er,e,w'=>∃v,e=.returned (.tuple #[.agg #[.slice none 0 0,.int .i64 0,.int .i64 0,.slice none 0 0],v])/\iR w' w.heap.size v er/\Below w.heap.size w w'
theorem im.YM{Rp:yQ A}{Rt:kt A Rp}{r:Except (Nat × Nat) (List A.T)}{xs:List A.T}{bh:Int × Int}{ns:List Nat}(hr:r=.ok xs)(h:nw Rt.T (0,0) w.heap.size w'.heap.size w' v xs bh)(hb:Below w.heap.size w w')(hn:w'.ownsRow w.heap.size 226 1 nv ns.length (gu ns)/\jV (Sp.skip s.data.toList) [] ns):im Rt s w r (.returned (.tuple #[.agg #[v,.int .i64 bh.1,.int .i64 bh.2,nv],.nilIface])) w':=by rw[hr];exact⟨v,bh,nv,ns,rfl,h,hb,hn⟩
theorem im.bad{Rp:yQ A}{Rt:kt A Rp}{r:Except (Nat × Nat) (List A.T)}{er:Nat × Nat}(hr:r=.error er)(h:iR w' w.heap.size v er)(hb:Below w.heap.size w w'):im Rt s w r (.returned (.tuple #[.agg #[.slice none 0 0,.int .i64 0,.int .i64 0,.slice none 0 0],v])) w':=by rw[hr];exact⟨v,rfl,h,hb⟩
theorem xS{Rp:yQ A}(Rt:kt A Rp)(s:ByteArray)(w:Wd)(hs:s.size<=400)(hL:Laid w) :
  Calls prog 36 #[.string s] w (im Rt s w (Sp.parse A s.data.toList)):=by
 have hmf:=makes;have h9:=hL.size;have dw:¬ (400:Int)<(s.size:Int):=by omega
 have Ql:Below w.heap.size w ((w.alloc (.cells #[.slice none 0 0,.int .i64 0,.int .i64 0,.slice none 0 0] 86)).alloc (.cells #[.nilIface] 23)):=((Below.refl _ _).alloc (Nat.le_refl _) _).alloc (by simp) _;have z0:((w.alloc (.cells #[.slice none 0 0,.int .i64 0,.int .i64 0,.slice none 0 0] 86)).alloc (.cells #[.nilIface] 23)).heap[w.heap.size]?=some (.cells #[.slice none 0 0,.int .i64 0,.int .i64 0,.slice none 0 0] 86):=heap_alloc_old (heap_alloc_new _ _);have z1:((w.alloc (.cells #[.slice none 0 0,.int .i64 0,.int .i64 0,.slice none 0 0] 86)).alloc (.cells #[.nilIface] 23)).heap[w.heap.size+1]?=some (.cells #[.nilIface] 23):=by have:=heap_alloc_new (w.alloc (.cells #[.slice none 0 0,.int .i64 0,.int .i64 0,.slice none 0 0] 86)) (.cells #[.nilIface] 23);simpa using this
 have hsc:Calls prog 55 #[.string s,.int .i64 0] ((w.alloc (.cells #[.slice none 0 0,.int .i64 0,.int .i64 0,.slice none 0 0] 86)).alloc (.cells #[.nilIface] 23)) fun e w'=>e=.returned (.agg (nu s (Sp.skip s.data.toList)))/\Below ((w.alloc (.cells #[.slice none 0 0,.int .i64 0,.int .i64 0,.slice none 0 0] 86)).alloc (.cells #[.nilIface] 23)).heap.size ((w.alloc (.cells #[.slice none 0 0,.int .i64 0,.int .i64 0,.slice none 0 0] 86)).alloc (.cells #[.nilIface] 23)) w' :=
  vM s 0 _ (Nat.zero_le _) hs
 have Wm:((w.alloc (.cells #[.slice none 0 0,.int .i64 0,.int .i64 0,.slice none 0 0] 86)).alloc (.cells #[.nilIface] 23)).heap.size=w.heap.size+2:=by simp
 have Z0:=hid z0;have Z1:=hid z1;have uh:=hid Wm;clear z0 z1 Wm
 go_enter_defers func36,ntmps36
 go_wp2_with fail;generalize (w.alloc (.cells #[.slice none 0 0,.int .i64 0,.int .i64 0,.slice none 0 0] 86)).alloc (.cells #[.nilIface] 23)=w2 at *;refine hsc.mono ?_;rintro e wa⟨rfl,ba⟩;rw[ze];have XS:Laid wa:=hL.below (Ql.trans (ba.mono (by rw[uh.out];omega))) h9;go_wp2_with fail;refine(Jm wa XS).mono ?_;rintro e wb⟨rfl,hob,bb⟩;have hLb:Laid wb:=XS.below bb (by have:=XS.size;omega);go_wp2_with fail;refine(D5 wb hLb).mono ?_;rintro e wc⟨rfl,hrc,bc⟩;obtain⟨h5,hE5,b5,aaz⟩:=O2 (Sp.skip s.data.toList) rfl XS hs hob bb hrc bc;have hpr:=xU Rt wc.heap.size s wa.heap.size wb.heap.size (Sp.skip s.data.toList) (0,0) _ h5 hE5;have rV:w.heap.size+2<=wa.heap.size:=by have:=ba.size;rw[uh.out]at this;exact this
 have b25:Below (w.heap.size+2) w2 (wc.alloc (tH s wa.heap.size wb.heap.size (Sp.skip s.data.toList))):=(ba.mono (by rw[uh.out];omega)).trans (b5.mono rV);clear h5 hE5 hob hrc hsc;generalize hO:tH s wa.heap.size wb.heap.size (Sp.skip s.data.toList)=ob at *;have HO:=hid hO;clear hO;go_wp2_with fail;rw[show Obj.cells #[.string s,.int .i64 ((s.size - (Sp.skip s.data.toList).length:Nat):Int),.int .i64 (aC (Sp.skip s.data.toList)),.string ⟨(Sp.tok (Sp.skip s.data.toList)).toArray⟩,.int .i64 0,.int .i64 0,.int .i64 0,.slice none 0 0,.map (some wa.heap.size),.map (some wb.heap.size)] 147=ob from HO.out];refine hpr.mono ?_;intro e w6 hp;clear hpr;cases hr:ou A (Sp.skip s.data.toList) with
 | error er =>
  rw[hr]at hp;obtain⟨N,rfl,hN,x6,Up,hNs⟩:=hp;have b6:Below (w.heap.size+2) w2 w6:=b25.trans (x6.below (by omega) (by simp;omega));have y0:=kM b6 (by omega) Z0.out;have y1:=kM b6 (by omega) Z1.out;refine leaves_cons (f:=54) (args:=#[.pointer (some ⟨w.heap.size,0,none⟩),.pointer (some ⟨w.heap.size+1,0,none⟩)]) (by simp) (by simp[go_sem]) ?_;refine(ud w.heap.size (w.heap.size+1) ⟨N,0,none⟩ w6 _ _ _ _ _ (cell_of y0 0 rfl) (cell_of y0 1 rfl) (cell_of y0 2 rfl) (cell_of y0 3 rfl) (aw y0 0) (aw y0 1) (aw y0 2) (aw y0 3) (cell_of y1 0 rfl) (aw y1 0) (by omega)).mono ?_;rintro e u' w7⟨rfl,rfl,rfl⟩;have v0:=ai (ai (ai (ai y0 0 (.slice none 0 0)) 1 (.int .i64 0)) 2 (.int .i64 0)) 3 (.slice none 0 0);have v1:((((w6.setCell ⟨w.heap.size,0,none⟩ (.slice none 0 0)).setCell ⟨w.heap.size,1,none⟩ (.int .i64 0)).setCell ⟨w.heap.size,2,none⟩ (.int .i64 0)).setCell ⟨w.heap.size,3,none⟩ (.slice none 0 0)).heap[w.heap.size+1]?=some (.cells #[.nilIface] 23):=by rw[Below.heap_setCell _ _ _ _ (by show w.heap.size+1≠w.heap.size;omega),Below.heap_setCell _ _ _ _ (by show w.heap.size+1≠w.heap.size;omega),Below.heap_setCell _ _ _ _ (by show w.heap.size+1≠w.heap.size;omega),Below.heap_setCell _ _ _ _ (by show w.heap.size+1≠w.heap.size;omega)];exact y1
  have u1:=ai v1 0 (.iface 90 (.pointer (some ⟨N,0,none⟩)));have u0:(((((w6.setCell ⟨w.heap.size,0,none⟩ (.slice none 0 0)).setCell ⟨w.heap.size,1,none⟩ (.int .i64 0)).setCell ⟨w.heap.size,2,none⟩ (.int .i64 0)).setCell ⟨w.heap.size,3,none⟩ (.slice none 0 0)).setCell ⟨w.heap.size+1,0,none⟩ (.iface 90 (.pointer (some ⟨N,0,none⟩)))).heap[w.heap.size]?=some (.cells #[.slice none 0 0,.int .i64 0,.int .i64 0,.slice none 0 0] 86):=by rw[Below.heap_setCell _ _ _ _ (by show w.heap.size≠w.heap.size+1;omega)];exact v0
  have uN:(((((w6.setCell ⟨w.heap.size,0,none⟩ (.slice none 0 0)).setCell ⟨w.heap.size,1,none⟩ (.int .i64 0)).setCell ⟨w.heap.size,2,none⟩ (.int .i64 0)).setCell ⟨w.heap.size,3,none⟩ (.slice none 0 0)).setCell ⟨w.heap.size+1,0,none⟩ (.iface 90 (.pointer (some ⟨N,0,none⟩)))).heap[N]?=some (.cells #[.int .i64 ((s.size - er.2:Nat):Int),.int .i64 er.1] 96):=by
   have:w.heap.size+2<=N:=by have h1:=hNs;simp at h1;omega
   rw[Below.heap_setCell _ _ _ _ (by show N≠w.heap.size+1;omega),Below.heap_setCell _ _ _ _ (by show N≠w.heap.size;omega),Below.heap_setCell _ _ _ _ (by show N≠w.heap.size;omega),Below.heap_setCell _ _ _ _ (by show N≠w.heap.size;omega),Below.heap_setCell _ _ _ _ (by show N≠w.heap.size;omega)];exact hN
  have q0:(((((w6.setCell ⟨w.heap.size,0,none⟩ (.slice none 0 0)).setCell ⟨w.heap.size,1,none⟩ (.int .i64 0)).setCell ⟨w.heap.size,2,none⟩ (.int .i64 0)).setCell ⟨w.heap.size,3,none⟩ (.slice none 0 0)).setCell ⟨w.heap.size+1,0,none⟩ (.iface 90 (.pointer (some ⟨N,0,none⟩)))).cell? ⟨w.heap.size,0,none⟩=some (.slice none 0 0):=cell_of u0 0 rfl;have X1:(((((w6.setCell ⟨w.heap.size,0,none⟩ (.slice none 0 0)).setCell ⟨w.heap.size,1,none⟩ (.int .i64 0)).setCell ⟨w.heap.size,2,none⟩ (.int .i64 0)).setCell ⟨w.heap.size,3,none⟩ (.slice none 0 0)).setCell ⟨w.heap.size+1,0,none⟩ (.iface 90 (.pointer (some ⟨N,0,none⟩)))).cell? ⟨w.heap.size,1,none⟩=some (.int .i64 0):=cell_of u0 1 rfl;have q2:(((((w6.setCell ⟨w.heap.size,0,none⟩ (.slice none 0 0)).setCell ⟨w.heap.size,1,none⟩ (.int .i64 0)).setCell ⟨w.heap.size,2,none⟩ (.int .i64 0)).setCell ⟨w.heap.size,3,none⟩ (.slice none 0 0)).setCell ⟨w.heap.size+1,0,none⟩ (.iface 90 (.pointer (some ⟨N,0,none⟩)))).cell? ⟨w.heap.size,2,none⟩=some (.int .i64 0):=cell_of u0 2 rfl;have q3:(((((w6.setCell ⟨w.heap.size,0,none⟩ (.slice none 0 0)).setCell ⟨w.heap.size,1,none⟩ (.int .i64 0)).setCell ⟨w.heap.size,2,none⟩ (.int .i64 0)).setCell ⟨w.heap.size,3,none⟩ (.slice none 0 0)).setCell ⟨w.heap.size+1,0,none⟩ (.iface 90 (.pointer (some ⟨N,0,none⟩)))).cell? ⟨w.heap.size,3,none⟩=some (.slice none 0 0):=cell_of u0 3 rfl;have q1:(((((w6.setCell ⟨w.heap.size,0,none⟩ (.slice none 0 0)).setCell ⟨w.heap.size,1,none⟩ (.int .i64 0)).setCell ⟨w.heap.size,2,none⟩ (.int .i64 0)).setCell ⟨w.heap.size,3,none⟩ (.slice none 0 0)).setCell ⟨w.heap.size+1,0,none⟩ (.iface 90 (.pointer (some ⟨N,0,none⟩)))).cell? ⟨w.heap.size+1,0,none⟩=some (.iface 90 (.pointer (some ⟨N,0,none⟩))):=cell_of u1 0 rfl;have b7:Below w.heap.size w (((((w6.setCell ⟨w.heap.size,0,none⟩ (.slice none 0 0)).setCell ⟨w.heap.size,1,none⟩ (.int .i64 0)).setCell ⟨w.heap.size,2,none⟩ (.int .i64 0)).setCell ⟨w.heap.size,3,none⟩ (.slice none 0 0)).setCell ⟨w.heap.size+1,0,none⟩ (.iface 90 (.pointer (some ⟨N,0,none⟩)))) :=
   (((((Ql.trans (b6.mono (by omega))).setCell (p:=⟨w.heap.size,0,none⟩) (Nat.le_refl _) _).setCell (p:=⟨w.heap.size,1,none⟩) (Nat.le_refl _) _).setCell (p:=⟨w.heap.size,2,none⟩) (Nat.le_refl _) _).setCell (p:=⟨w.heap.size,3,none⟩) (Nat.le_refl _) _).setCell (p:=⟨w.heap.size+1,0,none⟩) (Nat.le_succ _) _
  have hNw:w.heap.size<=N:=by have h1:=hNs;simp at h1;omega
  clear u0 u1 v0 v1 hN y0 y1;generalize ((((w6.setCell ⟨w.heap.size,0,none⟩ (.slice none 0 0)).setCell ⟨w.heap.size,1,none⟩ (.int .i64 0)).setCell ⟨w.heap.size,2,none⟩ (.int .i64 0)).setCell ⟨w.heap.size,3,none⟩ (.slice none 0 0)).setCell ⟨w.heap.size+1,0,none⟩ (.iface 90 (.pointer (some ⟨N,0,none⟩)))=W at *;have aU:Sp.parse A s.data.toList=.error (er.1,s.size - er.2):=by unfold Sp.parse;rw[if_neg (by simp;omega),hr];simp
  simp[Leaves,settle,results,results36,go_sem,q0,X1,q2,q3,q1];exact im.bad aU (.inr ⟨N,hNw,rfl,uN⟩) b7
 | ok xs =>
  rw[hr]at hp;obtain⟨v,og,nvv,ZV,rfl,hv,x6,eN,Dx⟩:=hp;obtain⟨av,nv,cv,rfl⟩:=eU hv;obtain⟨ax,nx,cx,rfl⟩:=nm eN;have b6:Below (w.heap.size+2) w2 w6:=b25.trans (x6.below (by omega) (by simp;omega));have y0:=kM b6 (by omega) Z0.out;have y1:=kM b6 (by omega) Z1.out;have k0:=cell_of y0 0 (v:=.slice none 0 0) rfl;have f0:=aw y0 0;have k0':=cell_of y0 1 (v:=.int .i64 0) rfl;have f0':=aw y0 1;have k2:=cell_of y0 2 (v:=.int .i64 0) rfl;have f2:=aw y0 2;have k3:=cell_of y0 3 (v:=.slice none 0 0) rfl;have f3:=aw y0 3;have v0:=ai (ai (ai (ai y0 0 (.slice av nv cv)) 1 (.int .i64 og.1)) 2 (.int .i64 og.2)) 3 (.slice ax nx cx);have v1:((((w6.setCell ⟨w.heap.size,0,none⟩ (.slice av nv cv)).setCell ⟨w.heap.size,1,none⟩ (.int .i64 og.1)).setCell ⟨w.heap.size,2,none⟩ (.int .i64 og.2)).setCell ⟨w.heap.size,3,none⟩ (.slice ax nx cx)).heap[w.heap.size+1]?=some (.cells #[.nilIface] 23):=by rw[Below.heap_setCell _ _ _ _ (by show w.heap.size+1≠w.heap.size;omega),Below.heap_setCell _ _ _ _ (by show w.heap.size+1≠w.heap.size;omega),Below.heap_setCell _ _ _ _ (by show w.heap.size+1≠w.heap.size;omega),Below.heap_setCell _ _ _ _ (by show w.heap.size+1≠w.heap.size;omega)];exact y1
  have k1:=cell_of v1 0 (v:=.nilIface) rfl;have f1:=aw v1 0;have u1:=ai v1 0 .nilIface;have u0:(((((w6.setCell ⟨w.heap.size,0,none⟩ (.slice av nv cv)).setCell ⟨w.heap.size,1,none⟩ (.int .i64 og.1)).setCell ⟨w.heap.size,2,none⟩ (.int .i64 og.2)).setCell ⟨w.heap.size,3,none⟩ (.slice ax nx cx)).setCell ⟨w.heap.size+1,0,none⟩ .nilIface).heap[w.heap.size]?=some (.cells #[.slice av nv cv,.int .i64 og.1,.int .i64 og.2,.slice ax nx cx] 86):=by rw[Below.heap_setCell _ _ _ _ (by show w.heap.size≠w.heap.size+1;omega)];exact v0
  have q0:(((((w6.setCell ⟨w.heap.size,0,none⟩ (.slice av nv cv)).setCell ⟨w.heap.size,1,none⟩ (.int .i64 og.1)).setCell ⟨w.heap.size,2,none⟩ (.int .i64 og.2)).setCell ⟨w.heap.size,3,none⟩ (.slice ax nx cx)).setCell ⟨w.heap.size+1,0,none⟩ .nilIface).cell? ⟨w.heap.size,0,none⟩=some (.slice av nv cv):=cell_of u0 0 rfl;have X1:(((((w6.setCell ⟨w.heap.size,0,none⟩ (.slice av nv cv)).setCell ⟨w.heap.size,1,none⟩ (.int .i64 og.1)).setCell ⟨w.heap.size,2,none⟩ (.int .i64 og.2)).setCell ⟨w.heap.size,3,none⟩ (.slice ax nx cx)).setCell ⟨w.heap.size+1,0,none⟩ .nilIface).cell? ⟨w.heap.size,1,none⟩=some (.int .i64 og.1):=cell_of u0 1 rfl;have q2:(((((w6.setCell ⟨w.heap.size,0,none⟩ (.slice av nv cv)).setCell ⟨w.heap.size,1,none⟩ (.int .i64 og.1)).setCell ⟨w.heap.size,2,none⟩ (.int .i64 og.2)).setCell ⟨w.heap.size,3,none⟩ (.slice ax nx cx)).setCell ⟨w.heap.size+1,0,none⟩ .nilIface).cell? ⟨w.heap.size,2,none⟩=some (.int .i64 og.2):=cell_of u0 2 rfl;have q3:(((((w6.setCell ⟨w.heap.size,0,none⟩ (.slice av nv cv)).setCell ⟨w.heap.size,1,none⟩ (.int .i64 og.1)).setCell ⟨w.heap.size,2,none⟩ (.int .i64 og.2)).setCell ⟨w.heap.size,3,none⟩ (.slice ax nx cx)).setCell ⟨w.heap.size+1,0,none⟩ .nilIface).cell? ⟨w.heap.size,3,none⟩=some (.slice ax nx cx):=cell_of u0 3 rfl;have q1:(((((w6.setCell ⟨w.heap.size,0,none⟩ (.slice av nv cv)).setCell ⟨w.heap.size,1,none⟩ (.int .i64 og.1)).setCell ⟨w.heap.size,2,none⟩ (.int .i64 og.2)).setCell ⟨w.heap.size,3,none⟩ (.slice ax nx cx)).setCell ⟨w.heap.size+1,0,none⟩ .nilIface).cell? ⟨w.heap.size+1,0,none⟩=some .nilIface:=cell_of u1 0 rfl;have b7:Below w.heap.size w (((((w6.setCell ⟨w.heap.size,0,none⟩ (.slice av nv cv)).setCell ⟨w.heap.size,1,none⟩ (.int .i64 og.1)).setCell ⟨w.heap.size,2,none⟩ (.int .i64 og.2)).setCell ⟨w.heap.size,3,none⟩ (.slice ax nx cx)).setCell ⟨w.heap.size+1,0,none⟩ .nilIface) :=
   (((((Ql.trans (b6.mono (by omega))).setCell (p:=⟨w.heap.size,0,none⟩) (Nat.le_refl _) _).setCell (p:=⟨w.heap.size,1,none⟩) (Nat.le_refl _) _).setCell (p:=⟨w.heap.size,2,none⟩) (Nat.le_refl _) _).setCell (p:=⟨w.heap.size,3,none⟩) (Nat.le_refl _) _).setCell (p:=⟨w.heap.size+1,0,none⟩) (Nat.le_succ _) _
  have HB:nw Rt.T (0,0) w.heap.size (((((w6.setCell ⟨w.heap.size,0,none⟩ (.slice av nv cv)).setCell ⟨w.heap.size,1,none⟩ (.int .i64 og.1)).setCell ⟨w.heap.size,2,none⟩ (.int .i64 og.2)).setCell ⟨w.heap.size,3,none⟩ (.slice ax nx cx)).setCell ⟨w.heap.size+1,0,none⟩ .nilIface).heap.size (((((w6.setCell ⟨w.heap.size,0,none⟩ (.slice av nv cv)).setCell ⟨w.heap.size,1,none⟩ (.int .i64 og.1)).setCell ⟨w.heap.size,2,none⟩ (.int .i64 og.2)).setCell ⟨w.heap.size,3,none⟩ (.slice ax nx cx)).setCell ⟨w.heap.size+1,0,none⟩ .nilIface) (.slice av nv cv) xs og :=
   nw.mono Rt hv (by simp;omega) (by simp[World.setCell]) ((((((eJ.refl _ _ _).setCell (p:=⟨w.heap.size,0,none⟩) (.inl (by show w.heap.size<(wc.alloc ob).heap.size;simp;omega)) _).setCell (p:=⟨w.heap.size,1,none⟩) (.inl (by show w.heap.size<(wc.alloc ob).heap.size;simp;omega)) _).setCell (p:=⟨w.heap.size,2,none⟩) (.inl (by show w.heap.size<(wc.alloc ob).heap.size;simp;omega)) _).setCell (p:=⟨w.heap.size,3,none⟩) (.inl (by show w.heap.size<(wc.alloc ob).heap.size;simp;omega)) _).setCell (p:=⟨w.heap.size+1,0,none⟩) (.inl (by show w.heap.size+1<(wc.alloc ob).heap.size;simp;omega)) _)
  have WT:∀k,nV w6.heap[k]?->k≠w.heap.size/\k≠w.heap.size+1:=fun k hk=>by
   constructor
   ·intro e;rw[e,y0]at hk;exact fj (by decide) hk
   ·intro e;rw[e,y1]at hk;exact fj (by decide) hk
  have HN:Hid ((((((w6.setCell ⟨w.heap.size,0,none⟩ (.slice av nv cv)).setCell ⟨w.heap.size,1,none⟩ (.int .i64 og.1)).setCell ⟨w.heap.size,2,none⟩ (.int .i64 og.2)).setCell ⟨w.heap.size,3,none⟩ (.slice ax nx cx)).setCell ⟨w.heap.size+1,0,none⟩ .nilIface).ownsRow w.heap.size 226 1 (.slice ax nx cx) ZV.length (gu ZV)/\jV (Sp.skip s.data.toList) [] ZV):=by refine⟨PA (lP eN (fun k _ _ hkn=>?_)) (by omega),Dx⟩;obtain⟨h1,h2⟩:=WT k hkn;rw[Below.heap_setCell _ _ _ _ h2,Below.heap_setCell _ _ _ _ h1,Below.heap_setCell _ _ _ _ h1,Below.heap_setCell _ _ _ _ h1,Below.heap_setCell _ _ _ _ h1]
  have Q0:=hid q0;have Q0':Hid (_=_):=X1;have Q2:=hid q2;have Q3:=hid q3;have Q1:=hid q1;have HB':Hid (nw Rt.T (0,0) w.heap.size (((((w6.setCell ⟨w.heap.size,0,none⟩ (.slice av nv cv)).setCell ⟨w.heap.size,1,none⟩ (.int .i64 og.1)).setCell ⟨w.heap.size,2,none⟩ (.int .i64 og.2)).setCell ⟨w.heap.size,3,none⟩ (.slice ax nx cx)).setCell ⟨w.heap.size+1,0,none⟩ .nilIface).heap.size (((((w6.setCell ⟨w.heap.size,0,none⟩ (.slice av nv cv)).setCell ⟨w.heap.size,1,none⟩ (.int .i64 og.1)).setCell ⟨w.heap.size,2,none⟩ (.int .i64 og.2)).setCell ⟨w.heap.size,3,none⟩ (.slice ax nx cx)).setCell ⟨w.heap.size+1,0,none⟩ .nilIface) (.slice av nv cv) xs og):=HB;have HR:=hid hr;clear q0 X1 q1 q2 q3 u0 u1 v0 v1 hv HB hr y0 y1 WT eN Dx;go_wp2_with fail;refine leaves_cons (f:=54) (args:=#[.pointer (some ⟨w.heap.size,0,none⟩),.pointer (some ⟨w.heap.size+1,0,none⟩)]) (by simp) (by simp[go_sem]) ?_;refine(D7 ⟨w.heap.size,0,none⟩ ⟨w.heap.size+1,0,none⟩ _).mono ?_;rintro e u' w7⟨rfl,rfl,rfl⟩;clear k0 k0' k1 k2 k3 f0 f0' f1 f2 f3;generalize ((((w6.setCell ⟨w.heap.size,0,none⟩ (.slice av nv cv)).setCell ⟨w.heap.size,1,none⟩ (.int .i64 og.1)).setCell ⟨w.heap.size,2,none⟩ (.int .i64 og.2)).setCell ⟨w.heap.size,3,none⟩ (.slice ax nx cx)).setCell ⟨w.heap.size+1,0,none⟩ .nilIface=W at *;have aU:Sp.parse A s.data.toList=.ok xs:=by unfold Sp.parse;rw[if_neg (by simp;omega),HR.out]
  simp[Leaves,settle,results,results36,go_sem,Q0.out,Q0'.out,Q2.out,Q3.out,Q1.out];exact im.YM aU HB'.out b7 HN.out
theorem ly{Rp:yQ A}(Rt:kt A Rp)(s:ByteArray)(w:Wd)(hs:s.size<=1048576)(hL:Laid w) :
  Calls prog 36 #[.string s] w (im Rt s w (Sp.parse A s.data.toList)):=by
 by_cases h:s.size<=400
 ·exact xS Rt s w h hL
 ·refine(AE s w (by omega)).mono ?_
  rintro e w'⟨rfl,hb⟩;have aU:Sp.parse A s.data.toList=.error (1,0):=by unfold Sp.parse;rw[if_pos (by simp;omega)]
  exact im.bad aU (.inl ⟨rfl,rfl⟩) hb
end
end Go.Proofs.YtiopfihjmkfdmaaGreatDoor
