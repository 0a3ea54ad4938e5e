import Derived.Test.YtiopfihjmkfdmaaGreatDoorB26
namespace Go.Proofs.YtiopfihjmkfdmaaGreatDoor
open Go.Proofs.Tryz Sp
open Go.RowKit
set_option maxRecDepth 100000
set_option maxHeartbeats 16000000
section
theorem Aa(base b pb:Nat)(s:ByteArray)(o n:Nat)(ho:o<=12)(st:Sp.Bs->Sp.R (Bl->Bl))(cW:∀l f l1,st l=.ok (f,l1)->l1.length<l.length)(hr:o<12->mR base b pb s (o+1) n st)(NM:∀l,aS Tr st o l=bD Tr st o l)(l:Sp.Bs)(p:FP)(w:Wd)(hn:l.length<n+1)(h:FR base b pb s l (o:Int) p w)(hlim:eQ p l)(ht:Sp.tok l=oG) :
  Calls prog 99 #[.pointer (some ⟨b,0,none⟩)] w (mB base b pb s o p l w (ef Tr (fun l=>aS Tr st o l) o l)):=by
 have HR:=hid hr;have Ba:=hid cW;have yg:=hid NM;clear hr cW NM;obtain⟨c6,c3,dI,uP⟩:=h.asks;have c4:=cell_of h.aV 4 (v:=.pointer (some ⟨pb,0,none⟩)) rfl;have d2:=cell_of h.prog.aV 2 (v:=.int .i64 p.ct.1) rfl;have HT:=hid ht;have jd:Hid ((Sp.next l).length<l.length):=aI ht (by decide);have kC:p.ns.length+1<=1000000:=by have:=hlim.1;omega
 clear dI ht;go_enter func99,ntmps99;go_wp2_with fail;refine(eL (r:=.ok l) h { aA:=p.ct.1,next:=-1,c:=-1 } kC).mono ?_;rintro e w1⟨rfl,v,h1,k1⟩;have nM:FR base b pb s l (o:Int) _ w1:=h1;have c4:=cell_of nM.aV 4 (v:=.pointer (some ⟨pb,0,none⟩)) rfl;have d2:=cell_of nM.prog.aV 2 (v:=.int .i64 p.ct.1) rfl;have f2:=aw nM.prog.aV 2;go_wp2_with fail
 go_cut [] from 6 (fun wc=>wc=(w1.setCell ⟨pb,2,none⟩ (.int .i64 (RowKit.wrap64 (p.ct.1+1)))).drew)
 case first =>
  go_region_with (fail)
  all_goals
   go_wp2_with fail;go_meet;rw[IntWalk.i64_left]
 case rest =>
  obtain⟨iv,fM⟩:=FX.iX (r:=.ok l) (p':={ p with ns:=p.ns ++ [{ aA:=p.ct.1,next:=-1,c:=-1 }],nv:=v,ct:=Sp.aD p.ct }) h1 2 (.int .i64 (RowKit.wrap64 (p.ct.1+1))) (lK h1.prog.aV _) rfl rfl rfl rfl;obtain⟨p1,rJ,hp1q,hp1c,hx,hk⟩:∃p1:FP,Hid (p1.ns=p.ns ++ [{ aA:=p.ct.1,next:=-1,c:=-1 }])/\Hid (p1.qs=p.qs)/\p1.ct=Sp.aD p.ct/\FX base b pb s (.ok l) (o:Int) p1 wc/\FK b pb p p1 w wc:=⟨{ p with ns:=p.ns ++ [{ aA:=p.ct.1,next:=-1,c:=-1 }],nv:=v,ct:=Sp.aD p.ct },fK _,fK _,rfl,by rw[hcut];exact iv.drew,by rw[hcut];exact k1.trans fM.drew⟩;clear hcut iv fM h1 k1 nM c4 d2 f2 c3 c6;have eO:FR base b pb s l (o:Int) _ wc:=hx;have c4:=cell_of eO.aV 4 (v:=.pointer (some ⟨pb,0,none⟩)) rfl;have d2:=cell_of eO.prog.aV 2 (v:=.int .i64 (RowKit.wrap64 (p.ct.1+1))) (by rw[show(RowKit.wrap64 (p.ct.1+1))=p1.ct.1 by rw[hp1c];rfl];rfl);have c3:=cell_of eO.aV 3 (v:=.string ⟨(Sp.tok l).toArray⟩) rfl;rw[HT.out]at c3;have pG:RowKit.wrap64 (RowKit.wrap64 (p.ct.1+1) - 1)=p.ct.1:=by obtain⟨_,_,a1,a2⟩:=hlim;unfold RowKit.wrap64;omega
  have xz:b<wc.heap.size:=ah eO.aV;have Qj:pb<wc.heap.size:=ah eO.prog.aV;have AX:=hid hp1c;have pH:Hid (∀l1:Sp.Bs,l1.length<l.length->eQ p1 l1):=fun l1 uT=>oZ hlim rJ.out hp1q.out (by rw[hp1c];exact fA _) uT
  have M0:Hid (hH base b pb wc.heap.size s _ _ _ _ _ _ _):=hH.start { kind:=10,c:=-1,next:=-1,aA:=p.ct.1 } hx hk;clear hx hk hp1c hlim;go_wp2_with fail;refine(dP (FR.yY M0.fx)).mono ?_;rintro e w2⟨rfl,h2,k2⟩;have M3:=hid (M0.call (r':=.ok (Sp.next l)) h2 k2);have H2:Hid (FR base b pb s (Sp.next l) (o:Int) p1 w2):=h2;clear M0 h2 k2 eO;go_wp2_with fail;refine(oK ho H2.out (pH.out _ jd.out)).mono ?_;rintro e w3⟨kc,p3,rfl,h3,k3,g3⟩;have Vv:Hid (∃ex,p3.ns=p1.ns ++ ex):=MA g3;have G3:=hid g3;have TB:Hid (∀l1,left (bn Tr o (Sp.next l))=.ok l1->l1.length<n+1/\eQ p3 l1):=by
   intro l1 e1;have a1:=jd.out;have a2:=pH.out _ jd.out
   rcases hC:bn Tr o (Sp.next l) with er | ⟨⟨rel,x,y⟩,l2⟩
   ·rw[hC]at e1;cases e1
   ·rw[hC]at g3 e1
    cases e1
    have m:=g3.1;exact⟨by have:=j6 (A:=Tr) hC;omega,m.DI a2⟩
  have M4:=M3.call h3 k3;obtain⟨e1,f1⟩:=M4.box.cell 1 rfl;have M5:=hid (M4.set 1 (.int .i64 kc) (n':={ kind:=10,c:=-1,next:=-1,aA:=p.ct.1,a:=kc }) rfl);clear M4 M3 h3 k3 g3 H2;go_wp2_with fail;refine(wO ho Ba.out HR.out TB.out M5.fx).mono ?_;rintro e w4⟨kb,p4,rfl,h4,k4,g4,e4⟩;have S4:Hid (∃ex,p4.ns=p1.ns ++ ex):=sH Vv.out (wI (fun l1 e1=>MG (g4 l1 e1)) e4);have HD:Hid (p4.ns[p.ns.length]?=some { aA:=p.ct.1,next:=-1,c:=-1 }):=lR rJ.out S4.out;have G4:=hid (And.intro g4 e4);have M6:=M5.call h4 k4;obtain⟨e2,f2⟩:=M6.box.cell 2 rfl;have M9:=hid (M6.set 2 (.int .i64 kb) (n':={ kind:=10,c:=-1,next:=-1,aA:=p.ct.1,a:=kc,b:=kb }) rfl);clear M6 M5 h4 k4 g4 e4 TB Vv S4;obtain⟨g,cap,hv,mm,hmax,mr,hj,a4,a0,⟨n0,n1,n2,n3,n4,n5,n6,n7,n8,n9⟩,⟨r0,r1,r2,r3,r4,r5,r6,r7,r8,r9⟩,q0,q1,q2,q3,q4,q5,q6,q7,q8,q9⟩:=M9.facts (j:=p.ns.length) (d:={ aA:=p.ct.1,next:=-1,c:=-1 }) HD.out;go_wp2_with fail;generalize w4.setCell ⟨wc.heap.size,2,none⟩ (.int .i64 kb)=wd at *
  go_cut [] from 6 (fun wc=>wc=(qY wd g (p.ns.length*10) { kind:=10,c:=-1,next:=-1,aA:=p.ct.1,a:=kc,b:=kb }).drew)
  case first =>
   clear M9 HT HD pH jd G3 G4 HR Ba yg
   go_region_with (fail)
   all_goals
    go_wp2_with fail;go_meet;exact rfl
  case rest =>
   obtain⟨h6,k6⟩:=jX M9.fx { kind:=10,c:=-1,next:=-1,aA:=p.ct.1,a:=kc,b:=kb } hv (j:=p.ns.length) (d:={ aA:=p.ct.1,next:=-1,c:=-1 }) HD.out;go_wp2_with fail;go_ret;have G9:=IJ (n:={ kind:=10,c:=-1,next:=-1,aA:=p.ct.1,a:=kc,b:=kb }) (kc:=kc) (kb:=kb) yg.out rJ.out hp1q.out AX.out jd.out G3.out G4.1 G4.2 rfl rfl rfl rfl rfl;rw[hcut];exact lS (Br st o l yg.out) h6.drew (M9.fk.trans k6).drew G9
end
section
theorem IS(A:eW)(n o:Nat)(l:Sp.Bs):bH A (n+1) o l=(if Sp.tok l=sP then gx A l
  else if Sp.tok l=kU then cY A o l
  else if Sp.tok l=Qw then qF A (fun l=>aS A (bH A n (o+1)) o l) o l
  else if Sp.tok l=oG then ef A (fun l=>aS A (bH A n (o+1)) o l) o l
  else cy A o l):=by
 rw[bH]
theorem mh{base b pb:Nat}{s:ByteArray}{o:Nat}{p:FP}{l:Sp.Bs}{w:Wd}{r r':Sp.R (Bl->Bl)}{f:FuncId}{a:Array Value}(e:r=r')(h:Calls prog f a w (mB base b pb s o p l w r)):Calls prog f a w (mB base b pb s o p l w r'):=by rw[<-e];exact h
theorem tj(base b pb:Nat)(s:ByteArray):∀(n o:Nat),o<=12->mR base b pb s o n (bH Tr n o)
 | 0,o,_=>fun l p w hl=>absurd hl (Nat.not_lt_zero _)
 | n+1,o,ho=>by
  intro l p w hl h hlim hb;have cW:∀l (f:Bl->Bl) l1,bH Tr n (o+1) l=.ok (f,l1)->l1.length<l.length:=fun l f l1 e=>jK (A:=Tr) n (o+1) l f l1 e
  have NM:∀l,aS Tr (bH Tr n (o+1)) o l=bD Tr (bH Tr n (o+1)) o l:=fun l=>MP Tr _ (fun l h=>nC Tr n (o+1) h) cW o l
  have hr:o<12->mR base b pb s (o+1) n (bH Tr n (o+1)):=fun h=>tj base b pb s n (o+1) (by omega)
  have e:=IS Tr n o l;by_cases t1:Sp.tok l=sP
  ·rw[if_pos t1]at e
   exact mh e.symm (Dp base b pb s o l p w h hlim t1)
  ·rw[if_neg t1]at e
   by_cases t2:Sp.tok l=kU
   ·rw[if_pos t2]at e
    exact mh e.symm (xR base b pb s o ho l p w h hlim t2)
   ·rw[if_neg t2]at e
    by_cases t3:Sp.tok l=Qw
    ·rw[if_pos t3]at e
     exact mh e.symm (Jd base b pb s o n ho _ cW hr NM l p w hl h hlim t3)
    ·rw[if_neg t3]at e
     by_cases t4:Sp.tok l=oG
     ·rw[if_pos t4]at e
      exact mh e.symm (Aa base b pb s o n ho _ cW hr NM l p w hl h hlim t4)
     ·rw[if_neg t4]at e
      refine mh e.symm (xI base b pb s o ho l p w h hlim ?_);intro hv;simp[cN,hv,t1,t2,t3,t4]at hb
end
section
section
variable{w w3 wd:Wd}
variable{s t:ByteArray}
theorem Cv(w:Wd)(s:ByteArray):((w.alloc (.cells (cM Bf 0) 105)).alloc (.cells (ch s ((0:Nat):Int) 0 ⟨#[]⟩ w.heap.size 0 0) 174)).heap[w.heap.size+1]?=some (.cells (ch s ((0:Nat):Int) 0 ⟨#[]⟩ w.heap.size 0 0) 174):=by have h:=heap_alloc_new (w.alloc (.cells (cM Bf 0) 105)) (.cells (ch s ((0:Nat):Int) 0 ⟨#[]⟩ w.heap.size 0 0) 174);rw[show(w.alloc (.cells (cM Bf 0) 105)).heap.size=w.heap.size+1 by simp]at h;exact h
theorem BC(w:Wd)(s:ByteArray)(hs:s.size<=400):Calls prog 65 #[.pointer (some ⟨w.heap.size+1,0,none⟩)] ((w.alloc (.cells #[.slice none 0 0,.int .i64 0,.int .i64 0,.int .i64 0,.slice none 0 0] 105)).alloc (.cells #[.string s,.int .i64 0,.int .i64 0,.string ⟨#[]⟩,.pointer (some ⟨w.heap.size,0,none⟩),.int .i64 0,.int .i64 0] 174))
  fun e w'=>e=.returned (.tuple #[])/\FR w.heap.size (w.heap.size+1) w.heap.size s (Sp.skip s.data.toList) 0 Bf w'/\Below w.heap.size w w':=by
 refine(sS (w:=(w.alloc (.cells (cM Bf 0) 105)).alloc (.cells (ch s ((0:Nat):Int) 0 ⟨#[]⟩ w.heap.size 0 0) 174)) 0 (Cv w s) (Nat.zero_le _) hs).mono ?_;rintro e w3⟨rfl,hb,hx⟩;rw[List.drop_zero]at hb;exact⟨rfl,Dg w s hs rfl hx hb⟩
theorem Jx{b pb:Nat}{i a o:Int}(hb:Bk w b (ch s i a t pb o 0) 174) :
  Calls prog 67 #[.pointer (some ⟨b,0,none⟩),.int .i64 2] w fun e w'=>e=.returned (.tuple #[])/\w'=w.setCell ⟨b,6,none⟩ (.int .i64 2):=by
 have c6:=cell_of hb 6 (v:=.int .i64 0) rfl;have f6:=aw hb 6;go_enter func67,ntmps67;go_wp2_with fail
 go_end0
 exact⟨rfl,rfl⟩
def SO(w:Wd)(s:ByteArray)(fin:Sp.R (List (Bl->Bl)))(wd:Wd):Prop :=
 ∃(k:Int) (p':FP) (w4:Wd),FX w.heap.size (w.heap.size+1) w.heap.size s (left fin) ((0:Nat):Int) p' w4/\nK Bf p' (Sp.skip s.data.toList) k fin/\Below w.heap.size w w4/\wd=w4.setCell ⟨w.heap.size,1,none⟩ (.int .i64 k)
theorem YN(l:Sp.Bs)(h:l.length<=400):eQ Bf l:=by
 refine⟨?_,?_,?_⟩
 ·show 0+2*l.length<=2000;omega
 ·show 0+l.length<=2000;omega
 ·unfold In64;show(-9223372036854775808:Int)<=0/\(0:Int)<=9223372036854775807;omega
def LO(s:ByteArray):Sp.R (List (Bl->Bl)):=dh Tr (bH Tr ((Sp.skip s.data.toList).length+1) 0) ((Sp.skip s.data.toList).length+1) [] (Sp.skip s.data.toList)
theorem Ej(eO:FR w.heap.size (w.heap.size+1) w.heap.size s (Sp.skip s.data.toList) 0 Bf w3) :
  Calls prog 66 #[.pointer (some ⟨w.heap.size+1,0,none⟩)] w3 (Aq w.heap.size (w.heap.size+1) w.heap.size s 0 Bf (Sp.skip s.data.toList) w3 (LO s)):=by
 have hl:=eO.len;have hs:=eO.sz;exact kV _ _ _ s 0 ((Sp.skip s.data.toList).length+1) _ (fun l f l1 e=>jK (A:=Tr) _ 0 l f l1 e) (tj _ _ _ s _ 0 (by omega)) _ Bf w3 (by omega) eO (YN _ (by omega)) _ (by omega)
theorem PF{fin:Sp.R (List (Bl->Bl))}(h:SO w s fin wd):Below w.heap.size w wd/\wd.cell? ⟨w.heap.size+1,4,none⟩=some (.pointer (some ⟨w.heap.size,0,none⟩))/\match left fin with
 | .error er=>er.1≠0/\wd.cell? ⟨w.heap.size+1,6,none⟩=some (.int .i64 (er.1:Int))/\wd.cell? ⟨w.heap.size+1,2,none⟩=some (.int .i64 ((s.size - er.2:Nat):Int))
 | .ok l1=>l1.length<=s.size/\(∃i t o,wd.heap[w.heap.size+1]?=some (.cells (ch s i ((s.size - l1.length:Nat):Int) t w.heap.size o 0) 174)):=by
 obtain⟨k,p',w4,hx,hg,hb4,P3⟩:=h;have nO:Below w.heap.size w4 wd:=by rw[P3];exact(Below.refl _ _).setCell (p:=⟨w.heap.size,1,none⟩) (Nat.le_refl _) _
 have hk:wd.heap[w.heap.size+1]?=w4.heap[w.heap.size+1]?:=by rw[P3];exact Below.heap_setCell _ _ _ _ (by simp)
 obtain⟨i,a,t,o',er,hb⟩:=hx.Ln;refine⟨hb4.trans nO,cell_of (by rw[hk];exact hb) 4 rfl,?_⟩
 revert hx
 cases left fin with
 | error e =>intro hx;obtain⟨i,l0,o,hb,_⟩:=(show FE _ _ _ s e p' w4 from hx).aV;exact⟨(show FE _ _ _ s e p' w4 from hx).nz,cell_of (by rw[hk];exact hb) 6 rfl,cell_of (by rw[hk];exact hb) 2 rfl⟩
 | ok l1 =>intro hx;have eO:FR _ _ _ s l1 _ p' w4:=hx;exact⟨eO.len,_,_,_,by rw[hk];exact eO.aV⟩
theorem MT{fs:List (Bl->Bl)}(h:SO w s (.ok (fs,[])) wd):∃pt:Int,wd.cell? ⟨w.heap.size,2,none⟩=some (.int .i64 pt)/\wd.frozen? ⟨w.heap.size,2,none⟩=false/\yD w.heap.size w.heap.size (aP fs) (wd.setCell ⟨w.heap.size,2,none⟩ (.int .i64 (RowKit.wrap64 (pt+1)))).drew:=by
 obtain⟨k,p',w4,hx,hg,hb4,P3⟩:=h;have hp:=hx.prog;obtain⟨hm,qL,hq⟩:=hg;have b1:wd.heap[w.heap.size]?=some (.cells (cM p' k) 105):=by rw[P3];exact MD hp.aV k
 refine⟨p'.ct.1,cell_of b1 2 rfl,aw b1 2,{ p' with ct:=Sp.aD p'.ct },k,p'.ct,lK b1 _,?_,?_,?_,?_,qL,rfl,hm.pt (by unfold In64;show(-9223372036854775808:Int)<=0/\(0:Int)<=9223372036854775807;omega),by rw[hq];rfl⟩
 ·refine aZ hp.jF (fun g hgg=>?_)
  have db:=(hp.dM hp.aV kJ).1;have Ny:g≠w.heap.size:=fun e=>db (by rw[<-e];exact hgg)
  show(wd.setCell _ _).heap[g]?=_;rw[Below.heap_setCell _ _ _ _ Ny,P3];exact Below.heap_setCell _ _ _ _ Ny
 ·refine aZ hp.kF (fun g hgg=>?_)
  have db:=(hp.dM hp.aV kJ).2;have Ny:g≠w.heap.size:=fun e=>db (by rw[<-e];exact hgg)
  show(wd.setCell _ _).heap[g]?=_;rw[Below.heap_setCell _ _ _ _ Ny,P3];exact Below.heap_setCell _ _ _ _ Ny
 ·have:=hm.nl
  have h0:Bf.ns.length=0:=rfl;have h4:=(show FR _ _ _ s [] _ p' w4 from hx).sz;have:=ri s.data.toList;have hlen:s.data.toList.length=s.size:=by simp
  show p'.ns.length<=2000;omega
 ·have:=hm.ql
  have h0:Bf.qs.length=0:=rfl;have h4:=(show FR _ _ _ s [] _ p' w4 from hx).sz;have:=ri s.data.toList;have hlen:s.data.toList.length=s.size:=by simp
  show p'.qs.length<=2000;omega
theorem oE(s:ByteArray)(hmax:s.size<=1048576)(w:Wd):Calls prog 40 #[.string s] w (gY s w):=by
 have hlen:s.data.toList.length=s.size:=by simp
 by_cases hs:400<s.size
 ·have HT:Hid (Sp.tree s.data.toList=.error (1,0)):=JY (by omega)
  go_enter func40,ntmps40;go_wp2_with fail;try simp only[Exit.inBlock,Exit.then]
  refine bodyPost_ret (v:=.tuple #[.pointer none,.int .i64 1,.int .i64 0]) (by simp[results,results40,go_sem]) rfl ?_;unfold gY;rw[HT.out];exact⟨Below.refl _ _,rfl⟩
 ·have Us:s.size<=400:=by omega
  have HS:Hid (¬ 400<s.data.toList.length):=by unfold Hid;omega
  have HF:=BC w s Us;go_enter func40,ntmps40;go_wp2_with fail;refine HF.mono ?_;rintro e w3⟨rfl,eO,qL⟩;have c4:=cell_of eO.aV 4 (v:=.pointer (some ⟨w.heap.size,0,none⟩)) rfl;have f1:=aw eO.prog.aV 1;have HFR:=hid (And.intro eO qL);have HFD:Hid (FR w.heap.size (w.heap.size+1) w.heap.size s (Sp.skip s.data.toList) 0 Bf w3.drew):=FX.drew (r:=.ok (Sp.skip s.data.toList)) eO;clear eO qL HF;go_wp2_with fail
  go_cut [] from 6 (fun wd=>SO w s (LO s) wd)
  case first =>
   go_region_with (go_at_call 66;refine(Ej HFD.out).mono ?_;rintro e w4 ⟨k,p',rfl,h4,k4,g4⟩;obtain⟨i',a',t',o',Yr,DS⟩:=h4.Ln;have c4':=cell_of DS 4 (v:=.pointer (some ⟨w.heap.size,0,none⟩)) rfl;have d1:=cell_of h4.prog.aV 1 (v:=.int .i64 0) rfl;have f1':=aw h4.prog.aV 1;have H4:Hid (_/\_/\_):=And.intro h4 (And.intro k4 g4);clear h4 k4 g4 DS)
   all_goals
    go_wp2_with fail;go_meet;exact⟨k,p',w4,H4.1,H4.2.2,(HFR.2.drew).trans (H4.2.1.below HFD.prog (by omega) (by have:=HFR.2.size;exact this)),rfl⟩
  case rest =>
   clear c4 f1 HFR HFD;obtain⟨HB,c4,cK⟩:=PF hcut;have PY:=hid hcut;have mw:=hid HB;clear hcut HB;generalize wc=wo at *
   rcases aU:LO s with er | ⟨fs,l1⟩
   ·rw[aU]at cK
    simp only[left]at cK;obtain⟨hz,c6,c2⟩:=cK;obtain⟨q,hq⟩:∃q:Int,Hid (q=(er.1:Int)):=⟨_,fK _⟩;obtain⟨pl,Kc⟩:∃pl:Int,Hid (pl=((s.size - er.2:Nat):Int)):=⟨_,fK _⟩;have gT:¬ q=0:=by rw[hq.out];omega
    have ek:(q == 0)=false:=by simpa using gT
    rw[<-hq.out]at c6;rw[<-Kc.out]at c2;have HT:Hid (Sp.tree s.data.toList=.error (er.1,s.data.toList.length - er.2)):=LA HS.out aU;clear hz aU PY;go_wp2_with fail
    go_region_with (fail)
    all_goals
     go_wp2_with fail;try simp only[Exit.inBlock,Exit.then]
     refine bodyPost_ret (v:=.tuple #[.pointer none,.int .i64 q,.int .i64 pl]) (by simp[results,results40,go_sem]) rfl ?_;unfold gY;rw[HT.out];exact⟨mw.drew,by rw[hq.out,Kc.out];simp⟩
   ·rw[aU]at cK
    simp only[left]at cK;obtain⟨hl,i,t,o,hb⟩:=cK;have c6:=cell_of hb 6 (v:=.int .i64 0) rfl;by_cases uT:l1=[]
    ·subst uT
     have c2:=cell_of hb 2 (v:=.int .i64 ((s.size:Nat):Int)) rfl;have HT:Hid (Sp.tree s.data.toList=.ok (aP fs)):=PU HS.out aU;have hcc:=PY.out;rw[aU]at hcc;obtain⟨pt,d2,f2,Dy⟩:=MT hcc;have HP:=hid Dy;clear aU PY hcc Dy;go_wp2_with fail
     go_cut [] from 6 (fun wc=>wc=(wo.setCell ⟨w.heap.size,2,none⟩ (.int .i64 (RowKit.wrap64 (pt+1)))).drew)
     case first =>
      go_region_with (fail)
      all_goals
       go_wp2_with fail;go_meet;rw[IntWalk.i64_left]
     case rest =>
      have DS:wc.heap[w.heap.size+1]?=some (.cells (ch s i ((s.size - ([]:Sp.Bs).length:Nat):Int) t w.heap.size o 0) 174):=by rw[hcut];exact(Below.heap_setCell _ _ _ _ (by simp)).trans hb
      have c4':=cell_of DS 4 (v:=.pointer (some ⟨w.heap.size,0,none⟩)) rfl;have kD:Hid (Below w.heap.size w wc):=by unfold Hid;rw[hcut];exact(mw.setCell (p:=⟨w.heap.size,2,none⟩) (Nat.le_refl _) _).drew
      have HP2:Hid (yD w.heap.size w.heap.size (aP fs) wc):=by unfold Hid;rw[hcut];exact HP.out
      clear hcut DS c4 d2 f2 c6 c2 hb HP mw;go_wp2_with fail;try simp only[Exit.inBlock,Exit.then]
      refine bodyPost_ret (v:=.tuple #[.pointer (some ⟨w.heap.size,0,none⟩),.int .i64 0,.int .i64 0]) (by simp[results,results40,go_sem]) rfl ?_;unfold gY;rw[HT.out];exact⟨kD.out,_,rfl,Nat.le_refl _,HP2.out⟩
    ·obtain⟨pl,Kc⟩:∃pl:Int,Hid (pl=((s.size - l1.length:Nat):Int)):=⟨_,fK _⟩
     have c2:=cell_of hb 2 (v:=.int .i64 pl) (by rw[Kc.out];rfl);have dj:pl<(s.size:Int):=by have:0<l1.length:=List.length_pos_iff.2 uT;rw[Kc.out];omega
     have HT:Hid (Sp.tree s.data.toList=.error (2,s.data.toList.length - l1.length)):=IY HS.out uT aU;have HW:=Jx hb;have xz:w.heap.size+1<wo.heap.size:=ah hb;clear aU PY uT;go_wp2_with fail;refine HW.mono ?_;rintro e w5⟨rfl,rfl⟩;clear HW;have kD:Hid (Below w.heap.size w (wo.setCell ⟨w.heap.size+1,6,none⟩ (.int .i64 2))):=mw.setCell (p:=⟨w.heap.size+1,6,none⟩) (by simp) _;go_wp2_with fail
     go_region_with (fail)
     all_goals
      go_wp2_with fail;try simp only[Exit.inBlock,Exit.then]
      refine bodyPost_ret (v:=.tuple #[.pointer none,.int .i64 2,.int .i64 pl]) (by simp[results,results40,go_sem]) rfl ?_;unfold gY;rw[HT.out];exact⟨kD.drew,by rw[Kc.out];simp⟩
end
end
end Go.Proofs.YtiopfihjmkfdmaaGreatDoor
