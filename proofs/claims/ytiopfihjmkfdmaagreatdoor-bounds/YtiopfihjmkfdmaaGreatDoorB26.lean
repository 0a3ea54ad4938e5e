import Derived.Test.YtiopfihjmkfdmaaGreatDoorB21
namespace Go.Proofs.YtiopfihjmkfdmaaGreatDoor
open Go.Proofs.Tryz Sp
open Go.RowKit
set_option maxRecDepth 100000
set_option maxHeartbeats 16000000
section
section
variable{base b pb op:Nat}
variable{s:ByteArray}
variable{p p':FP}
variable{w w':Wd}
theorem FE.asks{er:Nat × Nat}(h:FE base b pb s er p w):∃(q:Int) (t:ByteArray),w.cell? ⟨b,6,none⟩=some (.int .i64 q)/\(q == 0)=false/\¬ q=0/\w.cell? ⟨b,3,none⟩=some (.string t):=by obtain⟨i,l0,o,hb,_⟩:=h.aV;have:=h.nz;exact⟨er.1,_,cell_of hb 6 rfl,by simp;omega,by omega,cell_of hb 3 rfl⟩
theorem Ac(base b pb:Nat)(s:ByteArray):yM 175 base b pb s 0:=by
 intro er p w h;obtain⟨q,t,c6,hz,ek,c3⟩:=h.asks;go_enter func175,ntmps175;go_wp2_with fail;refine(wL base b pb s er p w h).mono ?_;rintro e w1⟨rfl,rfl⟩;go_wp2_with fail
 go_loopw [3] (fun a wr=>a=.int .i64 0/\wr=w1) (fun _ _=>0)
 case atStart=>exact⟨rfl,rfl⟩
 case round =>
  obtain⟨rfl,rfl⟩:=hrel;go_wp2_with fail;go_ret;exact⟨rfl,rfl⟩
def z6(base b pb:Nat)(s:ByteArray)(o:Nat)(p0:FP)(l0:Sp.Bs)(w0:Wd)(lv:Nat)(u:Sp.Bs->Sp.R Sm)(fin:Sp.R Sm)(k:Int)(w:Wd):Prop :=
 ∃(cur:Sp.R Sm) (p:FP),FX base b pb s (left cur) (o:Int) p w/\FK b pb p0 p w0 w/\ik p0 p l0 k cur/\jP lv u fin cur
theorem FX.drew{r:Except (Nat × Nat) Sp.Bs}{o:Int}(h:FX base b pb s r o p w):FX base b pb s r o p w.drew:=h.after (Below.refl _ _).drew
theorem FK.drew(h:FK b pb p p' w w'):FK b pb p p' w w'.drew:=⟨h.os,h.tape,h.output,h.size,h.jF,h.kF,h.block⟩
theorem oV{l:Sp.Bs}{k:Int}{r:Sp.R Sm}(g:ik p p' l k r)(hl:eQ p l):p'.ns.length+1<=1000000:=by
 obtain⟨h1,h2,_⟩:=hl
 rcases r with e | ⟨x,l1⟩
 ·have:=(show du p p' l from g).2;omega
 ·have:=g.1.nl;omega
theorem j5{x:Sm}{r:Sp.R Sm}{o:Int}(h:FX base b pb s (left r) o p w):FX base b pb s (left (roundOf op x r)) o p w:=by rcases r with e | ⟨y,l⟩<;>exact h
theorem lQ{x y:Sm}{l l':Sp.Bs}{u:Sp.Bs->Sp.R Sm}(cW:∀l x l1,u l=.ok (x,l1)->l1.length<=l.length)(ia:eb (Sp.tok l)=some op)(h:roundOf op x (u (Sp.next l))=.ok (y,l')):l'.length<l.length:=by
 have hn:=fC ia
 rcases hu:u (Sp.next l) with e | ⟨z,l1⟩
 ·rw[hu]at h;cases h
 ·rw[hu]at h
  have:=cW _ _ _ hu;cases h
  omega
theorem oF(base b pb:Nat)(s:ByteArray)(o n:Nat)(u:Sp.Bs->Sp.R Sm)(cW:∀l x l1,u l=.ok (x,l1)->l1.length<=l.length)(hr:lh 210 base b pb s o n u):lh 175 base b pb s o n (ov Tr u):=by
 intro l p w hl h hlim;have HR:=hid hr;have HD:Hid (∀l x l1,u l=.ok (x,l1)->l1.length<=l.length):=cW;have hE:Hid (ov Tr u l=bL Tr 1 u l):=rfl;clear hr cW;go_enter func175,ntmps175;go_wp2_with fail;refine(HR.out l p w hl h hlim).mono ?_;rintro e w1⟨k,p1,rfl,h1,k1,g1⟩;have HC:Hid (z6 base b pb s o p l w 1 u (bL Tr 1 u l) k w1):=⟨u l,p1,h1,k1,g1,tC⟩;clear h1 k1 g1 h;go_wp2_with fail
 go_loopw [3] (fun a wr=>∃k:Int,a=.int .i64 k/\Hid (z6 base b pb s o p l w 1 u (bL Tr 1 u l) k wr)) (fun _ wr=>nG b s wr)
 case atStart=>exact⟨k,rfl,HC⟩
 case round =>
  obtain⟨k,rfl,ml⟩:=hrel;obtain⟨cur,pc,hx,hk,hg,tL⟩:=ml.out
  rcases cur with er | ⟨x,lc⟩
  ·obtain⟨q,t,c6,hz,ek,c3⟩:=FE.asks (show FE base b pb s er pc wr from hx)
   have HF:Hid (iF base b pb s o p l w (ov Tr u l) (.returned (.int .i64 k)) wr):=by unfold Hid;rw[hE.out,tm tL];exact⟨k,pc,rfl,hx,hk,hg⟩
   clear hx hk hg tL ml HC;go_wp2_with fail;go_ret;exact HF.out
  ·have eO:FR base b pb s lc (o:Int) pc wr:=hx
   obtain⟨c6,c3,dI,uP⟩:=eO.asks;by_cases ia:Sp.tok lc=[42]∨Sp.tok lc=[47]∨Sp.tok lc=[37]
   ·have XX:lc.length<=l.length:=by have:=hg.1.nl;have:=hg.1.len;omega
    have ND:Hid (eQ pc lc):=hg.1.DI hlim;have HW:=hid eO.rest
    rcases ia with ht | ht | ht
    ·have ia:eb (Sp.tok lc)=some 2:=by rw[ht];rfl
     have HG:Hid (ik p pc l k (.ok (x,lc))/\eb (Sp.tok lc)=some 2/\Sp.tok lc=[42]/\jP 1 u (bL Tr 1 u l) (roundOf 2 x (u (Sp.next lc)))):=⟨hg,ia,ht,jY tL ia rfl HD.out⟩;have eV:=fC ia;have HL:Hid (eQ pc (Sp.next lc)):=(bQ.xC (by omega)).DI ND.out;rw[ht]at c3;clear ia ht dI tL hg hx ml HC ND;go_wp2_with fail;refine(dP eO).mono ?_;rintro e w2⟨rfl,h2,k2⟩;go_wp2_with fail;refine(HR.out (Sp.next lc) pc w2 (by omega) h2 HL.out).mono ?_;rintro e w3⟨k3,p3,rfl,h3,DA,g3⟩;have iw:=oV g3 HL.out;have H3:Hid (_/\_/\_):=⟨h3,DA,g3⟩;clear h3 DA g3;go_wp2_with fail;refine(lJ H3.1 k k3 (-1) [42] iw).mono ?_;rintro e w4⟨rfl,v,h4,k4⟩;have G:=mg (v:=v) (n:={ kind:=4,a:=k,b:=k3,sign:=[42],site:=(-1) }) HG.1 HG.2.1 rfl rfl rfl H3.2.2 rfl rfl rfl HG.2.2.1.symm rfl;have AZ:FX base b pb s (left (roundOf 2 x (u (Sp.next lc)))) (o:Int) _ w4:=j5 h4;have cK:=AZ.pd (m:=lc.length) (fun y l' e=>lQ HD.out HG.2.1 e);have ym:Hid (z6 base b pb s o p l w 1 u (bL Tr 1 u l) (p3.ns.length:Nat) w4):=⟨_,_,AZ,((hk.trans k2).trans H3.2.1).trans k4,G,HG.2.2.2⟩;clear G AZ h4 k4;go_wp2_with fail;exact⟨⟨_,rfl,ym⟩,by rw[HW.out];omega⟩
    ·have ia:eb (Sp.tok lc)=some 3:=by rw[ht];rfl
     have HG:Hid (ik p pc l k (.ok (x,lc))/\eb (Sp.tok lc)=some 3/\Sp.tok lc=[47]/\jP 1 u (bL Tr 1 u l) (roundOf 3 x (u (Sp.next lc)))):=⟨hg,ia,ht,jY tL ia rfl HD.out⟩;have eV:=fC ia;have c4:=cell_of eO.aV 4 (v:=.pointer (some ⟨pb,0,none⟩)) rfl;have d3:=cell_of eO.prog.aV 3 (v:=.int .i64 pc.ct.2) rfl;have f3:=aw eO.prog.aV 3;obtain⟨iv,fM⟩:=FX.iX (r:=.ok lc) (p':={ pc with ct:=Sp.aL pc.ct }) eO 3 (.int .i64 (RowKit.wrap64 (pc.ct.2+1))) (AG eO.prog.aV _) rfl rfl rfl rfl;have HS:Hid (FR base b pb s lc (o:Int) { pc with ct:=Sp.aL pc.ct } (wr.setCell ⟨pb,3,none⟩ (.int .i64 (RowKit.wrap64 (pc.ct.2+1)))).drew/\FK b pb pc { pc with ct:=Sp.aL pc.ct } wr (wr.setCell ⟨pb,3,none⟩ (.int .i64 (RowKit.wrap64 (pc.ct.2+1)))).drew):=⟨FX.drew (r:=.ok lc) iv,fM.drew⟩;have HL:Hid (eQ { pc with ct:=Sp.aL pc.ct } (Sp.next lc)):=(bQ.xC (p:={ pc with ct:=Sp.aL pc.ct }) (l:=lc) (by omega)).DI ND.out;rw[ht]at c3;clear ia ht dI tL hg hx ml HC ND iv fM;go_wp2_with fail
     go_region_with (fail)
     all_goals
      go_wp2_with fail;refine(dP HS.1).mono ?_;rintro e w2⟨rfl,h2,k2⟩;go_wp2_with fail;refine(HR.out (Sp.next lc) { pc with ct:=Sp.aL pc.ct } w2 (by omega) h2 HL.out).mono ?_;rintro e w3⟨k3,p3,rfl,h3,DA,g3⟩;have iw:=oV g3 HL.out;have H3:Hid (_/\_/\_):=⟨h3,DA,g3⟩;clear h3 DA g3;go_wp2_with fail;refine(lJ H3.1 k k3 pc.ct.2 [47] iw).mono ?_;rintro e w4⟨rfl,v,h4,k4⟩;have G:=mg (p2:={ pc with ct:=Sp.aL pc.ct }) (v:=v) (n:={ kind:=4,a:=k,b:=k3,sign:=[47],site:=pc.ct.2 }) HG.1 HG.2.1 rfl rfl rfl H3.2.2 rfl rfl rfl HG.2.2.1.symm rfl;have AZ:FX base b pb s (left (roundOf 3 x (u (Sp.next lc)))) (o:Int) _ w4:=j5 h4;have cK:=AZ.pd (m:=lc.length) (fun y l' e=>lQ HD.out HG.2.1 e);have ym:Hid (z6 base b pb s o p l w 1 u (bL Tr 1 u l) (p3.ns.length:Nat) w4):=⟨_,_,AZ,((hk.trans (HS.2.trans k2)).trans H3.2.1).trans k4,G,HG.2.2.2⟩;clear G AZ h4 k4;go_wp2_with fail;exact⟨⟨_,rfl,ym⟩,by rw[HW.out];omega⟩
    ·have ia:eb (Sp.tok lc)=some 4:=by rw[ht];rfl
     have HG:Hid (ik p pc l k (.ok (x,lc))/\eb (Sp.tok lc)=some 4/\Sp.tok lc=[37]/\jP 1 u (bL Tr 1 u l) (roundOf 4 x (u (Sp.next lc)))):=⟨hg,ia,ht,jY tL ia rfl HD.out⟩;have eV:=fC ia;have c4:=cell_of eO.aV 4 (v:=.pointer (some ⟨pb,0,none⟩)) rfl;have d3:=cell_of eO.prog.aV 3 (v:=.int .i64 pc.ct.2) rfl;have f3:=aw eO.prog.aV 3;obtain⟨iv,fM⟩:=FX.iX (r:=.ok lc) (p':={ pc with ct:=Sp.aL pc.ct }) eO 3 (.int .i64 (RowKit.wrap64 (pc.ct.2+1))) (AG eO.prog.aV _) rfl rfl rfl rfl;have HS:Hid (FR base b pb s lc (o:Int) { pc with ct:=Sp.aL pc.ct } (wr.setCell ⟨pb,3,none⟩ (.int .i64 (RowKit.wrap64 (pc.ct.2+1)))).drew/\FK b pb pc { pc with ct:=Sp.aL pc.ct } wr (wr.setCell ⟨pb,3,none⟩ (.int .i64 (RowKit.wrap64 (pc.ct.2+1)))).drew):=⟨FX.drew (r:=.ok lc) iv,fM.drew⟩;have HL:Hid (eQ { pc with ct:=Sp.aL pc.ct } (Sp.next lc)):=(bQ.xC (p:={ pc with ct:=Sp.aL pc.ct }) (l:=lc) (by omega)).DI ND.out;rw[ht]at c3;clear ia ht dI tL hg hx ml HC ND iv fM;go_wp2_with fail
     go_region_with (fail)
     all_goals
      go_wp2_with fail;refine(dP HS.1).mono ?_;rintro e w2⟨rfl,h2,k2⟩;go_wp2_with fail;refine(HR.out (Sp.next lc) { pc with ct:=Sp.aL pc.ct } w2 (by omega) h2 HL.out).mono ?_;rintro e w3⟨k3,p3,rfl,h3,DA,g3⟩;have iw:=oV g3 HL.out;have H3:Hid (_/\_/\_):=⟨h3,DA,g3⟩;clear h3 DA g3;go_wp2_with fail;refine(lJ H3.1 k k3 pc.ct.2 [37] iw).mono ?_;rintro e w4⟨rfl,v,h4,k4⟩;have G:=mg (p2:={ pc with ct:=Sp.aL pc.ct }) (v:=v) (n:={ kind:=4,a:=k,b:=k3,sign:=[37],site:=pc.ct.2 }) HG.1 HG.2.1 rfl rfl rfl H3.2.2 rfl rfl rfl HG.2.2.1.symm rfl;have AZ:FX base b pb s (left (roundOf 4 x (u (Sp.next lc)))) (o:Int) _ w4:=j5 h4;have cK:=AZ.pd (m:=lc.length) (fun y l' e=>lQ HD.out HG.2.1 e);have ym:Hid (z6 base b pb s o p l w 1 u (bL Tr 1 u l) (p3.ns.length:Nat) w4):=⟨_,_,AZ,((hk.trans (HS.2.trans k2)).trans H3.2.1).trans k4,G,HG.2.2.2⟩;clear G AZ h4 k4;go_wp2_with fail;exact⟨⟨_,rfl,ym⟩,by rw[HW.out];omega⟩
   ·have gI:Hid (bL Tr 1 u l=.ok (x,lc)):=vS tL (fun op ho=>by
     unfold eb at ho;rw[if_neg (fun e=>ia (.inl e)),if_neg (fun e=>ia (.inr (.inl e))),if_neg (fun e=>ia (.inr (.inr e)))]at ho;split at ho
     ·cases ho;simp[cL]
     ·split at ho
      ·cases ho;simp[cL]
      ·cases ho)
    have HF:Hid (iF base b pb s o p l w (ov Tr u l) (.returned (.int .i64 k)) wr):=by unfold Hid;rw[hE.out,gI.out];exact⟨k,pc,rfl,hx,hk,hg⟩
    have n1:((⟨(Sp.tok lc).toArray⟩:ByteArray).toList == [42])=false:=by rw[ByteArray.toList_eq];simpa using fun e=>ia (.inl e)
    have n2:((⟨(Sp.tok lc).toArray⟩:ByteArray).toList == [47])=false:=by rw[ByteArray.toList_eq];simpa using fun e=>ia (.inr (.inl e))
    have n3:((⟨(Sp.tok lc).toArray⟩:ByteArray).toList == [37])=false:=by rw[ByteArray.toList_eq];simpa using fun e=>ia (.inr (.inr e))
    generalize (⟨(Sp.tok lc).toArray⟩:ByteArray)=t at *;clear hx hk hg tL ml HC ia eO;go_wp2_with fail;go_ret;exact HF.out
end
end
section
section
variable{b pb N base j:Nat}
variable{n n' d:aJ}
variable{p p' p0:FP}
variable{w w' w0:Wd}
variable{s:ByteArray}
variable{o o':Int}
structure xQ(b pb N:Nat)(n:aJ)(p:FP)(w:Wd):Prop where
 aV:w.heap[N]?=some (.cells (cw n).toArray 176)
 rn:p.nv.ownBlock≠some N
 rq:p.qv.ownBlock≠some N
 nb:N≠b
 np:N≠pb
theorem xQ.bF(h:xQ b pb N n p w)(k:FK b pb p p' w w'):xQ b pb N n p' w':=by
 have dj:=ah h.aV;refine⟨by rw[k.block N dj h.nb h.np h.rn h.rq];exact h.aV,fun e=>?_,fun e=>?_,h.nb,h.np⟩
 ·rcases k.jF N e with e' | e'
  ·exact h.rn e'
  ·omega
 ·rcases k.kF N e with e' | e'
  ·exact h.rq e'
  ·omega
theorem xQ.set(h:xQ b pb N n p w)(c:Nat)(u:Value)(hu:(cw n).set c u=cw n'):xQ b pb N n' p (w.setCell ⟨N,c,none⟩ u):=by refine⟨?_,h.rn,h.rq,h.nb,h.np⟩;rw[ai h.aV c u,<-hu];simp
theorem FX.other{r:Except (Nat × Nat) Sp.Bs}(h:FX base b pb s r o p w)(x:xQ b pb N n p w)(c:Nat)(u:Value):FX base b pb s r o p (w.setCell ⟨N,c,none⟩ u):=by
 have hp:=h.prog;refine h.move (Below.heap_setCell _ _ _ _ (Ne.symm x.nb)) ⟨?_,?_,?_,hp.ge,hp.n5,hp.q5⟩
 ·rw[Below.heap_setCell _ _ _ _ (Ne.symm x.np)];exact hp.aV
 ·exact aZ hp.jF (fun g hg=>Below.heap_setCell _ _ _ _ (fun e=>x.rn (by rw[<-show g=N from e];exact hg)))
 ·exact aZ hp.kF (fun g hg=>Below.heap_setCell _ _ _ _ (fun e=>x.rq (by rw[<-show g=N from e];exact hg)))
theorem FK.new(h:FK b pb p p' w w')(hN:w.heap.size<=N)(c:Nat)(u:Value):FK b pb p p' w (w'.setCell ⟨N,c,none⟩ u) :=
 ⟨h.os,h.tape,h.output,by have:=h.size;simp[World.setCell];omega,h.jF,h.kF,fun k hk h1 h2 h3 h4=>by rw[Below.heap_setCell _ _ _ _ (fun e=>by have:k=N:=e;omega)];exact h.block k hk h1 h2 h3 h4⟩
structure hH(base b pb N:Nat)(s:ByteArray)(r:Except (Nat × Nat) Sp.Bs)(o:Int)(p0 p:FP)(w0:Wd)(n:aJ)(w:Wd):Prop where
 fx:FX base b pb s r o p w
 fk:FK b pb p0 p w0 w
 box:xQ b pb N n p w
 new:w0.heap.size<=N
theorem hH.call{r r':Except (Nat × Nat) Sp.Bs}(h:hH base b pb N s r o p0 p w0 n w)(hx:FX base b pb s r' o' p' w')(hk:FK b pb p p' w w'):hH base b pb N s r' o' p0 p' w0 n w' :=
 ⟨hx,h.fk.trans hk,h.box.bF hk,h.new⟩
theorem hH.set{r:Except (Nat × Nat) Sp.Bs}(h:hH base b pb N s r o p0 p w0 n w)(c:Nat)(u:Value)(hu:(cw n).set c u=cw n'):hH base b pb N s r o p0 p w0 n' (w.setCell ⟨N,c,none⟩ u) :=
 ⟨h.fx.other h.box c u,h.fk.new h.new c u,h.box.set c u hu,h.new⟩
theorem hH.drew{r:Except (Nat × Nat) Sp.Bs}(h:hH base b pb N s r o p0 p w0 n w):hH base b pb N s r o p0 p w0 n w.drew :=
 ⟨h.fx.drew,h.fk.drew,⟨h.box.aV,h.box.rn,h.box.rq,h.box.nb,h.box.np⟩,h.new⟩
theorem xQ.cell(h:xQ b pb N n p w)(c:Nat){u:Value}(hu:(cw n)[c]?=some u):w.cell? ⟨N,c,none⟩=some u/\w.frozen? ⟨N,c,none⟩=false :=
 ⟨cell_of h.aV c (by simpa using hu),aw h.aV c⟩
theorem hH.start{r:Except (Nat × Nat) Sp.Bs}(n:aJ)(hx:FX base b pb s r o p w)(hk:FK b pb p0 p w0 w):hH base b pb w.heap.size s r o p0 p w0 n (w.alloc (.cells (cw n).toArray 176)):=by
 have hB:Below w.heap.size w (w.alloc (.cells (cw n).toArray 176)):=(Below.refl _ _).alloc (Nat.le_refl _) _;obtain⟨_,_,_,_,_,hb⟩:=hx.Ln;refine⟨hx.after hB,hk.trans (FK.aB hB),⟨heap_alloc_new _ _,fun e=>?_,fun e=>?_,?_,?_⟩,hk.size⟩
 ·have:=(bj hx.prog.jF _ e).2.1;omega
 ·have:=(bj hx.prog.kF _ e).2.1;omega
 ·have:=ah hb;omega
 ·have:=ah hx.prog.aV;omega
theorem hH.facts{r:Except (Nat × Nat) Sp.Bs}(h:hH base b pb N s r o p0 p w0 n w)(hd:p.ns[j]?=some d) :
  ∃g cap,p.nv=.slice (some ⟨g,0,none⟩) p.ns.length cap/\p.ns.length<=cap/\cap<=maxLen/\p.ns.length<=1000000/\j<p.ns.length/\w.cell? ⟨b,4,none⟩=some (.pointer (some ⟨pb,0,none⟩))/\w.cell? ⟨pb,0,none⟩=some (.slice (some ⟨g,0,none⟩) p.ns.length cap) /\
   (w.cell? ⟨N,0,none⟩=some (.int .i64 n.kind)/\w.cell? ⟨N,1,none⟩=some (.int .i64 n.a)/\w.cell? ⟨N,2,none⟩=some (.int .i64 n.b)/\w.cell? ⟨N,3,none⟩=some (.int .i64 n.c)/\w.cell? ⟨N,4,none⟩=some (.int .i64 n.n)/\w.cell? ⟨N,5,none⟩=some (.int .i64 n.next)/\w.cell? ⟨N,6,none⟩=some (.string ⟨n.sign.toArray⟩)/\w.cell? ⟨N,7,none⟩=some (.int .i64 n.site)/\w.cell? ⟨N,8,none⟩=some (.int .i64 n.aA)/\w.cell? ⟨N,9,none⟩=some (.bool n.els)) /\
   (w.cell? ⟨g,j*10,none⟩=some (.int .i64 d.kind)/\w.cell? ⟨g,j*10+1,none⟩=some (.int .i64 d.a)/\w.cell? ⟨g,j*10+2,none⟩=some (.int .i64 d.b)/\w.cell? ⟨g,j*10+3,none⟩=some (.int .i64 d.c)/\w.cell? ⟨g,j*10+4,none⟩=some (.int .i64 d.n)/\w.cell? ⟨g,j*10+5,none⟩=some (.int .i64 d.next)/\w.cell? ⟨g,j*10+6,none⟩=some (.string ⟨d.sign.toArray⟩)/\w.cell? ⟨g,j*10+7,none⟩=some (.int .i64 d.site)/\w.cell? ⟨g,j*10+8,none⟩=some (.int .i64 d.aA)/\w.cell? ⟨g,j*10+9,none⟩=some (.bool d.els)) /\
   (w.frozen? ⟨g,j*10,none⟩=false/\w.frozen? ⟨g,j*10+1,none⟩=false/\w.frozen? ⟨g,j*10+2,none⟩=false/\w.frozen? ⟨g,j*10+3,none⟩=false/\w.frozen? ⟨g,j*10+4,none⟩=false/\w.frozen? ⟨g,j*10+5,none⟩=false/\w.frozen? ⟨g,j*10+6,none⟩=false/\w.frozen? ⟨g,j*10+7,none⟩=false/\w.frozen? ⟨g,j*10+8,none⟩=false/\w.frozen? ⟨g,j*10+9,none⟩=false):=by
 have hj:=(List.getElem?_eq_some_iff.1 hd).1;have hp:=h.fx.prog;obtain⟨g,cap,hv,h1,h2⟩:=hp.slice (by omega);obtain⟨_,_,_,_,_,hb⟩:=h.fx.Ln;have c:=fun {c:Nat} {u:Value} (hc:c<10) (hu:(cw d)[c]?=some u)=>hp.cells hv hd hc hu
 have e:=fun(c:Nat) {u:Value} (hu:(cw n)[c]?=some u)=>(h.box.cell c hu).1
 refine⟨g,cap,hv,h1,h2,hp.n5,hj,cell_of hb 4 rfl,?_,⟨e 0 rfl,e 1 rfl,e 2 rfl,e 3 rfl,e 4 rfl,e 5 rfl,e 6 rfl,e 7 rfl,e 8 rfl,e 9 rfl⟩,⟨(c (c:=0) (by omega) rfl).1,(c (c:=1) (by omega) rfl).1,(c (c:=2) (by omega) rfl).1,(c (c:=3) (by omega) rfl).1,(c (c:=4) (by omega) rfl).1,(c (c:=5) (by omega) rfl).1,(c (c:=6) (by omega) rfl).1,(c (c:=7) (by omega) rfl).1,(c (c:=8) (by omega) rfl).1,(c (c:=9) (by omega) rfl).1⟩,⟨(c (c:=0) (by omega) rfl).2,(c (c:=1) (by omega) rfl).2,(c (c:=2) (by omega) rfl).2,(c (c:=3) (by omega) rfl).2,(c (c:=4) (by omega) rfl).2,(c (c:=5) (by omega) rfl).2,(c (c:=6) (by omega) rfl).2,(c (c:=7) (by omega) rfl).2,(c (c:=8) (by omega) rfl).2,(c (c:=9) (by omega) rfl).2⟩⟩;rw[<-hv];exact cell_of hp.aV 0 rfl
def qY(w:Wd)(g q:Nat)(n:aJ):Wd:=(((((((((w.setCell ⟨g,q,none⟩ (.int .i64 n.kind)).setCell ⟨g,q+1,none⟩ (.int .i64 n.a)).setCell ⟨g,q+2,none⟩ (.int .i64 n.b)).setCell ⟨g,q+3,none⟩ (.int .i64 n.c)).setCell ⟨g,q+4,none⟩ (.int .i64 n.n)).setCell ⟨g,q+5,none⟩ (.int .i64 n.next)).setCell ⟨g,q+6,none⟩ (.string ⟨n.sign.toArray⟩)).setCell ⟨g,q+7,none⟩ (.int .i64 n.site)).setCell ⟨g,q+8,none⟩ (.int .i64 n.aA)).setCell ⟨g,q+9,none⟩ (.bool n.els)
theorem jX{r:Except (Nat × Nat) Sp.Bs}(h:FX base b pb s r o p w){g cap:Nat}(n:aJ)(hv:p.nv=.slice (some ⟨g,0,none⟩) p.ns.length cap)(hd:p.ns[j]?=some d) :
  FX base b pb s r o { p with ns:=p.ns.set j n } (qY w g (j*10) n)/\FK b pb p { p with ns:=p.ns.set j n } w (qY w g (j*10) n):=by
 have hj:=(List.getElem?_eq_some_iff.1 hd).1;have step:∀{p':FP} {w':Wd} {d1:aJ} (c:Nat) (u:Value) (d2:aJ),p'={ p with ns:=p.ns.set j d1 }->FX base b pb s r o p' w'/\FK b pb p p' w w'->c<10->(cw d1).set c u=cw d2 ->
   FX base b pb s r o { p with ns:=p.ns.set j d2 } (w'.setCell ⟨g,j*10+c,none⟩ u)/\FK b pb p { p with ns:=p.ns.set j d2 } w (w'.setCell ⟨g,j*10+c,none⟩ u):=by
  intro p' w' d1 c u d2 e hh hc hu;subst e;obtain⟨h1,k1⟩:=hh;obtain⟨h2,k2⟩:=h1.wY (j:=j) (c:=c) (u:=u) (d:=d1) (d':=d2) (by simpa using hv) (List.getElem?_set_self hj) hc hu;simp only[List.set_set]at h2 k2;exact⟨h2,k1.trans k2⟩
 obtain⟨h0,k0⟩:=h.wY (c:=0) (u:=.int .i64 n.kind) (d':={ d with kind:=n.kind }) hv hd (by omega) rfl;have s1:=step 1 (.int .i64 n.a) { d with kind:=n.kind,a:=n.a } rfl ⟨h0,k0⟩ (by omega) rfl;have s2:=step 2 (.int .i64 n.b) { d with kind:=n.kind,a:=n.a,b:=n.b } rfl s1 (by omega) rfl;have s3:=step 3 (.int .i64 n.c) { d with kind:=n.kind,a:=n.a,b:=n.b,c:=n.c } rfl s2 (by omega) rfl;have s4:=step 4 (.int .i64 n.n) { d with kind:=n.kind,a:=n.a,b:=n.b,c:=n.c,n:=n.n } rfl s3 (by omega) rfl;have s5:=step 5 (.int .i64 n.next) { d with kind:=n.kind,a:=n.a,b:=n.b,c:=n.c,n:=n.n,next:=n.next } rfl s4 (by omega) rfl;have s6:=step 6 (.string ⟨n.sign.toArray⟩) { d with kind:=n.kind,a:=n.a,b:=n.b,c:=n.c,n:=n.n,next:=n.next,sign:=n.sign } rfl s5 (by omega) rfl;have s7:=step 7 (.int .i64 n.site) { n with aA:=d.aA,els:=d.els } rfl s6 (by omega) rfl;have s8:=step 8 (.int .i64 n.aA) { n with els:=d.els } rfl s7 (by omega) rfl;exact step 9 (.bool n.els) n rfl s8 (by omega) rfl
end
end
section
theorem Dl(base b pb:Nat)(s:ByteArray):yM 135 base b pb s 0:=by
 intro er p w h;obtain⟨q,t,c6,hz,ek,c3⟩:=h.asks;go_enter func135,ntmps135;go_wp2_with fail;refine(Ac base b pb s er p w h).mono ?_;rintro e w1⟨rfl,rfl⟩;go_wp2_with fail
 go_loopw [3] (fun a wr=>a=.int .i64 0/\wr=w1) (fun _ _=>0)
 case atStart=>exact⟨rfl,rfl⟩
 case round =>
  obtain⟨rfl,rfl⟩:=hrel;go_wp2_with fail;go_ret;exact⟨rfl,rfl⟩
theorem wG(base b pb:Nat)(s:ByteArray)(o n:Nat)(u:Sp.Bs->Sp.R Sm)(cW:∀l x l1,u l=.ok (x,l1)->l1.length<=l.length)(hr:lh 175 base b pb s o n u):lh 135 base b pb s o n (bL Tr 0 u):=by
 intro l p w hl h hlim;have HR:=hid hr;have HD:Hid (∀l x l1,u l=.ok (x,l1)->l1.length<=l.length):=cW;clear hr cW;go_enter func135,ntmps135;go_wp2_with fail;refine(HR.out l p w hl h hlim).mono ?_;rintro e w1⟨k,p1,rfl,h1,k1,g1⟩;have HC:Hid (z6 base b pb s o p l w 0 u (bL Tr 0 u l) k w1):=⟨u l,p1,h1,k1,g1,tC⟩;clear h1 k1 g1 h;go_wp2_with fail
 go_loopw [3] (fun a wr=>∃k:Int,a=.int .i64 k/\Hid (z6 base b pb s o p l w 0 u (bL Tr 0 u l) k wr)) (fun _ wr=>nG b s wr)
 case atStart=>exact⟨k,rfl,HC⟩
 case round =>
  obtain⟨k,rfl,ml⟩:=hrel;obtain⟨cur,pc,hx,hk,hg,tL⟩:=ml.out
  rcases cur with er | ⟨x,lc⟩
  ·obtain⟨q,t,c6,hz,ek,c3⟩:=FE.asks (show FE base b pb s er pc wr from hx)
   have HF:Hid (iF base b pb s o p l w (bL Tr 0 u l) (.returned (.int .i64 k)) wr):=by unfold Hid;rw[tm tL];exact⟨k,pc,rfl,hx,hk,hg⟩
   clear hx hk hg tL ml HC;go_wp2_with fail;go_ret;exact HF.out
  ·have eO:FR base b pb s lc (o:Int) pc wr:=hx
   obtain⟨c6,c3,dI,uP⟩:=eO.asks;by_cases ia:Sp.tok lc=[43]∨Sp.tok lc=[45]
   ·have XX:lc.length<=l.length:=by have:=hg.1.nl;have:=hg.1.len;omega
    have ND:Hid (eQ pc lc):=hg.1.DI hlim;have HW:=hid eO.rest
    rcases ia with ht | ht
    ·have ia:eb (Sp.tok lc)=some 0:=by rw[ht];rfl
     have HG:Hid (ik p pc l k (.ok (x,lc))/\eb (Sp.tok lc)=some 0/\Sp.tok lc=[43]/\jP 0 u (bL Tr 0 u l) (roundOf 0 x (u (Sp.next lc)))):=⟨hg,ia,ht,jY tL ia rfl HD.out⟩;have eV:=fC ia;have HL:Hid (eQ pc (Sp.next lc)):=(bQ.xC (by omega)).DI ND.out;rw[ht]at c3;clear ia ht dI tL hg hx ml HC ND;go_wp2_with fail;refine(dP eO).mono ?_;rintro e w2⟨rfl,h2,k2⟩;go_wp2_with fail;refine(HR.out (Sp.next lc) pc w2 (by omega) h2 HL.out).mono ?_;rintro e w3⟨k3,p3,rfl,h3,DA,g3⟩;have iw:=oV g3 HL.out;have H3:Hid (_/\_/\_):=⟨h3,DA,g3⟩;clear h3 DA g3;go_wp2_with fail;refine(lJ H3.1 k k3 (-1) [43] iw).mono ?_;rintro e w4⟨rfl,v,h4,k4⟩;have G:=mg (v:=v) (n:={ kind:=4,a:=k,b:=k3,sign:=[43],site:=(-1) }) HG.1 HG.2.1 rfl rfl rfl H3.2.2 rfl rfl rfl HG.2.2.1.symm rfl;have AZ:FX base b pb s (left (roundOf 0 x (u (Sp.next lc)))) (o:Int) _ w4:=j5 h4;have cK:=AZ.pd (m:=lc.length) (fun y l' e=>lQ HD.out HG.2.1 e);have ym:Hid (z6 base b pb s o p l w 0 u (bL Tr 0 u l) (p3.ns.length:Nat) w4):=⟨_,_,AZ,((hk.trans k2).trans H3.2.1).trans k4,G,HG.2.2.2⟩;clear G AZ h4 k4;go_wp2_with fail;exact⟨⟨_,rfl,ym⟩,by rw[HW.out];omega⟩
    ·have ia:eb (Sp.tok lc)=some 1:=by rw[ht];rfl
     have HG:Hid (ik p pc l k (.ok (x,lc))/\eb (Sp.tok lc)=some 1/\Sp.tok lc=[45]/\jP 0 u (bL Tr 0 u l) (roundOf 1 x (u (Sp.next lc)))):=⟨hg,ia,ht,jY tL ia rfl HD.out⟩;have eV:=fC ia;have HL:Hid (eQ pc (Sp.next lc)):=(bQ.xC (by omega)).DI ND.out;rw[ht]at c3;clear ia ht dI tL hg hx ml HC ND;go_wp2_with fail;refine(dP eO).mono ?_;rintro e w2⟨rfl,h2,k2⟩;go_wp2_with fail;refine(HR.out (Sp.next lc) pc w2 (by omega) h2 HL.out).mono ?_;rintro e w3⟨k3,p3,rfl,h3,DA,g3⟩;have iw:=oV g3 HL.out;have H3:Hid (_/\_/\_):=⟨h3,DA,g3⟩;clear h3 DA g3;go_wp2_with fail;refine(lJ H3.1 k k3 (-1) [45] iw).mono ?_;rintro e w4⟨rfl,v,h4,k4⟩;have G:=mg (v:=v) (n:={ kind:=4,a:=k,b:=k3,sign:=[45],site:=(-1) }) HG.1 HG.2.1 rfl rfl rfl H3.2.2 rfl rfl rfl HG.2.2.1.symm rfl;have AZ:FX base b pb s (left (roundOf 1 x (u (Sp.next lc)))) (o:Int) _ w4:=j5 h4;have cK:=AZ.pd (m:=lc.length) (fun y l' e=>lQ HD.out HG.2.1 e);have ym:Hid (z6 base b pb s o p l w 0 u (bL Tr 0 u l) (p3.ns.length:Nat) w4):=⟨_,_,AZ,((hk.trans k2).trans H3.2.1).trans k4,G,HG.2.2.2⟩;clear G AZ h4 k4;go_wp2_with fail;exact⟨⟨_,rfl,ym⟩,by rw[HW.out];omega⟩
   ·have gI:Hid (bL Tr 0 u l=.ok (x,lc)):=vS tL (fun op ho=>by
     unfold eb at ho;rw[if_neg (fun e=>ia (.inl e)),if_neg (fun e=>ia (.inr e))]at ho
     repeat' split at ho
     all_goals first | (cases ho;simp[cL]) | cases ho)
    have HF:Hid (iF base b pb s o p l w (bL Tr 0 u l) (.returned (.int .i64 k)) wr):=by unfold Hid;rw[gI.out];exact⟨k,pc,rfl,hx,hk,hg⟩
    have n1:((⟨(Sp.tok lc).toArray⟩:ByteArray).toList == [43])=false:=by rw[ByteArray.toList_eq];simpa using fun e=>ia (.inl e)
    have n2:((⟨(Sp.tok lc).toArray⟩:ByteArray).toList == [45])=false:=by rw[ByteArray.toList_eq];simpa using fun e=>ia (.inr e)
    generalize (⟨(Sp.tok lc).toArray⟩:ByteArray)=t at *;clear hx hk hg tL ml HC ia eO;go_wp2_with fail;go_ret;exact HF.out
end
section
theorem BM{base b pb:Nat}{s:ByteArray}{o:Nat}{u:Sp.Bs->Sp.R Sm}{p p1:FP}{l:Sp.Bs}{k:Int}{w w':Wd}
  (g:∀l1,Sp.enter [40] o l=.ok l1->ik p p1 l1 k (u l1)) (he:∀e,Sp.enter [40] o l=.error e->p1=p) (ht:Sp.tok l=[40])
  (h5:FX base b pb s (((Sp.enter [40] o l).bind fun l=>left (u l)).bind (Sp.take [41])) (o:Int) p1 w') (k5:FK b pb p p1 w w') :
  iF base b pb s o p l w (bZ Tr u o l) (.returned (.int .i64 k)) w':=by
 have eV:=aI ht (by simp);refine⟨_,_,rfl,?_,k5,?_⟩
 ·cases hq:Sp.enter [40] o l with
  | error e=>rw[hq]at h5;unfold bZ;rw[hq];exact h5
  | ok l1 =>
   rw[hq]at h5;unfold bZ;rw[hq];simp only[Except.bind]at h5 ⊢;cases hu:u l1 with
   | error e=>rw[hu]at h5;exact h5
   | ok xl =>
    rw[hu]at h5;simp only[left]at h5 ⊢;cases AY:Sp.take [41] xl.2 with
    | error e=>rw[AY]at h5;exact h5
    | ok l3=>rw[AY]at h5;exact h5
 ·cases hq:Sp.enter [40] o l with
  | error e =>unfold bZ;rw[hq];show du p p1 l;rw[he e hq];exact du.refl _ _
  | ok l1 =>
   obtain⟨_,_,uT⟩:=cE hq;have g1:=g l1 hq;unfold bZ;rw[hq];simp only;cases hu:u l1 with
   | error e =>rw[hu]at g1;exact du.more (l1:=l1) g1 (by rw[uT];omega)
   | ok xl =>
    obtain⟨x,l2⟩:=xl;rw[hu]at g1;obtain⟨m1,hj,DU⟩:=g1;have hm:bQ p p1 l l2:=(bQ.xC (by rw[uT];omega)).trans m1;simp only;cases AY:Sp.take [41] l2 with
    | error e =>exact du.rl hm
    | ok l3 =>obtain⟨_,h3⟩:=bU AY;exact⟨hm.trans (bQ.xC (by rw[h3];exact cj _)),hj,DU⟩
theorem xJ(base b pb:Nat)(s:ByteArray)(o n:Nat)(ho:o<=12)(hr:o<12->lh 135 base b pb s (o+1) n (mO Tr (bo Tr n (o+1))))(hi:yM 135 base b pb s 0)
  (l:Sp.Bs) (p:FP) (w:Wd) (hl:l.length<n+1) (h:FR base b pb s l (o:Int) p w) (hlim:eQ p l) (ht:Sp.tok l=[40]) :
  Calls prog 210 #[.pointer (some ⟨b,0,none⟩)] w (iF base b pb s o p l w (bo Tr (n+1) o l)):=by
 obtain⟨c6,c3,dI,uP⟩:=h.asks;have hE:Hid (bo Tr (n+1) o l=bZ Tr (mO Tr (bo Tr n (o+1))) o l):=by unfold Hid;rw[fX,if_neg (mJ ht).1,if_neg (mJ ht).2,if_neg (by rw[ht];simp)]
 have HN:Hid (∀w,Calls prog 129 #[.string ⟨[40].toArray⟩] w fun e w'=>e=.returned (.bool (aR l).isSome)/\w'=w):=by rw[<-ht];exact dm l uP
 have eV:=aI ht (by simp);rw[ht]at c3 dI;have P8:Hid (∀l1,Sp.enter [40] o l=.ok l1->l1=Sp.next l/\o<12):=fun l1 e=>by obtain⟨_,h2,h3⟩:=cE e;exact⟨h3,by omega⟩
 have HR:=hid hr;have HI:=hid hi;have HT:=hid ht;clear hr ht hi;go_enter func210,ntmps210;go_wp2_with fail;refine(gk _ dI _).mono ?_;rintro e w1⟨rfl,rfl⟩;go_wp2_with fail;refine(HN.out _).mono ?_;rintro e w1⟨rfl,rfl⟩;go_wp2_with fail;refine(Az ho h [40]).mono ?_;rintro e w2⟨rfl,h2,k2⟩;go_wp2_with fail;refine(wX (o:=o+1) (n:=n) (u:=mO Tr (bo Tr n (o+1))) (fun l1 e1=>by obtain⟨e2,e3⟩:=P8.out l1 e1;refine⟨HR.out e3,by rw[e2];omega,?_⟩;rw[e2];exact(bQ.xC (by omega)).DI hlim) HI.out h2).mono ?_
 rintro e w3⟨k,p1,rfl,h3,k3,g3,e3⟩;have G3:=hid (And.intro g3 e3);clear g3 e3;go_wp2_with fail;refine(Gv (by omega) h3 [41]).mono ?_;rintro e w4⟨rfl,h4,k4⟩;go_wp2_with fail;go_ret;rw[hE.out];exact BM G3.1 G3.2 HT.out h4 ((k2.trans k3).trans k4)
theorem Eu(base b pb:Nat)(s:ByteArray)(o n:Nat)
  (l:Sp.Bs) (p:FP) (w:Wd) (h:FR base b pb s l (o:Int) p w) (hlim:eQ p l) (kk:Nat) (hv:aR l=some kk) :
  Calls prog 210 #[.pointer (some ⟨b,0,none⟩)] w (iF base b pb s o p l w (bo Tr (n+1) o l)):=by
 obtain⟨c6,c3,dI,uP⟩:=h.asks;obtain⟨c,ht,rL,DC,rM,rfl⟩:=dK hv;have hE:Hid (bo Tr (n+1) o l=.ok (.name (c.toNat - 97),Sp.next l)):=by unfold Hid;rw[fX,if_neg (by omega),if_pos rL,iz hv];rfl
 have hfv:Hid (nU [c]=-1):=by unfold Hid;rw[<-ht];exact vV (by omega)
 have HN:Hid (∀w,Calls prog 129 #[.string ⟨[c].toArray⟩] w fun e w'=>e=.returned (.bool true)/\w'=w):=by have:=dm l uP;rw[ht,hv]at this;exact this
 have eV:=aI ht (by simp);obtain⟨t,et,iv,hx⟩:=oq c;have HV:Hid (∀w,Calls prog 238 #[.string t] w fun e w'=>e=.returned (.int .i64 (-1))/\w'=w):=by intro w;have:=gk t (by omega) w;rw[et]at this ⊢;rw[show(⟨[c].toArray⟩:ByteArray).data.toList=[c] from rfl,hfv.out]at this;exact this
 rw[ht,<-et]at c3;rw[<-et]at HN;have h0:0<t.size:=by omega
 have FY:(97:Int)<=(t[0].toNat:Int)/\(t[0].toNat:Int)<=104:=by rw[hx];omega
 have aU:Hid (((c.toNat - 97:Nat):Int)=(t[0].toNat:Int) - 97):=by unfold Hid;rw[hx];omega
 have Xr:(t.toList == [45])=false/\(t.toList == [40])=false:=by
  rw[ByteArray.toList_eq,et];constructor
  ·simp;intro e;subst e;simp at rM
  ·simp;intro e;subst e;simp at rM
 obtain⟨nd1,nd2⟩:=Xr;clear hx et ht hv rL dI;go_enter func210,ntmps210;go_wp2_with fail;refine(HV.out _).mono ?_;rintro e w1⟨rfl,rfl⟩;go_wp2_with fail;refine(HN.out _).mono ?_;rintro e w1⟨rfl,rfl⟩;go_wp2_with fail;refine(dP h).mono ?_;rintro e w2⟨rfl,h2,k2⟩;go_wp2_with fail;refine(eL (r:=.ok (Sp.next l)) h2 { kind:=2,n:=(t[0].toNat:Int) - 97 } (by have:=hlim.1;omega)).mono ?_;rintro e w3⟨rfl,v,h3,k3⟩;go_wp2_with fail;go_ret;rw[hE.out];have hm:bQ p p l (Sp.next l):=bQ.xC (by omega);refine⟨_,_,rfl,h3,k2.trans k3,hm.node _ v (by omega),⟨p.ns.length,rfl,by simp,?_⟩,by show p.qs=p.qs ++ [];simp⟩;exact⟨_,by simp;rfl,rfl,by rw[aU.out],by omega,Nat.le_refl _,rfl⟩
end
section
section
variable{base b pb o k rel:Nat}
variable{s:ByteArray}
variable{l t l1:Sp.Bs}
variable{w w':Wd}
theorem rh(base b pb:Nat)(s:ByteArray):∀(n o:Nat),o<=12->lh 210 base b pb s o n (bo Tr n o)
 | 0,_,_=>fun l _ _ hl=>absurd hl (Nat.not_lt_zero _)
 | n+1,o,ho=>by
  intro l p w hl h hlim;have IH:o<12->lh 210 base b pb s (o+1) n (bo Tr n (o+1)):=fun rR=>rh base b pb s n (o+1) (by omega)
  by_cases S1:Sp.tok l=[45]
  ·exact Dq base b pb s o n ho IH l p w hl h hlim S1
  by_cases TO:Sp.tok l=[40]
  ·refine xJ base b pb s o n ho (fun rR=>?_) (Dl base b pb s) l p w hl h hlim TO
   have hd:∀l (x:Sm) l1,bo Tr n (o+1) l=.ok (x,l1)->l1.length<=l.length:=fun l x l1 e=>by have:=iH (A:=Tr) n (o+1) l x l1 e;omega
   exact wG base b pb s (o+1) n (ov Tr (bo Tr n (o+1))) (fun l x l1 e=>sJ (A:=Tr) hd l x l1 e) (oF base b pb s (o+1) n _ hd (IH rR))
  by_cases hk:aC l=3
  ·cases hv:fE (Sp.tok l) with
   | some v=>exact AO base b pb s o n l p w h hlim hk v hv
   | none =>
    have Yu:aR l=none:=by
     cases hq:aR l with
     | none=>rfl
     | some q=>have:=eZ hq;omega
    refine td base b pb s o n l p w h S1 TO (by rw[sO hk,hv]) Yu ?_;show bo Tr (n+1) o l=_;rw[fX,if_pos hk,hv];rfl
  ·cases hv:aR l with
   | some k=>exact Eu base b pb s o n l p w h hlim k hv
   | none =>
    refine td base b pb s o n l p w h S1 TO (vV hk) hv ?_;show bo Tr (n+1) o l=_;rw[fX,if_neg hk];by_cases zr:aC l=2
    ·rw[if_pos zr,jN hv]
    ·rw[if_neg zr,if_neg S1]
     unfold bZ Sp.enter;rw[if_neg TO];rfl
theorem LP(base b pb:Nat)(s:ByteArray)(o:Nat)(ho:o<=12)(n:Nat):lh 135 base b pb s o n (mO Tr (bo Tr n o)):=by
 have hd:∀l (x:Sm) l1,bo Tr n o l=.ok (x,l1)->l1.length<=l.length:=fun l x l1 e=>by have:=iH (A:=Tr) n o l x l1 e;omega
 exact wG base b pb s o n (ov Tr (bo Tr n o)) (fun l x l1 e=>sJ (A:=Tr) hd l x l1 e) (oF base b pb s o n _ hd (rh base b pb s n o ho))
theorem vK{o:Nat}(ho:o<=12){p:FP}(h:FR base b pb s l (o:Int) p w)(hl:eQ p l) :
  Calls prog 135 #[.pointer (some ⟨b,0,none⟩)] w (iF base b pb s o p l w (Sp.pS Tr o l)):=LP base b pb s o ho (l.length+1) l p w (by omega) h hl
def tE(p p':FP)(l:Sp.Bs)(k:Int):Sp.R (Nat × Sm × Sm)->Prop
 | .ok ((rel,x,y),l')=>bQ p p' l l'/\(∃j:Nat,k=(j:Int)/\j<p'.ns.length/\xH p'.ns p.ns.length rel x y j p.ct p'.ct)/\p'.qs=p.qs ++ (ft x ++ ft y)
 | .error _=>du p p' l
def Nn(base b pb:Nat)(s:ByteArray)(o:Nat)(p:FP)(l:Sp.Bs)(w:Wd)(r:Sp.R (Nat × Sm × Sm))(e:Ending)(w':Wd):Prop :=
 ∃(k:Int) (p':FP),e=.returned (.int .i64 k)/\FX base b pb s (left r) (o:Int) p' w'/\FK b pb p p' w w'/\tE p p' l k r
def EF(o:Nat):Sp.R Sm->Sp.R (Nat × Sm × Sm)
 | .ok (x,l1)=>(match dQ (Sp.tok l1) with
  | some k=>(match Sp.pS Tr o (Sp.next l1) with
   | .ok (y,l2)=>.ok ((k,x,y),l2)
   | .error e=>.error e)
  | none=>.error (2,l1.length))
 | .error e=>.error e
def QC(A:eW)(o:Nat):Sp.R A.S->Sp.R (Nat × A.S × A.S)
 | .ok (x,l1)=>(match dQ (Sp.tok l1) with
  | some k=>(match Sp.pS A o (Sp.next l1) with
   | .ok (y,l2)=>.ok ((k,x,y),l2)
   | .error e=>.error e)
  | none=>Sp.bad 2 l1)
 | .error e=>.error e
theorem JR(A:eW)(o:Nat)(l:Sp.Bs):bn A o l=QC A o (Sp.pS A o l):=by
 unfold bn
 rcases Sp.pS A o l with e | ⟨x,l1⟩
 ·rfl
 ·rfl
theorem vk(o:Nat)(l:Sp.Bs):bn Tr o l=EF o (Sp.pS Tr o l):=by
 rw[JR]
 rcases Sp.pS Tr o l with e | ⟨x,l1⟩
 ·rfl
 ·unfold QC EF
  simp only;cases dQ (Sp.tok l1) with
  | none=>rfl
  | some k=>simp only;rcases Sp.pS Tr o (Sp.next l1) with e | ⟨y,l2⟩<;>rfl
theorem kO(h:dQ t=some k):t=[60]/\k=0∨t=[60,61]/\k=1∨t=[61,61]/\k=2∨t=[33,61]/\k=3∨t=[62,61]/\k=4∨t=[62]/\k=5:=by
 unfold dQ at h
 repeat' split at h
 all_goals first | (rename_i he;cases h;simp[he]) | cases h
theorem Le{p p1 p3:FP}{k k3:Int}{x:Sm}{n:aJ}{v:Value}(hS:Sp.pS Tr o l=.ok (x,l1))(hrel:dQ (Sp.tok l1)=some rel)(ha:n.a=k)(hb:n.b=k3)(hs:n.sign=Sp.tok l1)
  (g1:ik p p1 l k (.ok (x,l1))) (g3:ik p1 p3 (Sp.next l1) k3 (Sp.pS Tr o (Sp.next l1)))
  (h5:FX base b pb s (left (Sp.pS Tr o (Sp.next l1))) (o:Int) { p3 with ns:=p3.ns ++ [n],nv:=v } w') (k5:FK b pb p { p3 with ns:=p3.ns ++ [n],nv:=v } w w') :
  Nn base b pb s o p l w (bn Tr o l) (.returned (.int .i64 (p3.ns.length:Nat))) w':=by
 rw[vk,hS];obtain⟨m1,⟨j,yf,Hz,DL⟩,q1⟩:=g1;have eV:(Sp.next l1).length<l1.length:=aI (t:=Sp.tok l1) rfl (by rcases kO hrel with⟨e,_⟩ | ⟨e,_⟩ | ⟨e,_⟩ | ⟨e,_⟩ | ⟨e,_⟩ | ⟨e,_⟩<;>rw[e]<;>simp);refine⟨_,_,rfl,?_,k5,?_⟩
 ·show FX base b pb s (left (match dQ (Sp.tok l1) with
   | some k=>(match Sp.pS Tr o (Sp.next l1) with
    | .ok (y,l2)=>.ok ((k,x,y),l2)
    | .error e=>.error e)
   | none=>.error (2,l1.length):Sp.R (Nat × Sm × Sm))) _ _ _
  rw[hrel]
  rcases hq:Sp.pS Tr o (Sp.next l1) with e | ⟨y,l2⟩
  ·rw[hq]at h5;exact h5
  ·rw[hq]at h5;exact h5
 ·show tE _ _ _ _ (match dQ (Sp.tok l1) with
   | some k=>(match Sp.pS Tr o (Sp.next l1) with
    | .ok (y,l2)=>.ok ((k,x,y),l2)
    | .error e=>.error e)
   | none=>.error (2,l1.length))
  rw[hrel]
  rcases hq:Sp.pS Tr o (Sp.next l1) with e | ⟨y,l2⟩
  ·rw[hq]at g3
   exact du.made m1 (du.node (l1:=Sp.next l1) g3 eV n v)
  ·rw[hq]at g3
   obtain⟨m2,⟨j2,i1,i2,i3⟩,q2⟩:=g3;have hlen:=m2.len;have WK:=m1.len;have hm:bQ p p3 l l2:=(m1.trans (bQ.xC (by omega))).trans m2;refine⟨hm.node n v (by have:=m1.nl;have:=m2.nl;omega),⟨p3.ns.length,rfl,by simp,?_⟩,by show p3.qs=_;rw[q2,q1,List.append_assoc]⟩;refine⟨n,j,j2,p1.ct,by simp,by rw[ha,yf],by rw[hb,i1],?_,?_,by omega,i2,DL.mono (Nat.le_refl _) (fun i _ hi=>?_),i3.mono WK (fun i _ hi=>?_)⟩
   ·rw[hs];rcases kO hrel with⟨e,e'⟩ | ⟨e,e'⟩ | ⟨e,e'⟩ | ⟨e,e'⟩ | ⟨e,e'⟩ | ⟨e,e'⟩<;>rw[e,e']<;>rfl
   ·rcases kO hrel with⟨e,e'⟩ | ⟨e,e'⟩ | ⟨e,e'⟩ | ⟨e,e'⟩ | ⟨e,e'⟩ | ⟨e,e'⟩<;>omega
   ·show(p3.ns ++ [n])[i]?=_
    rw[List.getElem?_append_left (by omega)];exact m2.at (by omega)
   ·show(p3.ns ++ [n])[i]?=_
    rw[List.getElem?_append_left (by omega)]
theorem oK{o:Nat}(ho:o<=12){p:FP}(h:FR base b pb s l (o:Int) p w)(hl:eQ p l) :
  Calls prog 133 #[.pointer (some ⟨b,0,none⟩)] w (Nn base b pb s o p l w (bn Tr o l)):=by
 have HS:=vK ho h hl
 rcases hS:Sp.pS Tr o l with er | ⟨x,l1⟩
 ·rw[hS]at HS
  have HE:Hid (bn Tr o l=.error er):=by unfold Hid;rw[vk,hS];rfl
  have WV:=hid HS;clear HS hS h;go_enter func133,ntmps133;go_wp2_with fail;refine WV.mono ?_;rintro e w1⟨k,p1,rfl,h1,k1,g1⟩;obtain⟨q,t,c6,hz,ek,c3⟩:=FE.asks (show FE base b pb s er p1 w1 from h1);have H1:Hid (_/\_/\_):=⟨h1,k1,g1⟩;clear h1 k1 g1;go_wp2_with fail;go_ret;rw[HE.out];exact⟨0,p1,rfl,H1.1,H1.2.1,H1.2.2⟩
 ·rw[hS]at HS
  have WV:=hid HS;have HSS:=hid hS;clear HS hS h;cases hrel:dQ (Sp.tok l1) with
  | none =>
   have HE:Hid (bn Tr o l=.error (2,l1.length)):=by unfold Hid;rw[vk,HSS.out];simp only[EF,hrel];rfl
   have db:∀t∈[[60],[60,61],[61,61],[33,61],[62,61],[62]],Sp.tok l1≠t:=by
    intro t ht e;rw[e]at hrel;simp at ht
    rcases ht with rfl | rfl | rfl | rfl | rfl | rfl<;>simp[dQ]at hrel
   have n1:((⟨(Sp.tok l1).toArray⟩:ByteArray).toList == [60])=false:=by rw[ByteArray.toList_eq];simpa using db [60] (by simp)
   have n2:((⟨(Sp.tok l1).toArray⟩:ByteArray).toList == [60,61])=false:=by rw[ByteArray.toList_eq];simpa using db [60,61] (by simp)
   have n3:((⟨(Sp.tok l1).toArray⟩:ByteArray).toList == [61,61])=false:=by rw[ByteArray.toList_eq];simpa using db [61,61] (by simp)
   have n4:((⟨(Sp.tok l1).toArray⟩:ByteArray).toList == [33,61])=false:=by rw[ByteArray.toList_eq];simpa using db [33,61] (by simp)
   have n5:((⟨(Sp.tok l1).toArray⟩:ByteArray).toList == [62,61])=false:=by rw[ByteArray.toList_eq];simpa using db [62,61] (by simp)
   have n6:((⟨(Sp.tok l1).toArray⟩:ByteArray).toList == [62])=false:=by rw[ByteArray.toList_eq];simpa using db [62] (by simp)
   clear db hrel;go_enter func133,ntmps133;go_wp2_with fail;refine WV.mono ?_;rintro e w1⟨k,p1,rfl,h1,k1,g1⟩;have eO:FR base b pb s l1 (o:Int) p1 w1:=h1;obtain⟨c6,c3,dI,uP⟩:=eO.asks;have H1:Hid (_/\_/\_):=⟨h1,k1,g1⟩;have HB:Hid (⟨(Sp.tok l1).toArray⟩=(⟨(Sp.tok l1).toArray⟩:ByteArray)):=rfl;clear h1 k1 g1 WV HSS dI HB;generalize (⟨(Sp.tok l1).toArray⟩:ByteArray)=t at *;go_wp2_with fail;refine(oC eO 2 (by decide) 2 rfl).mono ?_;rintro e w2⟨rfl,h2,k2⟩;obtain⟨q,t2,c62,hz,ek,c32⟩:=h2.asks;go_wp2_with fail;go_ret;rw[HE.out];exact⟨0,p1,rfl,h2,H1.2.1.trans k2,du.rl H1.2.2.1⟩
  | some rel =>
   have ZQ:=hid hrel
   rcases kO hrel with⟨ht,_⟩ | ⟨ht,_⟩ | ⟨ht,_⟩ | ⟨ht,_⟩ | ⟨ht,_⟩ | ⟨ht,_⟩
   all_goals
    have HT:=hid ht;have eV:=aI ht (by simp);clear hrel;go_enter func133,ntmps133;go_wp2_with fail;refine WV.mono ?_;rintro e w1⟨k,p1,rfl,h1,k1,g1⟩;have eO:FR base b pb s l1 (o:Int) p1 w1:=h1;obtain⟨c6,c3,dI,uP⟩:=eO.asks;rw[ht]at c3;have HL:Hid (eQ p1 (Sp.next l1)):=(g1.1.trans (bQ.xC (by omega))).DI hl;have H1:Hid (_/\_/\_):=⟨h1,k1,g1⟩;clear h1 k1 g1 dI ht;go_wp2_with fail;refine(dP eO).mono ?_;rintro e w2⟨rfl,h2,k2⟩;go_wp2_with fail;refine(vK ho h2 HL.out).mono ?_;rintro e w3⟨k3,p3,rfl,h3,DA,g3⟩;have iw:=oV g3 HL.out;have H3:Hid (_/\_/\_):=⟨h3,DA,g3⟩;clear h3 DA g3;go_wp2_with fail;refine(eL H3.1 { kind:=5,a:=k,b:=k3,sign:=_ } iw).mono ?_;rintro e w4⟨rfl,v,h4,k4⟩;go_wp2_with fail;go_ret;exact Le HSS.out ZQ.out rfl rfl HT.symm H1.2.2 H3.2.2 h4 (((H1.2.1.trans k2).trans H3.2.1).trans k4)
end
end
section
section
variable{l l1 lc:Sp.Bs}
variable{p pc p':FP}
variable{first last:Int}
def RX(j hi:Nat)(ns:List aJ)(d:aJ)(ct:Ct)(f:Bl->Bl)(ct1:Ct):Prop :=
 ∀(qM:List aJ) (q:Int) (rest:Bl) (bh:Ct) (lo nZ:Nat),lo<=j->hi<=nZ->(∀i,j<i->i<hi->qM[i]?=ns[i]?)->qM[j]?=some { d with next:=q }->ji qM lo nZ rest q ct1 bh->ji qM lo nZ (f rest) (j:Int) ct bh
def nF(p p':FP)(l:Sp.Bs):Sp.R (Bl->Bl)->Prop
 | .ok (f,l')=>bQ p p' l l'/\(∃d,p'.ns[p.ns.length]?=some d/\d.next=-1/\RX p.ns.length p'.ns.length p'.ns d p.ct f p'.ct)/\∃qf,p'.qs=p.qs ++ qf/\∀rest,di (f rest)=qf ++ di rest
 | .error _=>du p p' l
def mB(base b pb:Nat)(s:ByteArray)(o:Nat)(p:FP)(l:Sp.Bs)(w:Wd)(r:Sp.R (Bl->Bl))(e:Ending)(w':Wd):Prop :=
 ∃(p':FP),e=.returned (.int .i64 (p.ns.length:Nat))/\FX base b pb s (left r) (o:Int) p' w'/\FK b pb p p' w w'/\nF p p' l r
def mR(base b pb:Nat)(s:ByteArray)(o n:Nat)(st:Sp.Bs->Sp.R (Bl->Bl)):Prop :=
 ∀(l:Sp.Bs) (p:FP) (w:Wd),l.length<n->FR base b pb s l (o:Int) p w->eQ p l->cN l=true->Calls prog 99 #[.pointer (some ⟨b,0,none⟩)] w (mB base b pb s o p l w (st l))
def IQ(fs:List (Bl->Bl))(rest:Bl):Bl:=fs.foldr (fun f x=>f x) rest
theorem Lm(fs:List (Bl->Bl)):IQ fs .nil=aP fs:=rfl
theorem sB(fs:List (Bl->Bl))(f:Bl->Bl)(rest:Bl):IQ (fs ++ [f]) rest=IQ fs (f rest):=by unfold IQ;rw[List.foldr_append];rfl
def nK(p p':FP)(l:Sp.Bs)(k:Int):Sp.R (List (Bl->Bl))->Prop
 | .ok (fs,l')=>bQ p p' l l'/\ji p'.ns p.ns.length p'.ns.length (aP fs) k p.ct p'.ct/\p'.qs=p.qs ++ di (aP fs)
 | .error _=>du p p' l
def Aq(base b pb:Nat)(s:ByteArray)(o:Nat)(p:FP)(l:Sp.Bs)(w:Wd)(r:Sp.R (List (Bl->Bl)))(e:Ending)(w':Wd):Prop :=
 ∃(k:Int) (p':FP),e=.returned (.int .i64 k)/\FX base b pb s (left r) (o:Int) p' w'/\FK b pb p p' w w'/\nK p p' l k r
def Fl(p pc:FP)(l:Sp.Bs)(first last:Int):Sp.R (List (Bl->Bl))->Prop
 | .error _=>du p pc l
 | .ok (fs,lc)=>bQ p pc l lc/\(∃qf,pc.qs=p.qs ++ qf/\∀rest,di (IQ fs rest)=qf ++ di rest) /\
   ((fs=[]/\first=-1/\last=-1/\pc.ns.length=p.ns.length/\pc.ct=p.ct) ∨
    (first=(p.ns.length:Int)/\∃(j:Nat) (d:aJ),last=(j:Int)/\p.ns.length<=j/\j<pc.ns.length/\pc.ns[j]?=some d/\d.next=-1 /\
     ∀(qM:List aJ) (q:Int) (rest:Bl) (bh:Ct) (nZ:Nat),pc.ns.length<=nZ->(∀i,p.ns.length<=i->i<pc.ns.length->i≠j->qM[i]?=pc.ns[i]?)->qM[j]?=some { d with next:=q }->ji qM p.ns.length nZ rest q pc.ct bh->ji qM p.ns.length nZ (IQ fs rest) (p.ns.length:Int) p.ct bh))
def ve(st:Sp.Bs->Sp.R (Bl->Bl))(fin:Sp.R (List (Bl->Bl))):Sp.R (List (Bl->Bl))->Prop
 | .ok (fs,l)=>∃m,l.length<m/\fin=dh Tr st m fs l
 | .error e=>fin=.error e
def nh(fs:List (Bl->Bl)):Sp.R (Bl->Bl)->Sp.R (List (Bl->Bl))
 | .ok (f,l)=>.ok (fs ++ [f],l)
 | .error e=>.error e
theorem D6(A:eW)(st:Sp.Bs->Sp.R A.T)(m:Nat)(fs:List A.T)(l:Sp.Bs)(hb:cN l=false):dh A st (m+1) fs l=.ok (fs,l):=by rw[dh,if_neg (by rw[hb];simp)]
theorem Cd{st:Sp.Bs->Sp.R (Bl->Bl)}{fin:Sp.R (List (Bl->Bl))}{fs:List (Bl->Bl)}(h:ve st fin (.ok (fs,l)))(hb:cN l=false):fin=.ok (fs,l):=by
 obtain⟨m,hm,e⟩:=h;cases m with
 | zero=>omega
 | succ m=>rw[e];exact D6 Tr st m fs l hb
theorem zg(A:eW)(st:Sp.Bs->Sp.R A.T)(m:Nat)(fs:List A.T)(l:Sp.Bs)(hb:cN l=true):dh A st (m+1) fs l=(match st l with
  | .ok (x,l1)=>dh A st m (fs ++ [x]) l1
  | .error e=>.error e):=by
 rw[dh,if_pos hb];rfl
theorem Nf(A:eW)(st:Sp.Bs->Sp.R A.T)(m:Nat)(fs:List A.T)(l:Sp.Bs)(hb:cN l=true){f:A.T}(h:st l=.ok (f,l1)):dh A st (m+1) fs l=dh A st m (fs ++ [f]) l1:=by rw[zg A st m fs l hb,h]
theorem Cr(A:eW)(st:Sp.Bs->Sp.R A.T)(m:Nat)(fs:List A.T)(l:Sp.Bs)(hb:cN l=true){e:Nat × Nat}(h:st l=.error e):dh A st (m+1) fs l=.error e:=by rw[zg A st m fs l hb,h]
theorem Bt{st:Sp.Bs->Sp.R (Bl->Bl)}{fin:Sp.R (List (Bl->Bl))}{fs:List (Bl->Bl)}(h:ve st fin (.ok (fs,l)))(hb:cN l=true)(cW:∀l f l1,st l=.ok (f,l1)->l1.length<l.length):ve st fin (nh fs (st l)):=by
 obtain⟨m,hm,e⟩:=h;cases m with
 | zero=>omega
 | succ m =>
  rcases hs:st l with er | ⟨f,l1⟩
  ·show fin=_
   rw[e];exact Cr Tr st m fs l hb hs
  ·have:=cW _ _ _ hs
   exact⟨m,by omega,by rw[e];exact Nf Tr st m fs l hb hs⟩
theorem EM{fs:List (Bl->Bl)}{r:Sp.R (Bl->Bl)}(h:Fl p pc l first last (.ok (fs,lc)))(hf:first<0)(g:nF pc p' lc r):Fl p p' l (pc.ns.length:Int) (pc.ns.length:Int) (nh fs r):=by
 obtain⟨m1,⟨qf,hq,hn⟩,hc⟩:=h
 rcases hc with⟨rfl,_,_,hlen,Uw⟩ | ⟨h1,_⟩
 ·rcases r with e | ⟨f,l1⟩
  ·exact du.made m1 g
  ·obtain⟨m2,⟨d,hd,Yl,gI⟩,qf2,uS,DX⟩:=g
   refine⟨m1.trans m2,⟨qf ++ qf2,by rw[uS,hq,List.append_assoc],fun rest=>?_⟩,.inr ⟨by rw[hlen],pc.ns.length,d,rfl,by omega,?_,hd,Yl,?_⟩⟩
   ·rw[sB]
    have e1:=hn (f rest);rw[e1,DX,List.append_assoc]
   ·exact(List.getElem?_eq_some_iff.1 hd).1
   ·intro qM q rest bh nZ Hy hag Kd hb
    have:=gI qM q rest bh p.ns.length nZ (by omega) Hy (fun i h1 h2=>hag i (by omega) h2 (by omega)) Kd hb;rw[Uw,hlen]at this;exact this
 ·omega
theorem Il{fs:List (Bl->Bl)}{j:Nat}{dl:aJ}{r:Sp.R (Bl->Bl)}(h:Fl p pc l first (j:Int) (.ok (fs,lc)))(hf:¬ first<0)(g:nF pc p' lc r)(Ur:p'.ns[j]?=some dl) :
  Fl p { p' with ns:=p'.ns.set j { dl with next:=(pc.ns.length:Int) } } l first (pc.ns.length:Int) (nh fs r):=by
 obtain⟨m1,⟨qf,hq,hn⟩,hc⟩:=h
 rcases hc with⟨_,h1,_⟩ | ⟨h1,j',d,hj,yf,Hz,hd,Yl,uj⟩
 ·omega
 ·have ej:j'=j:=by omega
  subst ej
  rcases r with e | ⟨f,l1⟩
  ·obtain⟨⟨ex,hex⟩,g2⟩:=du.made m1 g
   refine⟨⟨ex.set (j' - p.ns.length) { dl with next:=(pc.ns.length:Int) },?_⟩,by simpa using g2⟩;show p'.ns.set j' _=_;rw[hex,List.set_append_right _ _ yf]
  ·obtain⟨m2,⟨d2,Ob,Zj,gI⟩,qf2,uS,DX⟩:=g
   have DE:=(List.getElem?_eq_some_iff.1 Ob).1;have edl:dl=d:=by rw[m2.at Hz,hd]at Ur;exact(Option.some.inj Ur).symm
   subst edl;have hm:=m1.trans m2;refine⟨⟨?_,by simpa using hm.nl,hm.ql,hm.pt⟩,⟨qf ++ qf2,by show p'.qs=_;rw[uS,hq,List.append_assoc],fun rest=>?_⟩,.inr ⟨h1,pc.ns.length,d2,rfl,by have:=m1.len;omega,by simpa using DE,?_,Zj,?_⟩⟩
   ·obtain⟨ex,hex⟩:=hm.pre
    refine⟨ex.set (j' - p.ns.length) { dl with next:=(pc.ns.length:Int) },?_⟩;show p'.ns.set j' _=_;rw[hex,List.set_append_right _ _ yf]
   ·rw[sB,hn,DX,List.append_assoc]
   ·show(p'.ns.set j' _)[pc.ns.length]?=_
    rw[List.getElem?_set_ne (by omega)];exact Ob
   ·intro qM q rest bh nZ Hy hag Kd hb
    have aao:p'.ns.length<=nZ:=by simpa using Hy
    have Tg:∀i,p.ns.length<=i->i<p'.ns.length->i≠pc.ns.length->qM[i]?=(p'.ns.set j' { dl with next:=(pc.ns.length:Int) })[i]?:=fun i h1 h2 h3=>hag i h1 (by simpa using h2) h3
    have h2:=gI qM q rest bh p.ns.length nZ m1.len aao (fun i h1 h2=>by rw[Tg i (by have:=m1.len;omega) h2 (by omega),List.getElem?_set_ne (by omega)]) Kd hb;have:=uj qM (pc.ns.length:Int) (f rest) bh nZ (by omega) (fun i h1 h2 h3=>by rw[Tg i h1 (by omega) (by omega),List.getElem?_set_ne (by omega)];exact m2.at h2) (by rw[Tg j' yf (by omega) (by omega),List.getElem?_set_self (by omega)]) h2
    rw[sB];exact this
theorem Ca{r:Sp.R (List (Bl->Bl))}(h:Fl p pc l first last r):nK p pc l first r:=by
 rcases r with e | ⟨fs,lc⟩
 ·exact h
 ·obtain⟨m1,⟨qf,hq,hn⟩,hc⟩:=h
  have Qe:pc.qs=p.qs ++ di (aP fs):=by have:=hn .nil;rw[Lm]at this;rw[this,hq];simp[di]
  rcases hc with⟨rfl,h1,_,_,Uw⟩ | ⟨h1,j,d,_,yf,Hz,hd,Yl,uj⟩
  ·exact⟨m1,⟨h1,Uw⟩,Qe⟩
  ·refine⟨m1,?_,Qe⟩
   have:=uj pc.ns (-1) .nil pc.ct pc.ns.length (Nat.le_refl _) (fun _ _ _ _=>rfl) (by rw[hd,<-Yl]) ⟨rfl,rfl⟩;rw[h1];exact this
end
end
section
section
variable{p p1 p3:FP}
variable{l l1 l2:Sp.Bs}
variable{d0 n:aJ}
variable{j hi v a rel k:Nat}
variable{ns:List aJ}
variable{ct ct1 ct2:Ct}
variable{x y:Sm}
theorem Gy(xs:List aJ)(d n:aJ)(ex:List aJ):(xs ++ [d] ++ ex).set xs.length n=xs ++ (n :: ex):=by rw[List.append_assoc,List.set_append_right _ _ (Nat.le_refl _)];simp
theorem IL{p3:FP}(n:aJ)(e1:p1.ns=p.ns ++ [d0])(eq:p1.qs=p.qs)(pG:In64 p1.ct.1)(m:bQ p1 p3 l1 l2)(hl:l1.length<l.length):bQ p { p3 with ns:=p3.ns.set p.ns.length n } l l2:=by
 obtain⟨ex,hex⟩:=m.pre;have h1:=m.nl;have h2:=m.ql;rw[e1]at h1;rw[eq]at h2;refine⟨⟨n :: ex,?_⟩,?_,?_,fun _=>m.pt pG⟩
 ·show p3.ns.set p.ns.length n=_
  rw[hex,e1,Gy]
 ·simp at h1 ⊢;omega
 ·show p3.qs.length+_<=_;omega
theorem fW{p3:FP}(n:aJ)(e1:p1.ns=p.ns ++ [d0])(m:du p1 p3 l1)(hl:l1.length<l.length):du p { p3 with ns:=p3.ns.set p.ns.length n } l:=by
 obtain⟨⟨ex,hex⟩,h1⟩:=m;rw[e1]at h1;refine⟨⟨n :: ex,?_⟩,?_⟩
 ·show p3.ns.set p.ns.length n=_
  rw[hex,e1,Gy]
 ·simp at h1 ⊢;omega
theorem lO{f:Bl->Bl}(e1:p1.ns=p.ns ++ [d0])(eq:p1.qs=p.qs)(pG:In64 p1.ct.1)(m:bQ p1 p3 l1 l2)(hl:l1.length<l.length)(hn:n.next=-1)
  (gI:RX p.ns.length p3.ns.length p3.ns n p.ct f p3.ct) (qf:List Int) (hq:p3.qs=p.qs ++ qf) (hqf:∀rest,di (f rest)=qf ++ di rest):nF p { p3 with ns:=p3.ns.set p.ns.length n } l (.ok (f,l2)):=by
 have hlen:p.ns.length<p3.ns.length:=by have:=m.len;rw[e1]at this;simp at this;omega
 refine⟨IL n e1 eq pG m hl,⟨n,List.getElem?_set_self hlen,hn,?_⟩,qf,hq,hqf⟩;intro qM q rest bh lo nZ h1 h2 h3 h4 h5;have Hj:p3.ns.length<=nZ:=by simpa using h2
 refine gI qM q rest bh lo nZ h1 Hj (fun i a b=>?_) h4 h5;rw[h3 i a (by simpa using b)];show(p3.ns.set _ _)[i]?=_;rw[List.getElem?_set_ne (by omega)]
theorem zA{v:Nat}(hj:j<hi)(h1:n.aA=ct.1)(h2:n.kind=7)(h3:n.n=(v:Int))(h4:v<8):RX j hi ns n ct (.read v) (Sp.aD ct):=by intro qM q rest bh lo nZ a1 a2 a3 a4 a5;exact⟨j,_,rfl,a1,by omega,a4,h1,h2,h3,h4,a5⟩
theorem si{a:Nat}{v:Nat}(hj:j<hi)(h1:n.aA=ct.1)(h2:n.kind=6)(h3:n.n=(v:Int))(h4:v<8)(h5:n.a=(a:Int))(h6:a<hi)(h7:pL ns (j+1) x a (Sp.aD ct) ct1):RX j hi ns n ct (.assign v x) ct1:=by intro qM q rest bh lo nZ a1 a2 a3 a4 a5;exact⟨j,a,_,ct1,rfl,a1,by omega,a4,h1,h2,h3,h4,h5,by omega,h7.mono (by omega) (fun i b1 b2=>a3 i (by omega) (by omega)),a5⟩
theorem sC{a:Nat}(hj:j<hi)(h1:n.aA=ct.1)(h2:n.kind=8)(h3:n.site=ct.2)(h5:n.a=(a:Int))(h6:a<hi)(h7:xH ns (j+1) rel x y a (Sp.aL (Sp.aD ct)) ct1):RX j hi ns n ct (.assert rel x y) ct1:=by intro qM q rest bh lo nZ a1 a2 a3 a4 a5;exact⟨j,a,_,ct1,rfl,a1,by omega,a4,h1,h2,h3,h5,by omega,h7.mono (by omega) (fun i b1 b2=>a3 i (by omega) (by omega)),a5⟩
theorem zJ{a:Nat}{xs:Bl}(hj:j<hi)(h1:n.aA=ct.1)(h2:n.kind=10)(h5:n.a=(a:Int))(h6:a<hi)(h7:xH ns (j+1) rel x y a (Sp.aD ct) ct1)(h8:ji ns (j+1) hi xs n.b ct1 ct2):RX j hi ns n ct (.loop rel x y xs) ct2:=by intro qM q rest bh lo nZ a1 a2 a3 a4 a5;exact⟨j,a,_,ct1,ct2,rfl,a1,by omega,a4,h1,h2,h5,by omega,h7.mono (by omega) (fun i b1 b2=>a3 i (by omega) (by omega)),h8.mono (by omega) a2 (fun i b1 b2=>a3 i (by omega) b2),a5⟩
theorem zH{a:Nat}{mz:Ct}{xs ys:Bl}{els:Bool}(hj:j<hi)(h1:n.aA=ct.1)(h2:n.kind=9)(h3:n.els=els)(h5:n.a=(a:Int))(h6:a<hi)(h7:xH ns (j+1) rel x y a (Sp.aD ct) ct1)(h8:ji ns (j+1) hi xs n.b ct1 ct2)(h9:ji ns (j+1) hi ys n.c ct2 mz)(hY:els=false->ys=.nil):RX j hi ns n ct (.ite rel x y xs els ys) mz:=by intro qM q rest bh lo nZ a1 a2 a3 a4 a5;exact⟨j,a,_,ct1,ct2,mz,rfl,a1,by omega,a4,h1,h2,h3,h5,by omega,h7.mono (by omega) (fun i b1 b2=>a3 i (by omega) (by omega)),h8.mono (by omega) a2 (fun i b1 b2=>a3 i (by omega) b2),h9.mono (by omega) a2 (fun i b1 b2=>a3 i (by omega) b2),hY,a5⟩
theorem JI(l:Sp.Bs):left (gx Tr l)=(left (dE (Sp.next l))).bind (Sp.take [59]):=by
 unfold gx;cases dE (Sp.next l) with
 | error e=>rfl
 | ok kl =>simp only[left,Except.bind];cases Sp.take [59] kl.2<;>rfl
theorem tB(h:aR l=some k):k<8:=by obtain⟨c,_,_,h1,h2,h3⟩:=dK h;omega
theorem fA(n:Int):In64 (RowKit.wrap64 n):=by unfold In64 RowKit.wrap64;omega
theorem Lu{k:Int}(e1:p1.ns=p.ns ++ [d0])(eq:p1.qs=p.qs)(ec:p1.ct=Sp.aD p.ct)(hl:(Sp.next l).length<l.length)(hk:∀kk,aR (Sp.next l)=some kk->k=(kk:Int))(n1:n.next=-1)(n2:n.aA=p.ct.1)(n3:n.kind=7)(n4:n.n=k) :
  nF p { p1 with ns:=p1.ns.set p.ns.length n } l (gx Tr l):=by
 have hb:du p { p1 with ns:=p1.ns.set p.ns.length n } l:=fW n e1 (du.refl p1 (Sp.next l)) hl;unfold gx;cases hv:aR (Sp.next l) with
 | none=>rw[jN hv];exact hb
 | some kk =>
  rw[iz hv];simp only;cases ht:Sp.take [59] (Sp.next (Sp.next l)) with
  | error e=>exact hb
  | ok l2 =>
   obtain⟨_,h2⟩:=bU ht;have Qg:l2.length<=(Sp.next l).length:=by rw[h2];exact Nat.le_trans (cj _) (cj _)
   refine lO (p3:=p1) (f:=.read kk) e1 eq (by rw[ec];exact fA _) (bQ.xC Qg) hl n1 ?_ [] (by rw[eq];simp) (fun _=>rfl);rw[ec];exact zA (by rw[e1];simp) n2 n3 (by rw[n4,hk kk hv]) (tB hv)
theorem FX.cast{base b pb:Nat}{s:ByteArray}{r r':Except (Nat × Nat) Sp.Bs}{o:Int}{w:Wd}(e:r=r')(h:FX base b pb s r o p w):FX base b pb s r' o p w:=by rw[<-e];exact h
end
end
section
section
variable{o:Nat}
variable{p p1 p3:FP}
variable{l:Sp.Bs}
variable{d0 n:aJ}
variable{k ka kc kb:Int}
theorem Ev(e1:p1.ns=p.ns ++ [d0])(eq:p1.qs=p.qs)(ec:p1.ct=Sp.aD p.ct)(hk:∀kk,aR l=some kk->k=(kk:Int))(hb:aR l≠none)
  (g:∀l2,(left (dE l)).bind (Sp.take [61])=.ok l2->ik p1 p3 l2 ka (Sp.pS Tr o l2)) (he:∀e,(left (dE l)).bind (Sp.take [61])=.error e->p3=p1)
  (n1:n.next=-1) (n2:n.aA=p.ct.1) (n3:n.kind=6) (n4:n.n=k) (n5:n.a=ka) :
  nF p { p3 with ns:=p3.ns.set p.ns.length n } l (cy Tr o l):=by
 cases hv:aR l with
 | none=>exact absurd hv hb
 | some kk =>
  have eV:(Sp.next l).length<l.length:=fL (dc (.inl (eZ hv)));unfold cy;rw[iz hv]at g he ⊢;simp only[left,Except.bind]at g he ⊢;cases ht:Sp.take [61] (Sp.next l) with
  | error e =>have:=he e ht;subst this;exact fW n e1 (du.refl _ (Sp.next l)) eV
  | ok l2 =>
   obtain⟨_,h2⟩:=bU ht;have Qg:l2.length<=(Sp.next l).length:=by rw[h2];exact cj _
   have g1:=g l2 ht;simp only
   rcases hS:Sp.pS Tr o l2 with e | ⟨x,l3⟩
   ·rw[hS]at g1
    exact fW (l1:=l2) n e1 g1 (by omega)
   ·rw[hS]at g1
    obtain⟨m1,⟨j,yf,Hz,DL⟩,q1⟩:=g1;simp only;cases Xk:Sp.take [59] l3 with
    | error e=>exact fW (l1:=l2) n e1 (du.rl m1) (by omega)
    | ok l4 =>
     obtain⟨_,h4⟩:=bU Xk;refine lO (p3:=p3) (f:=.assign kk x) e1 eq (by rw[ec];exact fA _) (m1.trans (bQ.xC (l':=l4) (by rw[h4];exact cj _))) (by omega) n1 ?_ (ft x) (by rw[q1,eq]) (fun _=>rfl);refine si (a:=j) (by have:=m1.len;rw[e1]at this;simp at this;omega) n2 n3 (by rw[n4,hk kk hv]) (tB hv) (by rw[n5,yf]) Hz ?_;rw[<-ec];have e':p1.ns.length=p.ns.length+1:=by rw[e1];simp
     rw[<-e'];exact DL
theorem E6(e1:p1.ns=p.ns ++ [d0])(eq:p1.qs=p.qs)(ec:p1.ct=Sp.aL (Sp.aD p.ct))(eV:(Sp.next l).length<l.length)
  (g1:tE p1 p3 (Sp.next l) kc (bn Tr o (Sp.next l)))
  (n1:n.next=-1) (n2:n.aA=p.ct.1) (n3:n.kind=8) (n4:n.site=p.ct.2) (n5:n.a=kc) :
  nF p { p3 with ns:=p3.ns.set p.ns.length n } l (cY Tr o l):=by
 unfold cY
 rcases hC:bn Tr o (Sp.next l) with e | ⟨⟨rel,x,y⟩,l1⟩
 ·rw[hC]at g1
  exact fW (l1:=Sp.next l) n e1 g1 eV
 ·rw[hC]at g1
  obtain⟨m1,⟨j,yf,Hz,DL⟩,q1⟩:=g1;simp only;cases Xk:Sp.take [59] l1 with
  | error e=>exact fW (l1:=Sp.next l) n e1 (du.rl m1) eV
  | ok l4 =>
   obtain⟨_,h4⟩:=bU Xk;refine lO (p3:=p3) (f:=.assert rel x y) e1 eq (by rw[ec];exact fA _) (m1.trans (bQ.xC (l':=l4) (by rw[h4];exact cj _))) eV n1 ?_ (ft x ++ ft y) (by rw[q1,eq]) (fun _=>rfl);refine sC (a:=j) (by have:=m1.len;rw[e1]at this;simp at this;omega) n2 n3 n4 (by rw[n5,yf]) Hz ?_;rw[<-ec];have e':p1.ns.length=p.ns.length+1:=by rw[e1];simp
   rw[<-e'];exact DL
def fT(st:Sp.Bs->Sp.R (Bl->Bl))(o:Nat)(l:Sp.Bs):Except (Nat × Nat) Sp.Bs:=(left (bn Tr o (Sp.next l))).bind fun l=>left (bD Tr st o l)
theorem IJ{st:Sp.Bs->Sp.R (Bl->Bl)}(hb:∀l,aS Tr st o l=bD Tr st o l){p4:FP}(e1:p1.ns=p.ns ++ [d0])(eq:p1.qs=p.qs)(ec:p1.ct=Sp.aD p.ct)(eV:(Sp.next l).length<l.length)
  (g1:tE p1 p3 (Sp.next l) kc (bn Tr o (Sp.next l))) (g2:∀l2,left (bn Tr o (Sp.next l))=.ok l2->nK p3 p4 l2 kb (bD Tr st o l2)) (he:∀e,left (bn Tr o (Sp.next l))=.error e->p4=p3)
  (n1:n.next=-1) (n2:n.aA=p.ct.1) (n3:n.kind=10) (n5:n.a=kc) (n6:n.b=kb) :
  nF p { p4 with ns:=p4.ns.set p.ns.length n } l (ef Tr (fun l=>aS Tr st o l) o l):=by
 unfold ef
 rcases hC:bn Tr o (Sp.next l) with e | ⟨⟨rel,x,y⟩,l1⟩
 ·rw[hC]at g1 he
  have:=he e rfl;subst this;exact fW (l1:=Sp.next l) n e1 g1 eV
 ·rw[hC]at g1 g2
  obtain⟨m1,⟨j,yf,Hz,DL⟩,q1⟩:=g1;have g3:=g2 l1 rfl;simp only;rw[hb]
  rcases hB:bD Tr st o l1 with e | ⟨fs,l2⟩
  ·rw[hB]at g3
   exact fW (l1:=Sp.next l) n e1 (du.made m1 g3) eV
  ·rw[hB]at g3
   obtain⟨m2,qL,q2⟩:=g3;have e':p1.ns.length=p.ns.length+1:=by rw[e1];simp
   have uT:=m1.len;have Qg:=m2.len;refine lO (p3:=p4) (f:=.loop rel x y (aP fs)) e1 eq (by rw[ec];exact fA _) (m1.trans m2) eV n1 ?_ (ft x ++ ft y ++ di (aP fs)) (by rw[q2,q1,eq,List.append_assoc]) (fun _=>by simp[di]);refine zJ (a:=j) (ct1:=p3.ct) (by omega) n2 n3 (by rw[n5,yf]) (by omega) ?_ ?_
   ·rw[<-ec,<-e']
    exact DL.mono (Nat.le_refl _) (fun i _ hi=>m2.at (by omega))
   ·rw[n6]
    exact qL.mono (by omega) (Nat.le_refl _) (fun _ _ _=>rfl)
end
end
section
section
variable{p p' p1 p3 p4:FP}
variable{l l1 l2:Sp.Bs}
variable{k kc kb:Int}
variable{d0 n:aJ}
variable{base b pb o:Nat}
variable{s:ByteArray}
theorem fK{α:Type}(a:α):Hid (a=a):=rfl
theorem Ad(h:du p p' l):∃ex,p'.ns=p.ns ++ ex:=h.1
theorem Vl{r:Sp.R Sm}(h:ik p p' l k r):∃ex,p'.ns=p.ns ++ ex:=by
 rcases r with e | ⟨x,l1⟩
 ·exact Ad h
 ·exact h.1.pre
theorem MA{r:Sp.R (Nat × Sm × Sm)}(h:tE p p' l k r):∃ex,p'.ns=p.ns ++ ex:=by
 rcases r with e | ⟨⟨a,x,y⟩,l1⟩
 ·exact Ad h
 ·exact h.1.pre
theorem MG{r:Sp.R (List (Bl->Bl))}(h:nK p p' l k r):∃ex,p'.ns=p.ns ++ ex:=by
 rcases r with e | ⟨fs,l1⟩
 ·exact Ad h
 ·exact h.1.pre
theorem wI{r:Except (Nat × Nat) Sp.Bs}(g:∀l,r=.ok l->∃ex,p'.ns=p.ns ++ ex)(he:∀e,r=.error e->p'=p):∃ex,p'.ns=p.ns ++ ex:=by
 cases r with
 | ok l=>exact g l rfl
 | error e=>exact⟨[],by rw[he e rfl];simp⟩
theorem sH{p2:FP}(h:∃ex,p1.ns=p.ns ++ ex)(k:∃ex,p2.ns=p1.ns ++ ex):∃ex,p2.ns=p.ns ++ ex:=by obtain⟨a,ha⟩:=h;obtain⟨c,hc⟩:=k;exact⟨a ++ c,by rw[hc,ha,List.append_assoc]⟩
theorem lR(e1:p1.ns=p.ns ++ [d0])(h:∃ex,p3.ns=p1.ns ++ ex):p3.ns[p.ns.length]?=some d0:=by obtain⟨ex,hex⟩:=h;rw[hex,e1];simp
theorem oZ(h:eQ p l)(e1:p1.ns=p.ns ++ [d0])(eq:p1.qs=p.qs)(hp:In64 p1.ct.1)(hl:l1.length<l.length):eQ p1 l1:=by
 obtain⟨h1,h2,_⟩:=h;refine⟨?_,?_,hp⟩
 ·rw[e1];simp;omega
 ·rw[eq];omega
theorem zO(o:Nat)(l:Sp.Bs):((((left (dE l)).bind (Sp.take [61])).bind fun l=>@left Sm (Sp.pS Tr o l)).bind (Sp.take [59]))=@left (Bl->Bl) (cy Tr o l):=by
 unfold cy;cases dE l with
 | error e=>rfl
 | ok kl =>
  simp only[left,Except.bind];cases Sp.take [61] kl.2 with
  | error e=>rfl
  | ok l2 =>
   simp only
   rcases Sp.pS Tr o l2 with e | ⟨x,l3⟩
   ·rfl
   ·simp only
    cases Sp.take [59] l3<;>rfl
theorem Ai(o:Nat)(l:Sp.Bs):((@left (Nat × Sm × Sm) (bn Tr o (Sp.next l))).bind (Sp.take [59]))=@left (Bl->Bl) (cY Tr o l):=by
 unfold cY
 rcases bn Tr o (Sp.next l) with e | ⟨⟨k,x,y⟩,l1⟩
 ·rfl
 ·simp only[left,Except.bind]
  cases Sp.take [59] l1<;>rfl
theorem yU(st:Sp.Bs->Sp.R (Bl->Bl))(o:Nat)(l:Sp.Bs):((@left (Nat × Sm × Sm) (bn Tr o (Sp.next l))).bind fun l=>@left (List (Bl->Bl)) (bD Tr st o l))=fT st o l:=by
 unfold fT
 rcases bn Tr o (Sp.next l) with e | ⟨⟨k,x,y⟩,l1⟩
 ·rfl
 ·simp only[left,Except.bind]
  rcases bD Tr st o l1 with e | ⟨fs,l2⟩<;>rfl
theorem Br(st:Sp.Bs->Sp.R (Bl->Bl))(o:Nat)(l:Sp.Bs)(hb:∀l,aS Tr st o l=bD Tr st o l):((@left (Nat × Sm × Sm) (bn Tr o (Sp.next l))).bind fun l=>@left (List (Bl->Bl)) (bD Tr st o l))=@left (Bl->Bl) (ef Tr (fun l=>aS Tr st o l) o l):=by
 unfold ef
 rcases bn Tr o (Sp.next l) with e | ⟨⟨k,x,y⟩,l1⟩
 ·rfl
 ·simp only[left,Except.bind]
  rw[hb]
  rcases bD Tr st o l1 with e | ⟨fs,l2⟩<;>rfl
theorem hH.Vi{N:Nat}{r r':Except (Nat × Nat) Sp.Bs}{o:Int}{p0:FP}{w0 w:Wd}(e:r=r')(h:hH base b pb N s r o p0 p w0 n w):hH base b pb N s r' o p0 p w0 n w:=by rw[<-e];exact h
theorem lS{o:Nat}{w w':Wd}{r:Sp.R (Bl->Bl)}{q:Except (Nat × Nat) Sp.Bs}(e:q=left r)(h:FX base b pb s q (o:Int) p' w')(k:FK b pb p p' w w')(g:nF p p' l r):mB base b pb s o p l w r (.returned (.int .i64 (p.ns.length:Nat))) w':=⟨p',rfl,FX.cast e h,k,g⟩
theorem uF(A:eW)(st:Sp.Bs->Sp.R A.T)(o:Nat)(l:Sp.Bs)(hb:∀l,aS A st o l=bD A st o l):qF A (fun l=>aS A st o l) o l=(match bn A o (Sp.next l) with
 | .ok ((k,x,y),l1)=>(match bD A st o l1 with
  | .ok (xs,l2)=>if Sp.tok l2=j0 then(match bD A st o (Sp.next l2) with
    | .ok (ys,l3)=>.ok (A.ite k x y xs (some ys),l3)
    | .error e=>.error e) else .ok (A.ite k x y xs none,l2)
  | .error e=>.error e)
 | .error e=>.error e):=by
 unfold qF;simp only[hb]
 rcases bn A o (Sp.next l) with e | ⟨⟨k,x,y⟩,l1⟩
 ·rfl
 ·simp only
  rcases bD A st o l1 with e | ⟨xs,l2⟩
  ·rfl
  ·simp only
   by_cases he:Sp.tok l2=j0
   ·rw[if_pos he,if_pos he]
    rcases bD A st o (Sp.next l2) with e | ⟨ys,l3⟩<;>rfl
   ·rw[if_neg he,if_neg he]
def UP(st:Sp.Bs->Sp.R (Bl->Bl))(o:Nat)(l:Sp.Bs):Except (Nat × Nat) Sp.Bs:=(fT st o l).bind fun l2=>if Sp.tok l2=j0 then left (bD Tr st o (Sp.next l2)) else .ok l2
theorem At(st:Sp.Bs->Sp.R (Bl->Bl))(o:Nat)(l:Sp.Bs)(hb:∀l,aS Tr st o l=bD Tr st o l):left (qF Tr (fun l=>aS Tr st o l) o l)=UP st o l:=by
 rw[uF Tr st o l hb];unfold UP fT
 rcases bn Tr o (Sp.next l) with e | ⟨⟨k,x,y⟩,l1⟩
 ·rfl
 ·simp only[left,Except.bind]
  rcases bD Tr st o l1 with e | ⟨fs,l2⟩
  ·rfl
  ·simp only
   by_cases he:Sp.tok l2=j0
   ·rw[if_pos he,if_pos he]
    rcases bD Tr st o (Sp.next l2) with e | ⟨ys,l3⟩<;>rfl
   ·rw[if_neg he,if_neg he]
theorem Dk{st:Sp.Bs->Sp.R (Bl->Bl)}(hb:∀l,aS Tr st o l=bD Tr st o l){er:Nat × Nat}(h:fT st o l=.error er):.error er=@left (Bl->Bl) (qF Tr (fun l=>aS Tr st o l) o l):=by have:=At st o l hb;unfold UP at this;rw[h]at this;exact this.symm
theorem AI{st:Sp.Bs->Sp.R (Bl->Bl)}(hb:∀l,aS Tr st o l=bD Tr st o l)(h:fT st o l=.ok l2)(he:Sp.tok l2≠j0):.ok l2=@left (Bl->Bl) (qF Tr (fun l=>aS Tr st o l) o l):=by have:=At st o l hb;unfold UP at this;rw[h]at this;simp only[Except.bind]at this;rw[if_neg he]at this;exact this.symm
theorem AT{st:Sp.Bs->Sp.R (Bl->Bl)}(hb:∀l,aS Tr st o l=bD Tr st o l)(h:fT st o l=.ok l2)(he:Sp.tok l2=j0):((Except.ok (Sp.next l2):Except (Nat × Nat) Sp.Bs).bind fun l=>@left (List (Bl->Bl)) (bD Tr st o l))=@left (Bl->Bl) (qF Tr (fun l=>aS Tr st o l) o l):=by have:=At st o l hb;unfold UP at this;rw[h]at this;simp only[Except.bind]at this;rw[if_pos he]at this;exact this.symm
theorem Fy{st:Sp.Bs->Sp.R (Bl->Bl)}(hb:∀l,aS Tr st o l=bD Tr st o l)(e1:p1.ns=p.ns ++ [d0])(eV:(Sp.next l).length<l.length)
  (g1:tE p1 p3 (Sp.next l) kc (bn Tr o (Sp.next l))) (g2:∀l2,left (bn Tr o (Sp.next l))=.ok l2->nK p3 p4 l2 kb (bD Tr st o l2)) (he:∀e,left (bn Tr o (Sp.next l))=.error e->p4=p3) {er:Nat × Nat} (Dz:fT st o l=.error er) :
  nF p { p4 with ns:=p4.ns.set p.ns.length n } l (qF Tr (fun l=>aS Tr st o l) o l):=by
 rw[uF Tr st o l hb];unfold fT at Dz
 rcases hC:bn Tr o (Sp.next l) with e | ⟨⟨rel,x,y⟩,l1⟩
 ·rw[hC]at g1 he
  have:=he e rfl;subst this;exact fW (l1:=Sp.next l) n e1 g1 eV
 ·rw[hC]at g1 g2 Dz
  obtain⟨m1,⟨j,yf,Hz,DL⟩,q1⟩:=g1;have g3:=g2 l1 rfl;simp only
  rcases hB:bD Tr st o l1 with e | ⟨fs,l2⟩
  ·rw[hB]at g3
   exact fW (l1:=Sp.next l) n e1 (du.made m1 g3) eV
  ·simp only[left,Except.bind]at Dz
   rw[hB]at Dz;cases Dz
theorem CC{st:Sp.Bs->Sp.R (Bl->Bl)}(hb:∀l,aS Tr st o l=bD Tr st o l)(e1:p1.ns=p.ns ++ [d0])(eq:p1.qs=p.qs)(ec:p1.ct=Sp.aD p.ct)(eV:(Sp.next l).length<l.length)
  (g1:tE p1 p3 (Sp.next l) kc (bn Tr o (Sp.next l))) (g2:∀l2,left (bn Tr o (Sp.next l))=.ok l2->nK p3 p4 l2 kb (bD Tr st o l2))
  {l2:Sp.Bs} (rT:fT st o l=.ok l2) (db:Sp.tok l2≠j0)
  (n1:n.next=-1) (n2:n.aA=p.ct.1) (n3:n.kind=9) (n5:n.a=kc) (n6:n.b=kb) (n7:n.c=-1) (n8:n.els=false) :
  nF p { p4 with ns:=p4.ns.set p.ns.length n } l (qF Tr (fun l=>aS Tr st o l) o l):=by
 rw[uF Tr st o l hb];unfold fT at rT
 rcases hC:bn Tr o (Sp.next l) with e | ⟨⟨rel,x,y⟩,l1⟩
 ·rw[hC]at rT;cases rT
 ·rw[hC]at g1 g2 rT
  obtain⟨m1,⟨j,yf,Hz,DL⟩,q1⟩:=g1;have g3:=g2 l1 rfl;simp only[left,Except.bind]at rT;simp only
  rcases hB:bD Tr st o l1 with e | ⟨fs,QX⟩
  ·rw[hB]at rT;cases rT
  ·rw[hB]at g3 rT
   have:QX=l2:=by simpa using rT
   subst this;obtain⟨m2,qL,q2⟩:=g3;have e':p1.ns.length=p.ns.length+1:=by rw[e1];simp
   have uT:=m1.len;have Qg:=m2.len;simp only;rw[if_neg db];refine lO (p3:=p4) (f:=.ite rel x y (aP fs) false .nil) e1 eq (by rw[ec];exact fA _) (m1.trans m2) eV n1 ?_ (ft x ++ ft y ++ di (aP fs)) (by rw[q2,q1,eq,List.append_assoc]) (fun _=>by simp[di]);refine zH (a:=j) (ct1:=p3.ct) (ct2:=p4.ct) (by omega) n2 n3 n8 (by rw[n5,yf]) (by omega) ?_ ?_ ⟨n7,rfl⟩ (fun _=>rfl)
   ·rw[<-ec,<-e']
    exact DL.mono (Nat.le_refl _) (fun i _ hi=>m2.at (by omega))
   ·rw[n6]
    exact qL.mono (by omega) (Nat.le_refl _) (fun _ _ _=>rfl)
theorem Dr{st:Sp.Bs->Sp.R (Bl->Bl)}(hb:∀l,aS Tr st o l=bD Tr st o l){p5:FP}{ke:Int}(e1:p1.ns=p.ns ++ [d0])(eq:p1.qs=p.qs)(ec:p1.ct=Sp.aD p.ct)(eV:(Sp.next l).length<l.length)
  (g1:tE p1 p3 (Sp.next l) kc (bn Tr o (Sp.next l))) (g2:∀l2,left (bn Tr o (Sp.next l))=.ok l2->nK p3 p4 l2 kb (bD Tr st o l2))
  {l2:Sp.Bs} (rT:fT st o l=.ok l2) (he:Sp.tok l2=j0) (g4:nK p4 p5 (Sp.next l2) ke (bD Tr st o (Sp.next l2)))
  (n1:n.next=-1) (n2:n.aA=p.ct.1) (n3:n.kind=9) (n5:n.a=kc) (n6:n.b=kb) (n7:n.c=ke) (n8:n.els=true) :
  nF p { p5 with ns:=p5.ns.set p.ns.length n } l (qF Tr (fun l=>aS Tr st o l) o l):=by
 rw[uF Tr st o l hb];unfold fT at rT
 rcases hC:bn Tr o (Sp.next l) with e | ⟨⟨rel,x,y⟩,l1⟩
 ·rw[hC]at rT;cases rT
 ·rw[hC]at g1 g2 rT
  obtain⟨m1,⟨j,yf,Hz,DL⟩,q1⟩:=g1;have g3:=g2 l1 rfl;simp only[left,Except.bind]at rT;simp only
  rcases hB:bD Tr st o l1 with e | ⟨fs,QX⟩
  ·rw[hB]at rT;cases rT
  ·rw[hB]at g3 rT
   have:QX=l2:=by simpa using rT
   subst this;obtain⟨m2,qL,q2⟩:=g3;have e':p1.ns.length=p.ns.length+1:=by rw[e1];simp
   have uT:=m1.len;have Qg:=m2.len;have me:bQ p4 p4 QX (Sp.next QX):=bQ.xC (cj _);simp only;rw[if_pos he]
   rcases Vy:bD Tr st o (Sp.next QX) with e | ⟨ys,l3⟩
   ·rw[Vy]at g4
    exact fW (l1:=Sp.next l) n e1 (du.made ((m1.trans m2).trans me) g4) eV
   ·rw[Vy]at g4
    obtain⟨m4,aac,q4⟩:=g4;have uP:=m4.len;simp only;refine lO (p3:=p5) (f:=.ite rel x y (aP fs) true (aP ys)) e1 eq (by rw[ec];exact fA _) (((m1.trans m2).trans me).trans m4) eV n1 ?_ (ft x ++ ft y ++ di (aP fs) ++ di (aP ys)) (by rw[q4,q2,q1,eq];simp only[List.append_assoc]) (fun _=>by simp[di]);refine zH (a:=j) (ct1:=p3.ct) (ct2:=p4.ct) (by omega) n2 n3 n8 (by rw[n5,yf]) (by omega) ?_ ?_ ?_ (fun e=>nomatch e)
    ·rw[<-ec,<-e']
     exact DL.mono (Nat.le_refl _) (fun i _ hi=>by rw[m4.at (by omega),m2.at (by omega)])
    ·rw[n6]
     exact qL.mono (by omega) (by omega) (fun i _ hi=>m4.at (by omega))
    ·rw[n7]
     exact aac.mono (by omega) (Nat.le_refl _) (fun _ _ _=>rfl)
end
end
section
theorem FR.yY{base b pb:Nat}{s:ByteArray}{l:Sp.Bs}{o:Int}{p:FP}{w:Wd}(h:FX base b pb s (.ok l) o p w):FR base b pb s l o p w:=h
theorem Dp(base b pb:Nat)(s:ByteArray)(o:Nat)(l:Sp.Bs)(p:FP)(w:Wd)(h:FR base b pb s l (o:Int) p w)(hlim:eQ p l)(ht:Sp.tok l=sP) :
  Calls prog 99 #[.pointer (some ⟨b,0,none⟩)] w (mB base b pb s o p l w (gx Tr l)):=by
 obtain⟨c6,c3,dI,uP⟩:=h.asks;have c4:=cell_of h.aV 4 (v:=.pointer (some ⟨pb,0,none⟩)) rfl;have d2:=cell_of h.prog.aV 2 (v:=.int .i64 p.ct.1) rfl;have HT:=hid ht;have jd:Hid ((Sp.next l).length<l.length):=aI ht (by decide);have kC:p.ns.length+1<=1000000:=by have:=hlim.1;omega
 clear dI ht;go_enter func99,ntmps99;go_wp2_with fail;refine(eL (r:=.ok l) h { aA:=p.ct.1,next:=-1,c:=-1 } kC).mono ?_;rintro e w1⟨rfl,v,h1,k1⟩;have nM:FR base b pb s l (o:Int) _ w1:=h1;have c4:=cell_of nM.aV 4 (v:=.pointer (some ⟨pb,0,none⟩)) rfl;have d2:=cell_of nM.prog.aV 2 (v:=.int .i64 p.ct.1) rfl;have f2:=aw nM.prog.aV 2;go_wp2_with fail
 go_cut [] from 6 (fun wc=>wc=(w1.setCell ⟨pb,2,none⟩ (.int .i64 (RowKit.wrap64 (p.ct.1+1)))).drew)
 case first =>
  go_region_with (fail)
  all_goals
   go_wp2_with fail;go_meet;rw[IntWalk.i64_left]
 case rest =>
  obtain⟨iv,fM⟩:=FX.iX (r:=.ok l) (p':={ p with ns:=p.ns ++ [{ aA:=p.ct.1,next:=-1,c:=-1 }],nv:=v,ct:=Sp.aD p.ct }) h1 2 (.int .i64 (RowKit.wrap64 (p.ct.1+1))) (lK h1.prog.aV _) rfl rfl rfl rfl;have hx:FX base b pb s (.ok l) (o:Int) { p with ns:=p.ns ++ [{ aA:=p.ct.1,next:=-1,c:=-1 }],nv:=v,ct:=Sp.aD p.ct } wc:=by rw[hcut];exact iv.drew
  have hk:FK b pb p { p with ns:=p.ns ++ [{ aA:=p.ct.1,next:=-1,c:=-1 }],nv:=v,ct:=Sp.aD p.ct } w wc:=by rw[hcut];exact k1.trans fM.drew
  clear hcut iv fM h1 k1 nM c4 d2 f2 c3 c6;have eO:FR base b pb s l (o:Int) _ wc:=hx;have c4:=cell_of eO.aV 4 (v:=.pointer (some ⟨pb,0,none⟩)) rfl;have d2:=cell_of eO.prog.aV 2 (v:=.int .i64 (RowKit.wrap64 (p.ct.1+1))) rfl;have c3:=cell_of eO.aV 3 (v:=.string ⟨(Sp.tok l).toArray⟩) rfl;rw[HT.out]at c3;have pG:RowKit.wrap64 (RowKit.wrap64 (p.ct.1+1) - 1)=p.ct.1:=by obtain⟨_,_,a1,a2⟩:=hlim;unfold RowKit.wrap64;omega
  have xz:b<wc.heap.size:=ah eO.aV;have Qj:pb<wc.heap.size:=ah eO.prog.aV;have M0:Hid (hH base b pb wc.heap.size s _ _ _ _ _ _ _):=hH.start { kind:=7,c:=-1,next:=-1,aA:=p.ct.1 } hx hk;clear hx hk;go_wp2_with fail;refine(dP (FR.yY M0.fx)).mono ?_;rintro e w2⟨rfl,h2,k2⟩;have M1:=M0.call (r':=.ok (Sp.next l)) h2 k2;go_wp2_with fail;refine(Di h2).mono ?_;rintro e w3⟨k,rfl,h3,k3,Oh⟩;have YC:=hid Oh;clear Oh;have M2:=M1.call h3 k3;obtain⟨e4,f4⟩:=M2.box.cell 4 rfl;have M3:=hid (M2.set 4 (.int .i64 k) (n':={ kind:=7,c:=-1,next:=-1,aA:=p.ct.1,n:=k }) rfl);clear M1 M2 M0 h2 k2 h3 k3;go_wp2_with fail;refine(rp M3.fx [59]).mono ?_;rintro e w4⟨rfl,h4,k4⟩;have M4:=M3.call h4 k4;obtain⟨g,cap,hv,mm,hmax,mr,hj,a4,a0,⟨n0,n1,n2,n3,n4,n5,n6,n7,n8,n9⟩,⟨r0,r1,r2,r3,r4,r5,r6,r7,r8,r9⟩,q0,q1,q2,q3,q4,q5,q6,q7,q8,q9⟩:=M4.facts (j:=p.ns.length) (d:={ aA:=p.ct.1,next:=-1,c:=-1 }) (by simp);have M5:=hid M4;clear M3 M4 h4 k4;go_wp2_with fail
  go_cut [] from 6 (fun wc=>wc=(qY w4 g (p.ns.length*10) { kind:=7,c:=-1,next:=-1,aA:=p.ct.1,n:=k }).drew)
  case first =>
   clear M5 HT hlim
   go_region_with (fail)
   all_goals
    go_wp2_with fail;go_meet;exact rfl
  case rest =>
   obtain⟨h6,k6⟩:=jX M5.fx { kind:=7,c:=-1,next:=-1,aA:=p.ct.1,n:=k } hv (j:=p.ns.length) (d:={ aA:=p.ct.1,next:=-1,c:=-1 }) (by simp);go_wp2_with fail;go_ret;exact⟨_,rfl,FX.cast (JI l).symm h6.drew,(M5.fk.trans k6).drew,Lu (p1:={ p with ns:=p.ns ++ [{ aA:=p.ct.1,next:=-1,c:=-1 }],nv:=v,ct:=Sp.aD p.ct }) (k:=k) rfl rfl rfl jd.out YC.out rfl rfl rfl rfl⟩
end
section
theorem xR(base b pb:Nat)(s:ByteArray)(o:Nat)(ho:o<=12)(l:Sp.Bs)(p:FP)(w:Wd)(h:FR base b pb s l (o:Int) p w)(hlim:eQ p l)(ht:Sp.tok l=kU) :
  Calls prog 99 #[.pointer (some ⟨b,0,none⟩)] w (mB base b pb s o p l w (cY Tr o l)):=by
 obtain⟨c6,c3,dI,uP⟩:=h.asks;have c4:=cell_of h.aV 4 (v:=.pointer (some ⟨pb,0,none⟩)) rfl;have d2:=cell_of h.prog.aV 2 (v:=.int .i64 p.ct.1) rfl;have HT:=hid ht;have jd:Hid ((Sp.next l).length<l.length):=aI ht (by decide);have kC:p.ns.length+1<=1000000:=by have:=hlim.1;omega
 clear dI ht;go_enter func99,ntmps99;go_wp2_with fail;refine(eL (r:=.ok l) h { aA:=p.ct.1,next:=-1,c:=-1 } kC).mono ?_;rintro e w1⟨rfl,v,h1,k1⟩;have nM:FR base b pb s l (o:Int) _ w1:=h1;have c4:=cell_of nM.aV 4 (v:=.pointer (some ⟨pb,0,none⟩)) rfl;have d2:=cell_of nM.prog.aV 2 (v:=.int .i64 p.ct.1) rfl;have f2:=aw nM.prog.aV 2;go_wp2_with fail
 go_cut [] from 6 (fun wc=>wc=(w1.setCell ⟨pb,2,none⟩ (.int .i64 (RowKit.wrap64 (p.ct.1+1)))).drew)
 case first =>
  go_region_with (fail)
  all_goals
   go_wp2_with fail;go_meet;rw[IntWalk.i64_left]
 case rest =>
  obtain⟨iv,fM⟩:=FX.iX (r:=.ok l) (p':={ p with ns:=p.ns ++ [{ aA:=p.ct.1,next:=-1,c:=-1 }],nv:=v,ct:=Sp.aD p.ct }) h1 2 (.int .i64 (RowKit.wrap64 (p.ct.1+1))) (lK h1.prog.aV _) rfl rfl rfl rfl;obtain⟨p1,rJ,hp1q,hp1c,hx,hk⟩:∃p1:FP,Hid (p1.ns=p.ns ++ [{ aA:=p.ct.1,next:=-1,c:=-1 }])/\Hid (p1.qs=p.qs)/\p1.ct=Sp.aD p.ct/\FX base b pb s (.ok l) (o:Int) p1 wc/\FK b pb p p1 w wc:=⟨{ p with ns:=p.ns ++ [{ aA:=p.ct.1,next:=-1,c:=-1 }],nv:=v,ct:=Sp.aD p.ct },fK _,fK _,rfl,by rw[hcut];exact iv.drew,by rw[hcut];exact k1.trans fM.drew⟩;clear hcut iv fM h1 k1 nM c4 d2 f2 c3 c6;have eO:FR base b pb s l (o:Int) _ wc:=hx;have c4:=cell_of eO.aV 4 (v:=.pointer (some ⟨pb,0,none⟩)) rfl;have d2:=cell_of eO.prog.aV 2 (v:=.int .i64 (RowKit.wrap64 (p.ct.1+1))) (by rw[show(RowKit.wrap64 (p.ct.1+1))=p1.ct.1 by rw[hp1c];rfl];rfl);have c3:=cell_of eO.aV 3 (v:=.string ⟨(Sp.tok l).toArray⟩) rfl;rw[HT.out]at c3;have pG:RowKit.wrap64 (RowKit.wrap64 (p.ct.1+1) - 1)=p.ct.1:=by obtain⟨_,_,a1,a2⟩:=hlim;unfold RowKit.wrap64;omega
  have xz:b<wc.heap.size:=ah eO.aV;have Qj:pb<wc.heap.size:=ah eO.prog.aV;have d3:=cell_of eO.prog.aV 3 (v:=.int .i64 p.ct.2) (by rw[show p.ct.2=p1.ct.2 by rw[hp1c];rfl];rfl);have f3:=aw eO.prog.aV 3;have AX:=hid hp1c;have NL:=hid hlim;obtain⟨iv,fM⟩:=FX.iX (r:=.ok l) (p':={ p1 with ct:=Sp.aL (Sp.aD p.ct) }) hx 3 (.int .i64 (RowKit.wrap64 (p.ct.2+1))) (by have:=AG eO.prog.aV (RowKit.wrap64 (p.ct.2+1));rw[hp1c]at this;exact this) rfl rfl rfl rfl;have M0:=(hH.start { kind:=8,c:=-1,next:=-1,aA:=p.ct.1,site:=p.ct.2 } iv (hk.trans fM)).drew;rw[show(wc.setCell ⟨pb,3,none⟩ (.int .i64 (RowKit.wrap64 (p.ct.2+1)))).heap.size=wc.heap.size by simp[World.setCell]]at M0;obtain⟨p2,rQ,hp2q,HP2C,M2⟩:∃p2:FP,Hid (p2.ns=p.ns ++ [{ aA:=p.ct.1,next:=-1,c:=-1 }])/\Hid (p2.qs=p.qs)/\Hid (p2.ct=Sp.aL (Sp.aD p.ct))/\Hid (hH base b pb wc.heap.size s (.ok l) (o:Int) p p2 w { kind:=8,c:=-1,next:=-1,aA:=p.ct.1,site:=p.ct.2 } ((wc.setCell ⟨pb,3,none⟩ (.int .i64 (RowKit.wrap64 (p.ct.2+1)))).alloc (.cells (cw { kind:=8,c:=-1,next:=-1,aA:=p.ct.1,site:=p.ct.2 }).toArray 176)).drew):=⟨{ p1 with ct:=Sp.aL (Sp.aD p.ct) },rJ,hp1q,fK _,M0⟩;clear hx hk hp1c hlim M0 iv fM;go_wp2_with fail
  go_cut [] from 6 (fun wd=>wd=((wc.setCell ⟨pb,3,none⟩ (.int .i64 (RowKit.wrap64 (p.ct.2+1)))).alloc (.cells (cw { kind:=8,c:=-1,next:=-1,aA:=p.ct.1,site:=p.ct.2 }).toArray 176)).drew)
  case first =>
   clear M2 HT jd AX NL
   go_region_with (fail)
   all_goals
    go_wp2_with fail;go_meet;rw[IntWalk.i64_left]
    all_goals exact rfl
  case rest =>
   rw[<-hcut]at M2;have pH:Hid (eQ p2 (Sp.next l)):=oZ NL.out rQ.out hp2q.out (by rw[HP2C.out];exact fA _) jd.out;clear hcut rJ hp1q AX NL c3 c4 d2 d3 f3 eO;go_wp2_with fail;refine(dP (FR.yY M2.fx)).mono ?_;rintro e w2⟨rfl,h2,k2⟩;have M3:=hid (M2.call (r':=.ok (Sp.next l)) h2 k2);have H2:Hid (FR base b pb s (Sp.next l) (o:Int) p2 w2):=h2;clear M2 h2 k2;go_wp2_with fail;refine(oK ho H2.out pH.out).mono ?_;rintro e w3⟨kc,p3,rfl,h3,k3,g3⟩;have HD:Hid (p3.ns[p.ns.length]?=some { aA:=p.ct.1,next:=-1,c:=-1 }):=lR rQ.out (MA g3);have G3:=hid g3;have M4:=M3.call h3 k3;obtain⟨e1,f1⟩:=M4.box.cell 1 rfl;have M5:=hid (M4.set 1 (.int .i64 kc) (n':={ kind:=8,c:=-1,next:=-1,aA:=p.ct.1,site:=p.ct.2,a:=kc }) rfl);clear M4 M3 h3 k3 g3 H2;go_wp2_with fail;refine(rp M5.fx [59]).mono ?_;rintro e w4⟨rfl,h4,k4⟩;have M9:=hid (M5.call h4 k4);clear M5 h4 k4;obtain⟨g,cap,hv,mm,hmax,mr,hj,a4,a0,⟨n0,n1,n2,n3,n4,n5,n6,n7,n8,n9⟩,⟨r0,r1,r2,r3,r4,r5,r6,r7,r8,r9⟩,q0,q1,q2,q3,q4,q5,q6,q7,q8,q9⟩:=M9.facts (j:=p.ns.length) (d:={ aA:=p.ct.1,next:=-1,c:=-1 }) HD.out;go_wp2_with fail
   go_cut [] from 6 (fun wc=>wc=(qY w4 g (p.ns.length*10) { kind:=8,c:=-1,next:=-1,aA:=p.ct.1,site:=p.ct.2,a:=kc }).drew)
   case first =>
    clear M9 HT HD pH jd G3
    go_region_with (fail)
    all_goals
     go_wp2_with fail;go_meet;exact rfl
   case rest =>
    obtain⟨h6,k6⟩:=jX M9.fx { kind:=8,c:=-1,next:=-1,aA:=p.ct.1,site:=p.ct.2,a:=kc } hv (j:=p.ns.length) (d:={ aA:=p.ct.1,next:=-1,c:=-1 }) HD.out;go_wp2_with fail;go_ret;have G9:=E6 (n:={ kind:=8,c:=-1,next:=-1,aA:=p.ct.1,site:=p.ct.2,a:=kc }) (kc:=kc) rQ.out hp2q.out HP2C.out jd.out G3.out rfl rfl rfl rfl rfl;rw[hcut];exact lS (Ai o l) h6.drew (M9.fk.trans k6).drew G9
end
section
theorem xI(base b pb:Nat)(s:ByteArray)(o:Nat)(ho:o<=12)(l:Sp.Bs)(p:FP)(w:Wd)(h:FR base b pb s l (o:Int) p w)(hlim:eQ p l)(hv:aR l≠none) :
  Calls prog 99 #[.pointer (some ⟨b,0,none⟩)] w (mB base b pb s o p l w (cy Tr o l)):=by
 obtain⟨c6,c3,dI,uP⟩:=h.asks;have c4:=cell_of h.aV 4 (v:=.pointer (some ⟨pb,0,none⟩)) rfl;have d2:=cell_of h.prog.aV 2 (v:=.int .i64 p.ct.1) rfl;have HV:=hid hv;have jd:Hid (∀l2,(left (dE l)).bind (Sp.take [61])=.ok l2->l2.length<l.length):=by
  intro l2 e;cases hq:aR l with
  | none=>exact absurd hq hv
  | some kk =>have h1:(Sp.next l).length<l.length:=fL (dc (.inl (eZ hq)));rw[iz hq]at e;have e':Sp.take [61] (Sp.next l)=.ok l2:=e;obtain⟨_,h2⟩:=bU e';have:=cj (Sp.next l);rw[h2];omega
 obtain⟨t,HT,n1,n2,n3,n4⟩:∃t:ByteArray,Hid (t=⟨(Sp.tok l).toArray⟩)/\(t.toList == [114,101,97,100])=false/\(t.toList == [97,115,115,101,114,116])=false/\(t.toList == [105,102])=false/\(t.toList == [119,104,105,108,101])=false:=by
  cases hq:aR l with
  | none=>exact absurd hq hv
  | some kk =>obtain⟨c,ht,_⟩:=dK hq;refine⟨⟨(Sp.tok l).toArray⟩,fK _,?_,?_,?_,?_⟩<;>(rw[ByteArray.toList_eq];simp[ht])
 have kC:p.ns.length+1<=1000000:=by have:=hlim.1;omega
 clear dI hv;go_enter func99,ntmps99;go_wp2_with fail;refine(eL (r:=.ok l) h { aA:=p.ct.1,next:=-1,c:=-1 } kC).mono ?_;rintro e w1⟨rfl,v,h1,k1⟩;have nM:FR base b pb s l (o:Int) _ w1:=h1;have c4:=cell_of nM.aV 4 (v:=.pointer (some ⟨pb,0,none⟩)) rfl;have d2:=cell_of nM.prog.aV 2 (v:=.int .i64 p.ct.1) rfl;have f2:=aw nM.prog.aV 2;go_wp2_with fail
 go_cut [] from 6 (fun wc=>wc=(w1.setCell ⟨pb,2,none⟩ (.int .i64 (RowKit.wrap64 (p.ct.1+1)))).drew)
 case first =>
  go_region_with (fail)
  all_goals
   go_wp2_with fail;go_meet;rw[IntWalk.i64_left]
 case rest =>
  obtain⟨iv,fM⟩:=FX.iX (r:=.ok l) (p':={ p with ns:=p.ns ++ [{ aA:=p.ct.1,next:=-1,c:=-1 }],nv:=v,ct:=Sp.aD p.ct }) h1 2 (.int .i64 (RowKit.wrap64 (p.ct.1+1))) (lK h1.prog.aV _) rfl rfl rfl rfl;obtain⟨p1,rJ,hp1q,hp1c,hx,hk⟩:∃p1:FP,Hid (p1.ns=p.ns ++ [{ aA:=p.ct.1,next:=-1,c:=-1 }])/\Hid (p1.qs=p.qs)/\p1.ct=Sp.aD p.ct/\FX base b pb s (.ok l) (o:Int) p1 wc/\FK b pb p p1 w wc:=⟨{ p with ns:=p.ns ++ [{ aA:=p.ct.1,next:=-1,c:=-1 }],nv:=v,ct:=Sp.aD p.ct },fK _,fK _,rfl,by rw[hcut];exact iv.drew,by rw[hcut];exact k1.trans fM.drew⟩;clear hcut iv fM h1 k1 nM c4 d2 f2 c3 c6;have eO:FR base b pb s l (o:Int) _ wc:=hx;have c4:=cell_of eO.aV 4 (v:=.pointer (some ⟨pb,0,none⟩)) rfl;have d2:=cell_of eO.prog.aV 2 (v:=.int .i64 (RowKit.wrap64 (p.ct.1+1))) (by rw[show(RowKit.wrap64 (p.ct.1+1))=p1.ct.1 by rw[hp1c];rfl];rfl);have c3:=cell_of eO.aV 3 (v:=.string ⟨(Sp.tok l).toArray⟩) rfl;rw[<-HT.out]at c3;have pG:RowKit.wrap64 (RowKit.wrap64 (p.ct.1+1) - 1)=p.ct.1:=by obtain⟨_,_,a1,a2⟩:=hlim;unfold RowKit.wrap64;omega
  have xz:b<wc.heap.size:=ah eO.aV;have Qj:pb<wc.heap.size:=ah eO.prog.aV;have AX:=hid hp1c;have pH:Hid (∀l1:Sp.Bs,l1.length<l.length->eQ p1 l1):=fun l1 uT=>oZ hlim rJ.out hp1q.out (by rw[hp1c];exact fA _) uT
  have M0:Hid (hH base b pb wc.heap.size s _ _ _ _ _ _ _):=hH.start { kind:=6,c:=-1,next:=-1,aA:=p.ct.1 } hx hk;clear hx hk hp1c hlim;go_wp2_with fail;refine(Di (FR.yY M0.fx)).mono ?_;rintro e w3⟨k,rfl,h3,k3,Oh⟩;have YC:=hid Oh;clear Oh;have M2:=M0.call h3 k3;obtain⟨e4,f4⟩:=M2.box.cell 4 rfl;have M3:=hid (M2.set 4 (.int .i64 k) (n':={ kind:=6,c:=-1,next:=-1,aA:=p.ct.1,n:=k }) rfl);clear M2 M0 h3 k3;go_wp2_with fail;refine(rp M3.fx [61]).mono ?_;rintro e w4⟨rfl,h4,k4⟩;have M4:=hid (M3.call h4 k4);clear M3 h4 k4;go_wp2_with fail;refine(wX (o:=o) (n:=l.length) (u:=Sp.pS Tr o) (fun l1 e1=>⟨fun l p w _ h hl=>vK ho h hl,jd.out l1 e1,pH.out l1 (jd.out l1 e1)⟩) (Dl base b pb s) M4.fx).mono ?_;rintro e w5⟨ka,p3,rfl,h5,k5,g5,e5⟩;have G5:=hid (And.intro g5 e5);have HD:Hid (p3.ns[p.ns.length]?=some { aA:=p.ct.1,next:=-1,c:=-1 }):=lR rJ.out (wI (fun l1 e1=>Vl (g5 l1 e1)) e5);have M5:=M4.call h5 k5;obtain⟨e1,f1⟩:=M5.box.cell 1 rfl;have M6:=hid (M5.set 1 (.int .i64 ka) (n':={ kind:=6,c:=-1,next:=-1,aA:=p.ct.1,n:=k,a:=ka }) rfl);clear M5 M4 h5 k5 g5 e5;go_wp2_with fail;refine(rp M6.fx [59]).mono ?_;rintro e w4⟨rfl,h4,k4⟩;have M4:=M6.call h4 k4;obtain⟨g,cap,hv,mm,hmax,mr,hj,a4,a0,⟨n0,n1,n2,n3,n4,n5,n6,n7,n8,n9⟩,⟨r0,r1,r2,r3,r4,r5,r6,r7,r8,r9⟩,q0,q1,q2,q3,q4,q5,q6,q7,q8,q9⟩:=M4.facts (j:=p.ns.length) (d:={ aA:=p.ct.1,next:=-1,c:=-1 }) HD.out;have M5:=hid M4;clear M6 M4 h4 k4;go_wp2_with fail
  go_cut [] from 6 (fun wc=>wc=(qY w4 g (p.ns.length*10) { kind:=6,c:=-1,next:=-1,aA:=p.ct.1,n:=k,a:=ka }).drew)
  case first =>
   clear M5 HT HD G5 pH YC jd HV
   go_region_with (fail)
   all_goals
    go_wp2_with fail;go_meet;exact rfl
  case rest =>
   obtain⟨h6,k6⟩:=jX M5.fx { kind:=6,c:=-1,next:=-1,aA:=p.ct.1,n:=k,a:=ka } hv (j:=p.ns.length) (d:={ aA:=p.ct.1,next:=-1,c:=-1 }) HD.out;go_wp2_with fail;go_ret;have G6:=Ev (n:={ kind:=6,c:=-1,next:=-1,aA:=p.ct.1,n:=k,a:=ka }) (k:=k) (ka:=ka) rJ.out hp1q.out AX.out YC.out HV.out G5.1 G5.2 rfl rfl rfl rfl rfl;rw[hcut];exact lS (zO o l) h6.drew (M5.fk.trans k6).drew G6
end
section
section
variable{base b pb o n:Nat}
variable{s:ByteArray}
variable{w:Wd}
theorem uf(base b pb:Nat)(s:ByteArray):yM 66 base b pb s (-1):=by
 intro er p w h;obtain⟨q,t,c6,hz,ek,c3⟩:=h.asks;go_enter func66,ntmps66;go_wp2_with fail
 go_loopw [3,4] (fun a c wr=>a=.int .i64 (-1)/\c=.int .i64 (-1)/\wr=w) (fun _ _ _=>0)
 case atStart=>exact⟨rfl,rfl,rfl⟩
 case round =>
  obtain⟨rfl,rfl,rfl⟩:=hrel;go_wp2_with fail;go_ret;exact⟨rfl,rfl⟩
def Pv(base b pb:Nat)(s:ByteArray)(o:Nat)(p:FP)(l:Sp.Bs)(w:Wd)(st:Sp.Bs->Sp.R (Bl->Bl))(fin:Sp.R (List (Bl->Bl)))(first last:Int)(wr:Wd):Prop :=
 ∃(cur:Sp.R (List (Bl->Bl))) (pc:FP),FX base b pb s (left cur) (o:Int) pc wr/\FK b pb p pc w wr/\Fl p pc l first last cur/\ve st fin cur
theorem pk{fs:List (Bl->Bl)}{r:Sp.R (Bl->Bl)}{o:Int}{p:FP}(h:FX base b pb s (left r) o p w):FX base b pb s (left (nh fs r)) o p w:=by rcases r with e | ⟨y,l⟩<;>exact h
theorem kV(base b pb:Nat)(s:ByteArray)(o n:Nat)(st:Sp.Bs->Sp.R (Bl->Bl))(cW:∀l f l1,st l=.ok (f,l1)->l1.length<l.length)(hr:mR base b pb s o n st)
  (l:Sp.Bs) (p:FP) (w:Wd) (hl:l.length<n) (h:FR base b pb s l (o:Int) p w) (hlim:eQ p l) (m:Nat) (hm:l.length<m) :
  Calls prog 66 #[.pointer (some ⟨b,0,none⟩)] w (Aq base b pb s o p l w (dh Tr st m [] l)):=by
 have HR:=hid hr;have HD:Hid (∀l f l1,st l=.ok (f,l1)->l1.length<l.length):=cW;have HC:Hid (Pv base b pb s o p l w st (dh Tr st m [] l) (-1) (-1) w):=⟨.ok ([],l),p,h,FK.refl _ _ _ _,⟨bQ.xC (Nat.le_refl _),⟨[],by simp,fun rest=>rfl⟩,.inl ⟨rfl,rfl,rfl,rfl,rfl⟩⟩,⟨m,hm,rfl⟩⟩;clear hr cW h;go_enter func66,ntmps66;go_wp2_with fail
 go_loopw [3,4] (fun a c wr=>∃fi la:Int,a=.int .i64 fi/\c=.int .i64 la/\Hid (Pv base b pb s o p l w st (dh Tr st m [] l) fi la wr)) (fun _ _ wr=>nG b s wr)
 case atStart=>exact⟨-1,-1,rfl,rfl,HC⟩
 case round =>
  obtain⟨fi,la,rfl,rfl,ml⟩:=hrel;obtain⟨cur,pc,hx,hk,hg,tL⟩:=ml.out
  rcases cur with er | ⟨fs,lc⟩
  ·obtain⟨q,t,c6,hz,ek,c3⟩:=FE.asks (show FE base b pb s er pc wr from hx)
   have HF:Hid (Aq base b pb s o p l w (dh Tr st m [] l) (.returned (.int .i64 fi)) wr):=by unfold Hid;rw[show dh Tr st m [] l=.error er from tL];exact⟨fi,pc,rfl,hx,hk,Ca hg⟩
   clear hx hk hg tL ml HC;go_wp2_with fail;go_ret;exact HF.out
  ·have eO:FR base b pb s lc (o:Int) pc wr:=hx
   obtain⟨c6,c3,dI,uP⟩:=eO.asks;have HN:Hid (∀w,Calls prog 98 #[.string ⟨(Sp.tok lc).toArray⟩] w fun e w'=>e=.returned (.bool (cN lc))/\w'=w):=xL lc uP;cases Te:cN lc with
   | false =>
    have HF:Hid (Aq base b pb s o p l w (dh Tr st m [] l) (.returned (.int .i64 fi)) wr):=by unfold Hid;rw[Cd tL Te];exact⟨fi,pc,rfl,hx,hk,Ca hg⟩
    rw[Te]at HN;generalize (⟨(Sp.tok lc).toArray⟩:ByteArray)=t at *;clear hx hk hg tL ml HC eO Te;go_wp2_with fail;refine(HN.out _).mono ?_;rintro e w1⟨rfl,rfl⟩;go_wp2_with fail;go_ret;exact HF.out
   | true =>
    rw[Te]at HN;have XX:lc.length<=l.length:=by have:=hg.1.nl;have:=hg.1.len;omega
    have HL:Hid (eQ pc lc):=hg.1.DI hlim;have HW:=hid eO.rest;have HG:Hid (Fl p pc l fi la (.ok (fs,lc))/\cN lc=true/\ve st (dh Tr st m [] l) (nh fs (st lc))/\FK b pb p pc w wr):=⟨hg,Te,Bt tL Te HD.out,hk⟩;have zj:∀{first last:Int} {p':FP} {w':Wd},FX base b pb s (left (nh fs (st lc))) (o:Int) p' w'->nG b s w'<=lc.length:=fun hf=>hf.pd (fun fs' l' e=>by
     rcases hs:st lc with er | ⟨f,l1⟩
     ·rw[hs]at e;cases e
     ·rw[hs]at e;cases e;exact HD.out _ _ _ hs)
    have HDR:Hid (∀{p':FP} {w':Wd},FX base b pb s (left (nh fs (st lc))) (o:Int) p' w'->nG b s w'<=lc.length):=fun hf=>zj (first:=0) (last:=0) hf
    generalize (⟨(Sp.tok lc).toArray⟩:ByteArray)=t at *;clear hx hk hg tL ml HC Te zj;by_cases hfi:fi<0
    ·go_wp2_with fail
     refine(HN.out _).mono ?_;rintro e w1⟨rfl,rfl⟩;go_wp2_with fail;refine(HR.out lc pc _ (by omega) eO HL.out HG.2.1).mono ?_;rintro e w2⟨p',rfl,h2,k2,g2⟩;have ym:Hid (Pv base b pb s o p l w st (dh Tr st m [] l) (pc.ns.length:Nat) (pc.ns.length:Nat) w2/\nG b s w2<=lc.length):=⟨⟨_,p',pk h2,HG.2.2.2.trans k2,EM HG.1 hfi g2,HG.2.2.1⟩,HDR.out (pk h2)⟩;clear h2 k2 g2;go_wp2_with fail;exact⟨⟨_,_,rfl,rfl,ym.1⟩,by rw[HW.out];have:=ym.2;omega⟩
    ·obtain⟨j,hj,dW⟩:∃j:Nat,la=(j:Int)/\j<pc.ns.length:=by
      obtain⟨_,_,hc⟩:=HG.1
      rcases hc with⟨_,h1,_⟩ | ⟨_,j,d,e1,_,e2,_⟩
      ·omega
      ·exact⟨j,e1,e2⟩
     subst hj;go_wp2_with fail;refine(HN.out _).mono ?_;rintro e w1⟨rfl,rfl⟩;go_wp2_with fail;refine(HR.out lc pc _ (by omega) eO HL.out HG.2.1).mono ?_;rintro e w2⟨p',rfl,h2,k2,g2⟩;have hlen:pc.ns.length<=p'.ns.length:=by
      rcases hs:st lc with er | ⟨f,l1⟩
      ·rw[hs]at g2;exact du.len g2
      ·rw[hs]at g2;exact g2.1.len
     have Zh:j<p'.ns.length:=by omega
     obtain⟨dl,Ur⟩:∃dl,p'.ns[j]?=some dl:=⟨_,List.getElem?_eq_getElem Zh⟩;obtain⟨g,cap,hv,mm,hmax⟩:=h2.prog.slice (by omega);obtain⟨i',a',t',o',Yr,DS⟩:=h2.Ln;have d4:=cell_of DS 4 (v:=.pointer (some ⟨pb,0,none⟩)) rfl;have d0:=cell_of h2.prog.aV 0 (v:=p'.nv) rfl;rw[hv]at d0;obtain⟨e5,f5⟩:=h2.prog.cells (c:=5) (u:=.int .i64 dl.next) hv Ur (by omega) rfl;obtain⟨h3,k3⟩:=h2.wY (c:=5) (u:=.int .i64 (pc.ns.length:Nat)) (d':={ dl with next:=(pc.ns.length:Int) }) hv Ur (by omega) rfl;have ym:Hid (Pv base b pb s o p l w st (dh Tr st m [] l) fi (pc.ns.length:Nat) (w2.setCell ⟨g,j*10+5,none⟩ (.int .i64 (pc.ns.length:Nat)))/\nG b s (w2.setCell ⟨g,j*10+5,none⟩ (.int .i64 (pc.ns.length:Nat)))<=lc.length):=⟨⟨_,_,pk h3,(HG.2.2.2.trans k2).trans k3,Il HG.1 (by omega) g2 Ur,HG.2.2.1⟩,HDR.out (pk h3)⟩;have h5:p'.ns.length<=1000000:=h2.prog.n5;clear h2 k2 g2 h3 k3 DS;go_wp2_with fail;exact⟨⟨_,_,rfl,rfl,ym.1⟩,by rw[HW.out];have:=ym.2;omega⟩
theorem xM{o:Nat}{st:Sp.Bs->Sp.R (Bl->Bl)}(cW:∀l f l1,st l=.ok (f,l1)->l1.length<l.length){r:Except (Nat × Nat) Sp.Bs}{p:FP}(hr:∀l,r=.ok l->mR base b pb s o n st/\l.length<n/\eQ p l)(h:FX base b pb s r (o:Int) p w) :
  Calls prog 66 #[.pointer (some ⟨b,0,none⟩)] w fun e w'=>∃(k:Int) (p':FP),e=.returned (.int .i64 k)/\FX base b pb s (r.bind fun l=>left (dh Tr st (l.length+1) [] l)) (o:Int) p' w'/\FK b pb p p' w w'/\(∀l,r=.ok l->nK p p' l k (dh Tr st (l.length+1) [] l))/\(∀e,r=.error e->p'=p):=by
 cases r with
 | ok l =>obtain⟨h1,h2,h3⟩:=hr l rfl;refine(kV base b pb s o n st cW h1 l p w h2 h h3 (l.length+1) (by omega)).mono ?_;rintro e w'⟨k,p',rfl,h1,k1,g1⟩;exact⟨k,p',rfl,h1,k1,fun l' hl=>by cases hl;exact g1,fun _ hl=>nomatch hl⟩
 | error e =>refine(uf base b pb s e p w h).mono ?_;rintro e' w'⟨rfl,rfl⟩;exact⟨-1,p,rfl,h,FK.refl _ _ _ _,(fun _ hl=>nomatch hl),fun _ _=>rfl⟩
theorem wO{o:Nat}(ho:o<=12){st:Sp.Bs->Sp.R (Bl->Bl)}(cW:∀l f l1,st l=.ok (f,l1)->l1.length<l.length){r:Except (Nat × Nat) Sp.Bs}{p:FP}(hr:o<12->mR base b pb s (o+1) n st)(hl:∀l,r=.ok l->l.length<n+1/\eQ p l)(h:FX base b pb s r (o:Int) p w) :
  Calls prog 134 #[.pointer (some ⟨b,0,none⟩)] w fun e w'=>∃(k:Int) (p':FP),e=.returned (.int .i64 k)/\FX base b pb s (r.bind fun l=>left (bD Tr st o l)) (o:Int) p' w'/\FK b pb p p' w w'/\(∀l,r=.ok l->nK p p' l k (bD Tr st o l))/\(∀e,r=.error e->p'=p):=by
 have H:=hid h;have HR:=hid hr;have HD:Hid (∀l f l1,st l=.ok (f,l1)->l1.length<l.length):=cW;have HL:Hid (∀l1,r.bind (Sp.enter [123] o)=.ok l1->∃l,r=.ok l/\Sp.enter [123] o l=.ok l1/\l1.length<n/\eQ p l1/\l1.length<l.length/\o<12):=by
  intro l1 e
  rcases r with er | l
  ·cases e
  ·have e':Sp.enter [123] o l=.ok l1:=e
   obtain⟨ht,rR,rfl⟩:=cE e';have:=aI ht (by simp);obtain⟨a1,a2⟩:=hl l rfl;exact⟨l,rfl,e',by omega,(bQ.xC (by omega)).DI a2,this,by omega⟩
 clear h hr cW hl;go_enter func134,ntmps134;go_wp2_with fail;refine(O4 ho H.out [123]).mono ?_;rintro e w1⟨rfl,h1,k1⟩;go_wp2_with fail;refine(xM HD.out (n:=n) (fun l1 e1=>by obtain⟨l,_,_,a3,a4,_,a6⟩:=HL.out l1 e1;exact⟨HR.out a6,a3,a4⟩) h1).mono ?_
 rintro e w2⟨k,p',rfl,h2,k2,g2,e2⟩;have G2:=hid (And.intro g2 e2);clear g2 e2;go_wp2_with fail;refine(Gv (by omega) h2 [125]).mono ?_;rintro e w3⟨rfl,h3,k3⟩;go_wp2_with fail;go_ret;refine⟨k,p',rfl,?_,(k1.trans k2).trans k3,?_,?_⟩
 ·rcases r with er | l
  ·exact h3
  ·have xx:FX base b pb s (((Sp.enter [123] o l).bind fun l=>left (dh Tr st (l.length+1) [] l)).bind (Sp.take [125])) (o:Int) p' w3:=h3
   show FX base b pb s (left (bD Tr st o l)) (o:Int) p' w3;unfold bD;cases he:Sp.enter [123] o l with
   | error e=>rw[he]at xx;exact xx
   | ok l1 =>
    rw[he]at xx;simp only[Except.bind]at xx ⊢
    rcases hm:dh Tr st (l1.length+1) [] l1 with e | ⟨fs,l2⟩
    ·rw[hm]at xx;exact xx
    ·rw[hm]at xx
     simp only[left]at xx ⊢;cases AY:Sp.take [125] l2 with
     | error e=>rw[AY]at xx;exact xx
     | ok l3=>rw[AY]at xx;exact xx
 ·intro l hr
  subst hr;unfold bD;cases he:Sp.enter [123] o l with
  | error e =>have:=G2.2 e (by show Sp.enter [123] o l=_;exact he);subst this;exact du.refl _ _
  | ok l1 =>
   obtain⟨l',e1,_,_,_,a5,_⟩:=HL.out l1 he;cases e1
   have g:=G2.1 l1 he;simp only
   rcases hm:dh Tr st (l1.length+1) [] l1 with e | ⟨fs,l2⟩
   ·rw[hm]at g
    exact du.more (l1:=l1) g (by omega)
   ·rw[hm]at g
    obtain⟨m1,g2,g3⟩:=g;have uQ:bQ p p' l l2:=(bQ.xC (by omega)).trans m1;simp only;cases AY:Sp.take [125] l2 with
    | error e=>exact du.rl uQ
    | ok l3 =>obtain⟨_,h3⟩:=bU AY;exact⟨uQ.trans (bQ.xC (by rw[h3];exact cj _)),g2,g3⟩
 ·intro e hr
  subst hr;exact G2.2 e rfl
end
end
section
theorem Jd(base b pb:Nat)(s:ByteArray)(o n:Nat)(ho:o<=12)(st:Sp.Bs->Sp.R (Bl->Bl))(cW:∀l f l1,st l=.ok (f,l1)->l1.length<l.length)(hr:o<12->mR base b pb s (o+1) n st)(NM:∀l,aS Tr st o l=bD Tr st o l)(l:Sp.Bs)(p:FP)(w:Wd)(hn:l.length<n+1)(h:FR base b pb s l (o:Int) p w)(hlim:eQ p l)(ht:Sp.tok l=Qw) :
  Calls prog 99 #[.pointer (some ⟨b,0,none⟩)] w (mB base b pb s o p l w (qF Tr (fun l=>aS Tr st o l) o l)):=by
 have HR:=hid hr;have Ba:=hid cW;have yg:=hid NM;clear hr cW NM;obtain⟨c6,c3,dI,uP⟩:=h.asks;have c4:=cell_of h.aV 4 (v:=.pointer (some ⟨pb,0,none⟩)) rfl;have d2:=cell_of h.prog.aV 2 (v:=.int .i64 p.ct.1) rfl;have HT:=hid ht;have jd:Hid ((Sp.next l).length<l.length):=aI ht (by decide);have kC:p.ns.length+1<=1000000:=by have:=hlim.1;omega
 clear dI ht;go_enter func99,ntmps99;go_wp2_with fail;refine(eL (r:=.ok l) h { aA:=p.ct.1,next:=-1,c:=-1 } kC).mono ?_;rintro e w1⟨rfl,v,h1,k1⟩;have nM:FR base b pb s l (o:Int) _ w1:=h1;have c4:=cell_of nM.aV 4 (v:=.pointer (some ⟨pb,0,none⟩)) rfl;have d2:=cell_of nM.prog.aV 2 (v:=.int .i64 p.ct.1) rfl;have f2:=aw nM.prog.aV 2;go_wp2_with fail
 go_cut [] from 6 (fun wc=>wc=(w1.setCell ⟨pb,2,none⟩ (.int .i64 (RowKit.wrap64 (p.ct.1+1)))).drew)
 case first =>
  go_region_with (fail)
  all_goals
   go_wp2_with fail;go_meet;rw[IntWalk.i64_left]
 case rest =>
  obtain⟨iv,fM⟩:=FX.iX (r:=.ok l) (p':={ p with ns:=p.ns ++ [{ aA:=p.ct.1,next:=-1,c:=-1 }],nv:=v,ct:=Sp.aD p.ct }) h1 2 (.int .i64 (RowKit.wrap64 (p.ct.1+1))) (lK h1.prog.aV _) rfl rfl rfl rfl;obtain⟨p1,rJ,hp1q,hp1c,hx,hk⟩:∃p1:FP,Hid (p1.ns=p.ns ++ [{ aA:=p.ct.1,next:=-1,c:=-1 }])/\Hid (p1.qs=p.qs)/\p1.ct=Sp.aD p.ct/\FX base b pb s (.ok l) (o:Int) p1 wc/\FK b pb p p1 w wc:=⟨{ p with ns:=p.ns ++ [{ aA:=p.ct.1,next:=-1,c:=-1 }],nv:=v,ct:=Sp.aD p.ct },fK _,fK _,rfl,by rw[hcut];exact iv.drew,by rw[hcut];exact k1.trans fM.drew⟩;clear hcut iv fM h1 k1 nM c4 d2 f2 c3 c6;have eO:FR base b pb s l (o:Int) _ wc:=hx;have c4:=cell_of eO.aV 4 (v:=.pointer (some ⟨pb,0,none⟩)) rfl;have d2:=cell_of eO.prog.aV 2 (v:=.int .i64 (RowKit.wrap64 (p.ct.1+1))) (by rw[show(RowKit.wrap64 (p.ct.1+1))=p1.ct.1 by rw[hp1c];rfl];rfl);have c3:=cell_of eO.aV 3 (v:=.string ⟨(Sp.tok l).toArray⟩) rfl;rw[HT.out]at c3;have pG:RowKit.wrap64 (RowKit.wrap64 (p.ct.1+1) - 1)=p.ct.1:=by obtain⟨_,_,a1,a2⟩:=hlim;unfold RowKit.wrap64;omega
  have xz:b<wc.heap.size:=ah eO.aV;have Qj:pb<wc.heap.size:=ah eO.prog.aV;have AX:=hid hp1c;have pH:Hid (∀l1:Sp.Bs,l1.length<l.length->eQ p1 l1):=fun l1 uT=>oZ hlim rJ.out hp1q.out (by rw[hp1c];exact fA _) uT
  have M0:Hid (hH base b pb wc.heap.size s _ _ _ _ _ _ _):=hH.start { kind:=9,c:=-1,next:=-1,aA:=p.ct.1 } hx hk;clear hx hk hp1c hlim;go_wp2_with fail;refine(dP (FR.yY M0.fx)).mono ?_;rintro e w2⟨rfl,h2,k2⟩;have M3:=hid (M0.call (r':=.ok (Sp.next l)) h2 k2);have H2:Hid (FR base b pb s (Sp.next l) (o:Int) p1 w2):=h2;clear M0 h2 k2 eO;go_wp2_with fail;refine(oK ho H2.out (pH.out _ jd.out)).mono ?_;rintro e w3⟨kc,p3,rfl,h3,k3,g3⟩;have Vv:Hid (∃ex,p3.ns=p1.ns ++ ex):=MA g3;have G3:=hid g3;have TB:Hid (∀l1,left (bn Tr o (Sp.next l))=.ok l1->l1.length<n+1/\eQ p3 l1):=by
   intro l1 e1;have a1:=jd.out;have a2:=pH.out _ jd.out
   rcases hC:bn Tr o (Sp.next l) with er | ⟨⟨rel,x,y⟩,l2⟩
   ·rw[hC]at e1;cases e1
   ·rw[hC]at g3 e1
    cases e1
    have m:=g3.1;exact⟨by have:=j6 (A:=Tr) hC;omega,m.DI a2⟩
  have M4:=M3.call h3 k3;obtain⟨e1,f1⟩:=M4.box.cell 1 rfl;have M5:=hid (M4.set 1 (.int .i64 kc) (n':={ kind:=9,c:=-1,next:=-1,aA:=p.ct.1,a:=kc }) rfl);clear M4 M3 h3 k3 g3 H2;go_wp2_with fail;refine(wO ho Ba.out HR.out TB.out M5.fx).mono ?_;rintro e w4⟨kb,p4,rfl,h4,k4,g4,e4⟩;have S4:Hid (∃ex,p4.ns=p1.ns ++ ex):=sH Vv.out (wI (fun l1 e1=>MG (g4 l1 e1)) e4);have HD:Hid (p4.ns[p.ns.length]?=some { aA:=p.ct.1,next:=-1,c:=-1 }):=lR rJ.out S4.out;have G4:=hid (And.intro g4 e4);have M6:=M5.call h4 k4;obtain⟨e2,f2⟩:=M6.box.cell 2 rfl;have M8:Hid (hH base b pb wc.heap.size s (fT st o l) (o:Int) p p4 w { kind:=9,c:=-1,next:=-1,aA:=p.ct.1,a:=kc,b:=kb } (w4.setCell ⟨wc.heap.size,2,none⟩ (.int .i64 kb))):=hH.Vi (yU st o l) (M6.set 2 (.int .i64 kb) (n':={ kind:=9,c:=-1,next:=-1,aA:=p.ct.1,a:=kc,b:=kb }) rfl);have H4:Hid (FX base b pb s (fT st o l) (o:Int) p4 w4):=FX.cast (yU st o l) h4;clear M6 M5 h4 k4 g4 e4 TB Vv
  rcases hW:fT st o l with er | l2
  ·have HW:=hid hW
   have M9:Hid (hH base b pb wc.heap.size s (.error er) (o:Int) p p4 w { kind:=9,c:=-1,next:=-1,aA:=p.ct.1,a:=kc,b:=kb } (w4.setCell ⟨wc.heap.size,2,none⟩ (.int .i64 kb))):=by have:=M8.out;rw[hW]at this;exact this
   clear M8 hW;obtain⟨q,t,c6,hz,ek,c3⟩:=FE.asks (show FE base b pb s er p4 w4 from by have:=H4.out;rw[HW.out]at this;exact this);clear H4;obtain⟨g,cap,hv,mm,hmax,mr,hj,a4,a0,⟨n0,n1,n2,n3,n4,n5,n6,n7,n8,n9⟩,⟨r0,r1,r2,r3,r4,r5,r6,r7,r8,r9⟩,q0,q1,q2,q3,q4,q5,q6,q7,q8,q9⟩:=M9.facts (j:=p.ns.length) (d:={ aA:=p.ct.1,next:=-1,c:=-1 }) HD.out;go_wp2_with fail;generalize w4.setCell ⟨wc.heap.size,2,none⟩ (.int .i64 kb)=wd at *
   go_cut [] from 6 (fun wc=>wc=(qY wd g (p.ns.length*10) { kind:=9,c:=-1,next:=-1,aA:=p.ct.1,a:=kc,b:=kb }).drew)
   case first =>
    clear M9 HT HD pH jd G3 G4 HR Ba yg HW
    go_region_with (fail)
    all_goals
     go_wp2_with fail;go_meet;exact rfl
   case rest =>
    obtain⟨h6,k6⟩:=jX M9.fx { kind:=9,c:=-1,next:=-1,aA:=p.ct.1,a:=kc,b:=kb } hv (j:=p.ns.length) (d:={ aA:=p.ct.1,next:=-1,c:=-1 }) HD.out;go_wp2_with fail;go_ret;have G9:=Fy (n:={ kind:=9,c:=-1,next:=-1,aA:=p.ct.1,a:=kc,b:=kb }) (kc:=kc) (kb:=kb) yg.out rJ.out jd.out G3.out G4.1 G4.2 HW.out;rw[hcut];exact lS (Dk yg.out HW.out) h6.drew (M9.fk.trans k6).drew G9
  ·have HW:=hid hW
   have M9:Hid (hH base b pb wc.heap.size s (.ok l2) (o:Int) p p4 w { kind:=9,c:=-1,next:=-1,aA:=p.ct.1,a:=kc,b:=kb } (w4.setCell ⟨wc.heap.size,2,none⟩ (.int .i64 kb))):=by have:=M8.out;rw[hW]at this;exact this
   have eO:FR base b pb s l2 (o:Int) p4 _:=FR.yY M9.fx;have hf4:FR base b pb s l2 (o:Int) p4 w4:=by have:=H4.out;rw[hW]at this;exact this
   have c6:=cell_of hf4.aV 6 (v:=.int .i64 0) rfl;have c3:=cell_of hf4.aV 3 (v:=.string ⟨(Sp.tok l2).toArray⟩) rfl;clear M8 hW H4 hf4;by_cases he:Sp.tok l2=j0
   ·have HE:=hid he
    have Rm:Hid (l2.length<=n/\eQ p4 l2):=by
     have a1:=jd.out;have a2:=pH.out _ jd.out;have g3:=G3.out;have g4:=G4.1;have hw:=HW.out;unfold fT at hw
     rcases hC:bn Tr o (Sp.next l) with er | ⟨⟨rel,x,y⟩,l1⟩
     ·rw[hC]at hw;cases hw
     ·rw[hC]at g3 g4 hw
      have g5:=g4 l1 rfl
      rcases hB:bD Tr st o l1 with er | ⟨fs,l3⟩
      ·simp only[left,Except.bind]at hw;rw[hB]at hw;cases hw
      ·simp only[left,Except.bind]at hw
       rw[hB]at g5 hw;have:l3=l2:=by simpa using hw
       subst this;have qL:=sf Ba.out (yg.out l1 ▸ hB);have:=j6 (A:=Tr) hC;exact⟨by omega,(g3.1.trans g5.1).DI a2⟩
    rw[he]at c3;clear he;go_wp2_with fail;refine(dP eO).mono ?_;rintro e w5⟨rfl,h5,k5⟩;have QT:=hid (M9.call (r':=.ok (Sp.next l2)) h5 k5);clear M9 h5 k5 eO;go_wp2_with fail;refine(wO ho Ba.out HR.out (r:=.ok (Sp.next l2)) (fun l1 e1=>by
     cases e1
     have a:=Rm.out;have:=cj l2;exact⟨by omega,(bQ.xC (cj l2)).DI a.2⟩) QT.fx).mono ?_
    rintro e w6⟨ke,p5,rfl,h6,k6,g6,e6⟩;have G6:Hid (nK p4 p5 (Sp.next l2) ke (bD Tr st o (Sp.next l2))):=g6 _ rfl;have HD6:Hid (p5.ns[p.ns.length]?=some { aA:=p.ct.1,next:=-1,c:=-1 }):=lR rJ.out (sH S4.out (MG (g6 _ rfl)));have QP:=QT.call h6 k6;obtain⟨e3,f3⟩:=QP.box.cell 3 rfl;have Vs:=QP.set 3 (.int .i64 ke) (n':={ kind:=9,c:=ke,next:=-1,aA:=p.ct.1,a:=kc,b:=kb }) rfl;obtain⟨e9,f9⟩:=QP.box.cell 9 rfl;have M9:=hid (Vs.set 9 (.bool true) (n':={ kind:=9,c:=ke,next:=-1,aA:=p.ct.1,a:=kc,b:=kb,els:=true }) rfl);clear HD;have HD:=HD6;clear QT QP Vs h6 k6 g6 e6 HD6;obtain⟨g,cap,hv,mm,hmax,mr,hj,a4,a0,⟨n0,n1,n2,n3,n4,n5,n6,n7,n8,n9⟩,⟨r0,r1,r2,r3,r4,r5,r6,r7,r8,r9⟩,q0,q1,q2,q3,q4,q5,q6,q7,q8,q9⟩:=M9.facts (j:=p.ns.length) (d:={ aA:=p.ct.1,next:=-1,c:=-1 }) HD.out;go_wp2_with fail;generalize (w6.setCell ⟨wc.heap.size,3,none⟩ (.int .i64 ke)).setCell ⟨wc.heap.size,9,none⟩ (.bool true)=wd at *
    go_cut [] from 6 (fun wc=>wc=(qY wd g (p.ns.length*10) { kind:=9,c:=ke,next:=-1,aA:=p.ct.1,a:=kc,b:=kb,els:=true }).drew)
    case first =>
     clear M9 HT HD pH jd G3 G4 G6 HR Ba yg HW HE Rm S4
     go_region_with (fail)
     all_goals
      go_wp2_with fail;go_meet;exact rfl
    case rest =>
     obtain⟨h6,k6⟩:=jX M9.fx { kind:=9,c:=ke,next:=-1,aA:=p.ct.1,a:=kc,b:=kb,els:=true } hv (j:=p.ns.length) (d:={ aA:=p.ct.1,next:=-1,c:=-1 }) HD.out;go_wp2_with fail;go_ret;have G9:=Dr (n:={ kind:=9,c:=ke,next:=-1,aA:=p.ct.1,a:=kc,b:=kb,els:=true }) (kc:=kc) (kb:=kb) (ke:=ke) yg.out rJ.out hp1q.out AX.out jd.out G3.out G4.1 HW.out HE.out G6.out rfl rfl rfl rfl rfl rfl rfl;rw[hcut];exact lS (AT yg.out HW.out HE.out) h6.drew (M9.fk.trans k6).drew G9
   ·have HE:=hid he
    obtain⟨t,Bg,m1⟩:∃t:ByteArray,Hid (t=⟨(Sp.tok l2).toArray⟩)/\(t.toList == [101,108,115,101])=false:=⟨⟨(Sp.tok l2).toArray⟩,fK _,by rw[ByteArray.toList_eq];simpa [j0] using he⟩;rw[<-Bg.out]at c3;clear he eO;obtain⟨g,cap,hv,mm,hmax,mr,hj,a4,a0,⟨n0,n1,n2,n3,n4,n5,n6,n7,n8,n9⟩,⟨r0,r1,r2,r3,r4,r5,r6,r7,r8,r9⟩,q0,q1,q2,q3,q4,q5,q6,q7,q8,q9⟩:=M9.facts (j:=p.ns.length) (d:={ aA:=p.ct.1,next:=-1,c:=-1 }) HD.out;go_wp2_with fail;generalize w4.setCell ⟨wc.heap.size,2,none⟩ (.int .i64 kb)=wd at *
    go_cut [] from 6 (fun wc=>wc=(qY wd g (p.ns.length*10) { kind:=9,c:=-1,next:=-1,aA:=p.ct.1,a:=kc,b:=kb }).drew)
    case first =>
     clear M9 HT HD pH jd G3 G4 HR Ba yg HW HE Bg S4
     go_region_with (fail)
     all_goals
      go_wp2_with fail;go_meet;exact rfl
    case rest =>
     obtain⟨h6,k6⟩:=jX M9.fx { kind:=9,c:=-1,next:=-1,aA:=p.ct.1,a:=kc,b:=kb } hv (j:=p.ns.length) (d:={ aA:=p.ct.1,next:=-1,c:=-1 }) HD.out;go_wp2_with fail;go_ret;have G9:=CC (n:={ kind:=9,c:=-1,next:=-1,aA:=p.ct.1,a:=kc,b:=kb }) (kc:=kc) (kb:=kb) yg.out rJ.out hp1q.out AX.out jd.out G3.out G4.1 HW.out HE.out rfl rfl rfl rfl rfl rfl rfl;rw[hcut];exact lS (AI yg.out HW.out HE.out) h6.drew (M9.fk.trans k6).drew G9
end
end Go.Proofs.YtiopfihjmkfdmaaGreatDoor
