import Derived.Test.YtiopfihjmkfdmaaGreatDoorB11
import Derived.Test.YtiopfihjmkfdmaaGreatDoorB19
import Derived.ChangeKeysEq
import Derived.Laws.StructEq
namespace Go.Proofs.YtiopfihjmkfdmaaGreatDoor
open Go.Proofs.Tryz Sp
open Go.RowKit
set_option maxRecDepth 100000
set_option maxHeartbeats 16000000
section
variable{base B b g h n m:Nat}
variable{w w2 w0 w':Wd}
variable{v v' u:Value}
variable{zs:List Int}
variable{ns:List Nat}
variable{a a':Option Addr}
theorem Oz:(prog.info? 48).map (fun i=>(i.zero,i.size,i.bytes))=some (some (.int .i16 0),1,2):=by kernel_rfl
def vJ(zs:List Int):List Value:=zs.map fun z=>.int .i16 z
def rH(base:Nat)(w:Wd)(v:Value)(zs:List Int):Prop:=w.ownsRow base 48 1 v zs.length (vJ zs)
def aY(ns:List Nat):List Int:=[-32768,32767] ++ ns.flatMap fun(n:Nat)=>[((n:Nat):Int),-((n:Nat):Int)]
theorem rH.form(h:rH base w v zs):∃a c,v=.slice a zs.length c:=by
 rcases h.2 with⟨rfl,hz⟩ | ⟨g,cap,cur,rfl,_⟩
 ·exact⟨none,0,by rw[hz]⟩
 ·exact⟨_,_,rfl⟩
def pX(w:Wd)(v:Value)(ns:List Nat):Prop :=
 ∃a cap,v=.slice a ns.length cap/\(ns≠[]->∃g off,a=some ⟨g,off,none⟩/\g<w.heap.size/\∀(i n:Nat),ns[i]?=some n->w.cell? ⟨g,off+i,none⟩=some (.int .i16 ((n:Nat):Int)))
theorem Jz{x y:Int}{o:Obj}(hb:base<=w.heap.size)(h:rH base w v zs)(jG:w2.ownsRow base 48 1 v' (zs.length+2) (vJ zs ++ [.int .i16 x,.int .i16 y]))(hg:(w.alloc o).grownBy w2 v.ownBlock)(b0:Below base w0 w):rH base w2 v' (zs ++ [x,y])/\Below base w0 w2:=by refine⟨?_,b0.grown (ot hg) hb (fun k hk=>(bj h k hk).1)⟩;unfold rH vJ at *;rw[List.length_append,List.map_append];exact jG
theorem pT(ns:List Nat):(aY ns).length=2+2*ns.length:=by
 unfold aY;rw[List.length_append]
 induction ns with
 | nil=>rfl
 | cons x xs ih =>rw[List.flatMap_cons,List.length_append,List.length_cons]at *;simp only[List.length_cons,List.length_nil]at *;omega
theorem SF(v:Value)(ns:List Nat)(w:Wd)(h:pX w v ns)(hs:ns.length<=1000)(hn:∀n∈ns,n<=32767) :
  Calls prog 52 #[v] w fun e w'=>∃u,e=.returned (.agg #[u])/\rH w.heap.size w' u (aY ns)/\Below w.heap.size w w':=by
 obtain⟨i16,aai,P4,ZJ,aaq⟩:=info_parts Oz;obtain⟨ad,cap,rfl,hc⟩:=h;have HN:=hid hn;have HC:Hid (ns≠[]->_):=hc;clear hn hc;go_enter func52,ntmps52;go_wp2_with fail;have W0:Hid (rH (w.heap.size+1) ((w.alloc (.cells #[.slice none 0 0] 133)).alloc (.cells #[.int .i16 (-32768),.int .i16 32767] 48)) (.slice (some ⟨w.heap.size+1,0,none⟩) 2 2) (aY [])):=by refine⟨rfl,.inr ⟨w.heap.size+1,2,#[.int .i16 (-32768),.int .i16 32767],rfl,Nat.le_refl _,?_,Nat.le_refl _,by unfold maxLen;omega,rfl,rfl⟩⟩;have:=heap_alloc_new (w.alloc (.cells #[.slice none 0 0] 133)) (.cells #[.int .i16 (-32768),.int .i16 32767] 48);simpa using this
 have jo:((w.alloc (.cells #[.slice none 0 0] 133)).alloc (.cells #[.int .i16 (-32768),.int .i16 32767] 48)).heap[w.heap.size]?=some (.cells #[.slice none 0 0] 133):=heap_alloc_old (heap_alloc_new _ _);have Wp:Below w.heap.size w ((w.alloc (.cells #[.slice none 0 0] 133)).alloc (.cells #[.int .i16 (-32768),.int .i16 32767] 48)):=by go_grown
 have eg:w.heap.size+1<=((w.alloc (.cells #[.slice none 0 0] 133)).alloc (.cells #[.int .i16 (-32768),.int .i16 32767] 48)).heap.size:=by simp
 generalize (w.alloc (.cells #[.slice none 0 0] 133)).alloc (.cells #[.int .i16 (-32768),.int .i16 32767] 48)=wz at *
 go_loopw [3,9] (fun v3 v9 wr=>∃j:Nat,j<=ns.length/\v9=.int .i64 j/\Hid (rH (w.heap.size+1) wr v3 (aY (ns.take j))/\Below (w.heap.size+1) wz wr/\w.heap.size+1<=wr.heap.size)) (fun _ v9 _=>ns.length - (intOf v9).toNat)
 case atStart=>exact⟨0,Nat.zero_le _,rfl,W0.out,Below.refl _ _,eg⟩
 case round =>
  obtain⟨j,hj,rfl,hq⟩:=hrel;obtain⟨aq,cq,rfl⟩:=hq.1.form;by_cases dW:j<ns.length
  ·obtain⟨z,hz⟩:∃z,ns[j]?=some z:=⟨_,List.getElem?_eq_getElem dW⟩
   have db:ns≠[]:=by intro e;subst e;simp at dW
   obtain⟨g,off,rfl,hg,gJ⟩:=HC.out db;have NA:wr.cell? ⟨g,off+j,none⟩=some (.int .i16 ((z:Nat):Int)):=by rw[hq.2.1.cell (p:=⟨g,off+j,none⟩) (by show g<w.heap.size+1;omega),Wp.cell (p:=⟨g,off+j,none⟩) hg];exact gJ j z hz
   have rS:=HN.out z (List.mem_of_getElem? hz);have hzi:((z:Nat):Int)<=32767:=by omega
   have AY:Hid (aY (ns.take (j+1))=aY (ns.take j) ++ [((z:Nat):Int),-((z:Nat):Int)]):=by have hk:=List.getElem?_eq_some_iff.1 hz;unfold Hid aY;rw[List.take_succ_eq_append_getElem hk.1,hk.2,List.flatMap_append,<-List.append_assoc];simp
   have We:(aY (ns.take j)).length<=2000:=by rw[pT,List.length_take];omega
   have eN:=hid hq.1;have Oe:=hq.2.2;clear hz gJ;go_wp2_with (first
    | (at_builtin;refine wpList_append_own_at _ rfl _ _ 36 rfl (w.heap.size+1) 48 i16 (.int .i16 0) 1 2 underlying36 aai P4 ZJ aaq rfl (by decide) _ _ _ rfl (eN.alloc _) ⟨wr.heap.size,0,none⟩ 2 2 [.int .i16 ((z:Nat):Int),.int .i16 (-((z:Nat):Int))] rfl rfl (World.news_of_block (cs:=#[.int .i16 ((z:Nat):Int),.int .i16 (-((z:Nat):Int))]) (t:=48) (fr:=(0,0)) (heap_alloc_new _ _)) ?q1 ?q2 ?q3 ?q4 ?_))
   case q1=>intro u hu;simp at hu;rcases hu with rfl | rfl<;>rfl
   case q2=>unfold maxLen;omega
   case q3=>omega
   case q4=>simp;omega
   intro v3 w3 ir eM _ _;obtain⟨r3,b3⟩:=Jz Oe eN.out ir eM hq.2.1;rw[<-AY.out]at r3;have uO:w.heap.size+1<=w3.heap.size:=by have h1:=b3.size;omega
   have HQ:=hid (And.intro r3 (And.intro b3 uO));clear ir eM r3 b3 uO eN;go_wp2_with fail;exact⟨⟨j+1,by omega,by go_num,HQ⟩,by simp[intOf];omega⟩
  ·have EJ:Hid (ns.take j=ns):=List.take_of_length_le (by omega)
   have gA:wr.heap[w.heap.size]?=some (.cells #[.slice none 0 0] 133):=(hq.2.1.block _ (Nat.lt_succ_self _)).trans jo;have m0:=cell_of gA 0 (v:=.slice none 0 0) rfl;have kh:=aw gA 0;have eN:rH (w.heap.size+1) wr (.slice aq (aY (ns.take j)).length cq) (aY (ns.take j)):=hq.1;have MQ:Hid ((wr.setCell ⟨w.heap.size,0,none⟩ (.slice aq (aY (ns.take j)).length cq)).cell? ⟨w.heap.size,0,none⟩=some (.slice aq (aY (ns.take j)).length cq)):=cell_of (ai gA 0 (.slice aq (aY (ns.take j)).length cq)) 0 rfl;have HF:Hid (rH w.heap.size (wr.setCell ⟨w.heap.size,0,none⟩ (.slice aq (aY (ns.take j)).length cq)) (.slice aq (aY (ns.take j)).length cq) (aY ns)/\Below w.heap.size w (wr.setCell ⟨w.heap.size,0,none⟩ (.slice aq (aY (ns.take j)).length cq))):=by
    refine⟨?_,?_⟩
    ·have ej:=EJ.out
     rw[ej]at eN ⊢;have h1:=aZ (w':=wr.setCell ⟨w.heap.size,0,none⟩ (.slice aq (aY ns).length cq)) eN (fun k hk=>Below.heap_setCell _ _ _ _ (by have:=(bj eN k hk).1;show k≠w.heap.size;omega));obtain⟨h2,h3⟩:=h1;refine⟨h2,?_⟩
     rcases h3 with h3 | ⟨g,cap,cur,e,hg,r⟩
     ·exact .inl h3
     ·exact .inr ⟨g,cap,cur,e,Nat.le_trans (Nat.le_succ _) hg,r⟩
    ·exact(Wp.trans (hq.2.1.mono (Nat.le_succ _))).setCell (p:=⟨w.heap.size,0,none⟩) (Nat.le_refl _) _
   clear eN gA;go_wp2_with fail;exact bodyPost_ret (v:=.agg #[.slice aq (aY (ns.take j)).length cq]) (by simp[results,results52,go_sem,MQ.out]) rfl ⟨_,rfl,HF.1,HF.2⟩
theorem sG(va:Option Addr)(vn vc:Nat)(p q:Int)(na:Option Addr)(nn nc:Nat)(cU ao narrow aj:Int)(th:Bool)(w:Wd) :
  Calls prog 53 #[.agg #[.slice va vn vc,.int .i64 p,.int .i64 q,.slice na nn nc],.agg #[.int .i64 cU,.int .i64 ao,.int .i64 narrow,.int .i64 aj,.bool th]] w fun e w'=>e=.returned (if th then .slice na nn nc else .slice none 0 0)/\Below w.heap.size w w':=by
 cases th with
 | true =>go_enter func53,ntmps53;go_wp2_with fail;go_ret;exact⟨rfl,by go_grown⟩
 | false =>go_enter func53,ntmps53;go_wp2_with fail;go_ret;exact⟨rfl,by go_grown⟩
theorem zX(ao narrow aj:Nat)(th:Bool)(h1:ao<=4)(h2:narrow<=3)(h3:aj<=3)(w:Wd) :
  Calls prog 49 #[.agg #[.int .i64 0,.int .i64 (ao:Nat),.int .i64 (narrow:Nat),.int .i64 (aj:Nat),.bool th]] w fun e w'=>e=.returned (.bool true)/\Below w.heap.size w w':=by
 have H1:Hid (∀W,Calls _ _ _ W _):=fun W=>pY (ao:Nat) 4 W (by omega) (by omega)
 have H2:Hid (∀W,Calls _ _ _ W _):=fun W=>pY (narrow:Nat) 3 W (by omega) (by omega)
 have H3:Hid (∀W,Calls _ _ _ W _):=fun W=>pY (aj:Nat) 3 W (by omega) (by omega)
 clear h1 h2 h3;go_enter func49,ntmps49;go_wp2_with fail;refine(H1.out _).mono ?_;rintro r w1⟨rfl,rfl⟩;go_wp2_with fail;refine(H2.out _).mono ?_;rintro r w1⟨rfl,rfl⟩;go_wp2_with fail;refine(H3.out _).mono ?_;rintro r w1⟨rfl,rfl⟩;go_wp2_with fail;go_ret;exact⟨rfl,by go_grown⟩
def pw(th:Bool)(t:Sp.Bl):List Int:=aY (if th then bu t else [])
theorem OD(h:rH B w u zs)(hz:zs≠[])(hl:(zs.length:Int)<=1000000):WI.fG w.heap.size zs (.agg #[u]) w:=by
 rcases h.2 with⟨_,h0⟩ | ⟨g,cap,cur,rfl,hb,hh,hn,hm,hs,ht⟩
 ·exact absurd (List.eq_nil_of_length_eq_zero h0) hz
 ·refine⟨Nat.le_refl _,g,0,cap,rfl,ah hh,hl,fun i x hx=>?_⟩
  rw[Nat.zero_add];refine cell_of hh i ?_;have h2:i<zs.length:=(List.getElem?_eq_some_iff.1 hx).1;have h3:cur.toList[i]?=(vJ zs)[i]?:=by rw[<-ht,List.getElem?_take,if_pos (by omega)]
  rw[<-Array.getElem?_toList,h3];unfold vJ;rw[List.getElem?_map,hx];rfl
theorem J8(h:w.ownsRow B 226 1 v ns.length (gu ns)):pX w v ns:=by
 rcases h.2 with⟨rfl,h0⟩ | ⟨g,cap,cur,rfl,hb,hh,hn,hm,hs,ht⟩
 ·have:ns=[]:=List.eq_nil_of_length_eq_zero h0
  subst this;exact⟨none,0,rfl,fun h=>absurd rfl h⟩
 ·refine⟨_,cap,rfl,fun _=>⟨g,0,rfl,ah hh,fun i n hi=>?_⟩⟩
  rw[Nat.zero_add];refine cell_of hh i ?_;have h2:i<ns.length:=(List.getElem?_eq_some_iff.1 hi).1;have h3:cur.toList[i]?=(gu ns)[i]?:=by rw[<-ht,List.getElem?_take,if_pos (by omega)]
  rw[<-Array.getElem?_toList,h3];unfold gu;rw[List.getElem?_map,hi];rfl
theorem pX.below(h:pX w v ns)(b:Below w.heap.size w w'):pX w' v ns:=by obtain⟨a,cap,rfl,hc⟩:=h;refine⟨a,cap,rfl,fun hn=>?_⟩;obtain⟨g,off,h1,h2,h3⟩:=hc hn;exact⟨g,off,h1,Nat.lt_of_lt_of_le h2 b.size,fun i n hi=>by rw[b.cell (p:=⟨g,off+i,none⟩) h2];exact h3 i n hi⟩
def yS(B:Nat)(w:Wd)(v:Value)(F:List (Option (Fin 8->Sp.Iv)) × List Nat):Prop :=
 ∃g h,v=.agg #[.slice (some ⟨g,0,none⟩) F.1.length F.1.length,.slice (some ⟨h,0,none⟩) F.2.length F.2.length]/\B<=g/\B<=h/\w.heap[g]?=some (.cells (WI.fh F.1).toArray 76)/\w.heap[h]?=some (.cells (WI.cQ F.2).toArray 3)
def SL(w:Wd)(th:Bool)(P:yZ):Except (Nat × Nat) Sp.Bl->Ending->Wd->Prop
 | .ok t,e,w'=>∃v,e=.returned (.tuple #[v,.nilIface])/\yS w.heap.size w' v (da (oN (pw th t)) P t)/\Below w.heap.size w w'
 | .error er,e,w'=>∃v,e=.returned (.tuple #[.agg #[.slice none 0 0,.slice none 0 0],v])/\iR w' w.heap.size v er/\Below w.heap.size w w'
theorem ER(tmps:Array Value)(w:Wd){c:Array Value}(ht:tmps.getD 4 undef=.pointer (some ⟨b,0,none⟩))(hu:tmps.getD 5 undef=.nilIface)(hl:(loadVar 64 ⟨b,0,none⟩).run prog w=.ok (.agg c) w) :
  (results f32 tmps).run prog w=.ok (.tuple #[.agg c,.nilIface]) w:=by
 have Qp:tmps[4]?.getD undef=.pointer (some ⟨b,0,none⟩):=by rw[<-ht];simp
 have A6:tmps[5]?.getD undef=.nilIface:=by rw[<-hu];simp
 unfold results;rw[results32];simp[asAddr,Qp,A6,hl]
theorem LI(F:List (Option (Fin 8->Sp.Iv)) × List Nat)(p q:Nat)(l1:F.1.length=p+1)(l2:F.2.length=q)(e1:w.heap[g]?=some (.cells (WI.fh F.1).toArray 76))(e2:w.heap[h]?=some (.cells (WI.cQ F.2).toArray 3))(e3:B<=g)(e4:B<=h) :
  yS B w (.agg #[.slice (some ⟨g,0,none⟩) (p+1) (p+1),.slice (some ⟨h,0,none⟩) q q]) F:=⟨g,h,by rw[l1,l2],e3,e4,e1,e2⟩
theorem xK(s:ByteArray)(ao narrow aj:Nat)(th:Bool)(w:Wd)(hs:s.size<=1048576)(hL:Laid w)(hT:gw w)(h1:ao<=4)(h2:narrow<=3)(h3:aj<=3) :
  Calls prog 32 #[.string s,.agg #[.int .i64 0,.int .i64 (ao:Nat),.int .i64 (narrow:Nat),.int .i64 (aj:Nat),.bool th]] w (SL w th ⟨ao,narrow,aj⟩ (Sp.tree s.data.toList)):=by
 obtain⟨k0,k1,kb⟩:=eY (w:=w) (o1:=.cells #[.int .i64 0,.int .i64 (ao:Nat),.int .i64 (narrow:Nat),.int .i64 (aj:Nat),.bool th] 58) (o2:=.cells #[.slice none 0 0,.slice none 0 0] 64) (Below.refl _ _);have dI:((w.alloc (.cells #[.int .i64 0,.int .i64 (ao:Nat),.int .i64 (narrow:Nat),.int .i64 (aj:Nat),.bool th] 58)).alloc (.cells #[.slice none 0 0,.slice none 0 0] 64)).heap.size=w.heap.size+1+1:=by simp
 have hc:=ly WI.RC s ((w.alloc (.cells #[.int .i64 0,.int .i64 (ao:Nat),.int .i64 (narrow:Nat),.int .i64 (aj:Nat),.bool th] 58)).alloc (.cells #[.slice none 0 0,.slice none 0 0] 64)) hs (hL.below kb hL.size);have K0:=hid k0;have K1:=hid k1;have KB:=hid kb;clear k0 k1 kb;cases hr:Sp.parse Sp.Tr s.data.toList with
 | error er =>
  have E:Hid (Sp.tree s.data.toList=.error er):=by unfold Hid Sp.tree;rw[hr]
  rw[hr]at hc;go_enter func32,ntmps32;go_wp2_with fail;generalize (w.alloc (.cells #[.int .i64 0,.int .i64 (ao:Nat),.int .i64 (narrow:Nat),.int .i64 (aj:Nat),.bool th] 58)).alloc (.cells #[.slice none 0 0,.slice none 0 0] 64)=wz at *;refine hc.mono ?_;rintro e w1⟨v,rfl,hv,b1⟩;obtain⟨tv,uv,rfl⟩:=sA hv;have kC:(w1.alloc (.cells #[.slice none 0 0,.int .i64 0,.int .i64 0,.slice none 0 0] 86)).heap[w.heap.size+1]?=some (.cells #[.slice none 0 0,.slice none 0 0] 64):=heap_alloc_old (by rw[b1.block _ (by omega)];exact K1.out);have c0:=cell_of kC 0 (v:=.slice none 0 0) rfl;have c1:=cell_of kC 1 (v:=.slice none 0 0) rfl;have f0:=aw kC 0;have f1:=aw kC 1;have h2:=ai (ai kC 0 (.slice none 0 0)) 1 (.slice none 0 0);have Q0:Hid (_=_):=cell_of h2 0 (v:=.slice none 0 0) rfl;have Q1:Hid (_=_):=cell_of h2 1 (v:=.slice none 0 0) rfl;have HV:Hid (iR (((w1.alloc (.cells #[.slice none 0 0,.int .i64 0,.int .i64 0,.slice none 0 0] 86)).setCell ⟨w.heap.size+1,0,none⟩ (.slice none 0 0)).setCell ⟨w.heap.size+1,1,none⟩ (.slice none 0 0)) w.heap.size (.iface tv uv) er) :=
   (((hv.laid _).set (by omega)).set (by omega)).weaken (by omega)
  have B:Hid (Below w.heap.size w (((w1.alloc (.cells #[.slice none 0 0,.int .i64 0,.int .i64 0,.slice none 0 0] 86)).setCell ⟨w.heap.size+1,0,none⟩ (.slice none 0 0)).setCell ⟨w.heap.size+1,1,none⟩ (.slice none 0 0))) :=
   (((KB.trans (b1.mono (by omega))).alloc (by have:=b1.size;omega) _).setCell (p:=⟨w.heap.size+1,0,none⟩) (by show w.heap.size<=w.heap.size+1;omega) _).setCell (p:=⟨w.heap.size+1,1,none⟩) (by show w.heap.size<=w.heap.size+1;omega) _
  clear hv hc kC h2;go_wp2_with fail;exact bodyPost_ret (v:=.tuple #[.agg #[.slice none 0 0,.slice none 0 0],.iface tv uv]) (by simp[results,results32,go_sem,Q0.out,Q1.out]) rfl (by rw[E.out];exact⟨_,rfl,HV.out,B.out⟩)
 | ok xs =>
  have YE:Sp.tree s.data.toList=.ok (aP xs):=by unfold Sp.tree;rw[hr]
  have E:=hid YE;rw[hr]at hc;obtain⟨zq,XW,rT⟩:=vg YE;have VJ:Hid (∀W,Calls _ _ _ W _):=fun W=>zX ao narrow aj th h1 h2 h3 W
  go_enter func32,ntmps32;go_wp2_with fail;generalize (w.alloc (.cells #[.int .i64 0,.int .i64 (ao:Nat),.int .i64 (narrow:Nat),.int .i64 (aj:Nat),.bool th] 58)).alloc (.cells #[.slice none 0 0,.slice none 0 0] 64)=wz at *;refine hc.mono ?_;rintro e w1⟨v,ct1,nvv,Uo,rfl,hv,b1,eN,Dx⟩;obtain⟨va,vn,vc,rfl⟩:=eU hv;obtain⟨na,nn,nc,rfl⟩:=nm eN;have hB:=WI.wT hv;generalize ht:aP xs=t at *;have nX:bu t=Uo:=Ju YE Dx;have Tp:Sp.Small (0,0) (Sp.pB t) (Sp.qB t):=⟨by simp,by simp,by simp;omega,by simp;omega⟩;have Og:=hB.cb;rw[fY t (0,0) Tp]at Og;obtain⟨p,hp⟩:∃p:Nat,ct1.1=(p:Int):=⟨Sp.pB t,by rw[<-Og];simp⟩;obtain⟨q,hq⟩:∃q:Nat,ct1.2=(q:Int):=⟨Sp.qB t,by rw[<-Og];simp⟩;have hpp:p=Sp.pB t:=by have:=congrArg Prod.fst Og;simp at this;omega
  have Ue:q=Sp.qB t:=by have:=congrArg Prod.snd Og;simp at this;omega
  obtain⟨c1,c2⟩:=ct1;simp only at hp hq;subst hp hq;simp only;have kp:=below_alloc1 w1 (.cells #[.slice va vn vc,.int .i64 (p:Nat),.int .i64 (q:Nat),.slice na nn nc] 86);have ek:(w1.alloc (.cells #[.slice va vn vc,.int .i64 (p:Nat),.int .i64 (q:Nat),.slice na nn nc] 86)).heap[w.heap.size+1]?=some (.cells #[.slice none 0 0,.slice none 0 0] 64):=heap_alloc_old (by rw[b1.block _ (by omega)];exact K1.out);have rM:(w1.alloc (.cells #[.slice va vn vc,.int .i64 (p:Nat),.int .i64 (q:Nat),.slice na nn nc] 86)).heap[w.heap.size]?=some (.cells #[.int .i64 0,.int .i64 (ao:Nat),.int .i64 (narrow:Nat),.int .i64 (aj:Nat),.bool th] 58):=heap_alloc_old (by rw[b1.block _ (by omega)];exact K0.out);have Bp:=heap_alloc_new w1 (.cells #[.slice va vn vc,.int .i64 (p:Nat),.int .i64 (q:Nat),.slice na nn nc] 86);have Ym:=KB.trans (b1.mono (by omega));have pV:Hid (pX w1 (.slice na nn nc) Uo):=J8 eN;have hlen:Uo.length<=800:=by rw[<-nX];exact CY YE
  have Hg:∀n∈Uo,n<=32767:=fun n hn=>by have:=rT (n:Int) (by rw[fV,nX];exact List.mem_map.2 ⟨n,hn,rfl⟩);have:=this.2;omega
  obtain⟨ma,mn,mc,hma⟩:∃a n c,(if th then Value.slice na nn nc else .slice none 0 0)=.slice a n c:=by cases th<;>exact⟨_,_,_,rfl⟩
  have Vw:Hid (∀W,Calls prog 53 #[.agg #[.slice va vn vc,.int .i64 (p:Nat),.int .i64 (q:Nat),.slice na nn nc],.agg #[.int .i64 0,.int .i64 (ao:Nat),.int .i64 (narrow:Nat),.int .i64 (aj:Nat),.bool th]] W fun e w'=>e=.returned (.slice ma mn mc)/\Below W.heap.size W w'):=fun W=>by have:=sG va vn vc (p:Nat) (q:Nat) na nn nc 0 (ao:Nat) (narrow:Nat) (aj:Nat) th W;rw[hma]at this;exact this
  obtain⟨ns,hnse⟩:∃ns,ns=if th then Uo else []:=⟨_,rfl⟩
  have QZ:Hid (pX w1 (.slice ma mn mc) ns):=by
   unfold Hid;rw[<-hma,hnse];cases th
   ·exact⟨none,0,rfl,fun h=>absurd rfl h⟩
   ·exact pV.out
  have WD:ns.length<=1000:=by
   rw[hnse];split
   ·omega
   ·exact Nat.zero_le _
  have WE:∀n∈ns,n<=32767:=fun n hn=>by
   rw[hnse]at hn;split at hn
   ·exact Hg n hn
   ·cases hn
  have Bn:Hid (aY ns=pw th t):=by unfold Hid pw;rw[nX,hnse]
  have HIN:Hid (∀W,Below w1.heap.size w1 W->Calls prog 52 #[.slice ma mn mc] W fun e w'=>∃u,e=.returned (.agg #[u])/\rH W.heap.size w' u (aY ns)/\Below W.heap.size W w'):=fun W hW=>SF _ ns W (QZ.below hW) WD WE
  have We:(aY ns).length<=1000000:=by rw[pT];omega
  have Yq:aY ns≠[]:=by unfold aY;simp
  have HRP:Hid (∀W u,Below w1.heap.size w1 W->rH w1.heap.size W u (aY ns)->Calls prog 51 #[.agg #[.slice va vn vc,.int .i64 (p:Nat),.int .i64 (q:Nat),.slice na nn nc],.agg #[.int .i64 0,.int .i64 (ao:Nat),.int .i64 (narrow:Nat),.int .i64 (aj:Nat),.bool th],.iface 133 (.agg #[u])] W fun r w'=>∃v,r=.returned v/\yS W.heap.size w' v (da (oN (aY ns)) ⟨ao,narrow,aj⟩ t)/\Below W.heap.size W w'):=fun W u hW hu=>by have hd:=OD hu Yq (by omega);have uV:=Ym.trans (hW.mono Ym.size);have:=WI.zG W (aY ns) (.agg #[u]) 0 ao narrow aj th p q (by omega) (by omega) (by omega) (by omega) (.slice va vn vc) (.slice na nn nc) ⟨_,_,_,rfl⟩ ⟨_,_,_,rfl⟩ t ⟨hd,hT.below uV hL.size,Nat.le_trans hL.size uV.size⟩ Tp wz.heap.size w1.heap.size w1 (fun k _ h2 _=>hW.block k h2) hW.size hB;refine this.mono ?_;rintro r w'⟨g,h,rfl,e1,e2,e3,e4,e5⟩;have hl:=FH (oN (aY ns)) ⟨ao,narrow,aj⟩ t Tp;generalize da (oN (aY ns)) ⟨ao,narrow,aj⟩ t=F at *;exact⟨_,rfl,LI F p q (by rw[hpp];exact hl.1) (by rw[Ue];exact hl.2) e1 e2 e3 e4,e5⟩
  have HB:=hid hB;have Kj:=hid Ym;have HT:=hid hT;have HG:=hid hL.size;have Z5:=hid kp;have jt:=hid ek;have ym:=hid rM;have TG:=hid Bp;have d0:=cell_of rM 0 (v:=.int .i64 0) rfl;have d1:=cell_of rM 1 (v:=.int .i64 (ao:Nat)) rfl;have d2:=cell_of rM 2 (v:=.int .i64 (narrow:Nat)) rfl;have d3:=cell_of rM 3 (v:=.int .i64 (aj:Nat)) rfl;have d4:=cell_of rM 4 (v:=.bool th) rfl;have HPP:Hid (p=Sp.pB t/\q=Sp.qB t):=⟨hpp,Ue⟩;have hls:w.heap.size+1<w1.heap.size:=by have:=b1.size;omega
  clear hc hv eN Dx hB hT hL kp ek rM Bp hr ht Og b1 Ym hpp Ue hma hnse Hg WE;go_wp2_with fail;refine(VJ.out _).mono ?_;rintro r w3⟨rfl,b3⟩;have D0:Below w1.heap.size w1 w3:=Z5.trans (b3.mono Z5.size);have js:=(b3.block _ (ah jt.out)).trans jt.out;have DP:=(b3.block _ (ah ym.out)).trans ym.out;have Ky:=(b3.block _ (ah TG.out)).trans TG.out;have e0:=cell_of DP 0 (v:=.int .i64 0) rfl;have yk:=hid D0.drew;have Kv:=hid js;have HC3:=hid DP;have HG3:=hid Ky;clear b3 D0 js DP Ky d0 d1 d2 d3 d4 jt ym TG Z5 VJ;go_wp2_with fail;refine wp_region_held_drew (S:=fun w':Wd=>(w'.heap[w.heap.size]?=some (.cells #[.int .i64 0,.int .i64 (ao:Nat),.int .i64 (narrow:Nat),.int .i64 (aj:Nat),.bool th] 58)/\w'.heap[w1.heap.size]?=some (.cells #[.slice va vn vc,.int .i64 (p:Nat),.int .i64 (q:Nat),.slice na nn nc] 86))/\∃c:Array Value,c.size=2/\w'.heap[w.heap.size+1]?=some (.cells c 64)) (by kernel_rfl) ⟨⟨HC3.out,HG3.out⟩,_,rfl,Kv.out⟩ (fun aa=>?_);clear e0;refine tk 0 (.agg #[.slice va vn vc,.int .i64 (p:Nat),.int .i64 (q:Nat),.slice na nn nc]) rfl (fun w' h=>by(have d0:=cell_of h.1.2 0 (v:=.slice va vn vc) rfl);(have d1:=cell_of h.1.2 1 (v:=.int .i64 (p:Nat)) rfl);(have d2:=cell_of h.1.2 2 (v:=.int .i64 (q:Nat)) rfl);have d3:=cell_of h.1.2 3 (v:=.slice na nn nc) rfl;go_simp) aa ?_;refine tk 1 (.agg #[.int .i64 0,.int .i64 (ao:Nat),.int .i64 (narrow:Nat),.int .i64 (aj:Nat),.bool th]) rfl (fun w' h=>by(have d0:=cell_of h.1.1 0 (v:=.int .i64 0) rfl);(have d1:=cell_of h.1.1 1 (v:=.int .i64 (ao:Nat)) rfl);(have d2:=cell_of h.1.1 2 (v:=.int .i64 (narrow:Nat)) rfl);(have d3:=cell_of h.1.1 3 (v:=.int .i64 (aj:Nat)) rfl);have d4:=cell_of h.1.1 4 (v:=.bool th) rfl;go_simp) aa ?_;refine tk 2 (.agg #[.slice va vn vc,.int .i64 (p:Nat),.int .i64 (q:Nat),.slice na nn nc]) rfl (fun w' h=>by(have d0:=cell_of h.1.2 0 (v:=.slice va vn vc) rfl);(have d1:=cell_of h.1.2 1 (v:=.int .i64 (p:Nat)) rfl);(have d2:=cell_of h.1.2 2 (v:=.int .i64 (q:Nat)) rfl);have d3:=cell_of h.1.2 3 (v:=.slice na nn nc) rfl;go_simp) aa ?_;refine tk 3 (.agg #[.int .i64 0,.int .i64 (ao:Nat),.int .i64 (narrow:Nat),.int .i64 (aj:Nat),.bool th]) rfl (fun w' h=>by(have d0:=cell_of h.1.1 0 (v:=.int .i64 0) rfl);(have d1:=cell_of h.1.1 1 (v:=.int .i64 (ao:Nat)) rfl);(have d2:=cell_of h.1.1 2 (v:=.int .i64 (narrow:Nat)) rfl);(have d3:=cell_of h.1.1 3 (v:=.int .i64 (aj:Nat)) rfl);have d4:=cell_of h.1.1 4 (v:=.bool th) rfl;go_simp) aa ?_;refine cH 4 fun K hK=>?_
  simp only[bT,gN];go_simp;refine(Vw.out _).mono ?_;rintro r w4⟨rfl,b4⟩;go_wp2_with fail;have b4':Below w1.heap.size w1 w4:=yk.trans (b4.mono yk.size);have B4:=hid b4';obtain⟨zc,WN,rS⟩:=aa.2;have od:=(b4.block _ (ah rS)).trans rS;have Nr:(w4.heap[w.heap.size]?=some (.cells #[.int .i64 0,.int .i64 (ao:Nat),.int .i64 (narrow:Nat),.int .i64 (aj:Nat),.bool th] 58)/\w4.heap[w1.heap.size]?=some (.cells #[.slice va vn vc,.int .i64 (p:Nat),.int .i64 (q:Nat),.slice na nn nc] 86)):=⟨(b4.block _ (ah aa.1.1)).trans aa.1.1,(b4.block _ (ah aa.1.2)).trans aa.1.2⟩;refine hK.out _ _ ⟨Nr,zc,WN,od⟩ (fun aa=>?_);clear hK K b4 b4' rS;refine cH 5 fun K hK=>?_
  simp only[bT];go_simp;refine(HIN.out _ B4.out).mono ?_;rintro r w5⟨u,rfl,hu,b5⟩;go_wp2_with fail;have B5:Hid (Below w1.heap.size w1 w5):=B4.trans (b5.mono B4.size);have HU:Hid (rH w1.heap.size w5 u (aY ns)):=tT hu B4.size;have oS:=(b5.block _ (ah od)).trans od;have hS5:(w5.heap[w.heap.size]?=some (.cells #[.int .i64 0,.int .i64 (ao:Nat),.int .i64 (narrow:Nat),.int .i64 (aj:Nat),.bool th] 58)/\w5.heap[w1.heap.size]?=some (.cells #[.slice va vn vc,.int .i64 (p:Nat),.int .i64 (q:Nat),.slice na nn nc] 86)):=⟨(b5.block _ (ah aa.1.1)).trans aa.1.1,(b5.block _ (ah aa.1.2)).trans aa.1.2⟩;refine hK.out _ _ ⟨hS5,zc,WN,oS⟩ (fun aa=>?_);clear hK K b5 hu od Nr;refine tq 6 (.iface 133 (.agg #[u])) aa ?_;refine cH 7 fun K hK=>?_
  simp only[bT,gN];go_simp;refine(HRP.out _ u B5.out HU.out).mono ?_;rintro r w6⟨v,rfl,⟨g,h,rfl,g1,g2,g3,g4⟩,b6⟩;go_wp2_with fail;have B6:Hid (Below w1.heap.size w1 w6):=B5.trans (b6.mono B5.size);have N1:=(b6.block _ (ah oS)).trans oS;have Yt:(w6.heap[w.heap.size]?=some (.cells #[.int .i64 0,.int .i64 (ao:Nat),.int .i64 (narrow:Nat),.int .i64 (aj:Nat),.bool th] 58)/\w6.heap[w1.heap.size]?=some (.cells #[.slice va vn vc,.int .i64 (p:Nat),.int .i64 (q:Nat),.slice na nn nc] 86)):=⟨(b6.block _ (ah aa.1.1)).trans aa.1.1,(b6.block _ (ah aa.1.2)).trans aa.1.2⟩;refine hK.out _ _ ⟨Yt,zc,WN,N1⟩ (fun _=>?_);clear hK K b6 oS hS5;have hl5:=B5.size;generalize hFF:da (oN (aY ns)) ⟨ao,narrow,aj⟩ t=F at *;have HFF:=hid hFF;have l1:(w.heap.size+1)≠w.heap.size:=by omega
  obtain⟨ra,hra⟩:∃ra,ra=#[Value.slice (some ⟨g,0,none⟩) F.1.length F.1.length,.slice (some ⟨h,0,none⟩) F.2.length F.2.length]:=⟨_,rfl⟩;have r2:ra.size=2:=by rw[hra];rfl
  have gA:=ar N1 (d:=ra) (by rw[r2,WN]);have hre:yS w.heap.size (w6.setCells (w.heap.size+1) 0 ra.toList) (.agg ra) F:=⟨g,h,(by rw[hra];rfl),by omega,by omega,(al _ _ _ _ (by omega)).trans g3,(al _ _ _ _ (by omega)).trans g4⟩;have XF:Below w.heap.size w (w6.setCells (w.heap.size+1) 0 ra.toList):=au (b:=w.heap.size+1) (by omega) _ _ _ _ (Kj.trans (B6.mono Kj.size));refine cH 8 fun K hK=>?_
  simp only[bT];rw[if_pos (by rfl)];refine wp_store_mid _ _ _ rfl _ _ ra rfl (by rw[hra];rfl) (by rw[r2,<-WN];exact bI N1) (by rw[WI.Ay,r2]) (by rw[hra];simp[Value.oneCell']) ?_;refine hK.out _ _ ⟨⟨(al _ _ _ _ (by omega)).trans Yt.1,(al _ _ _ _ (by omega)).trans Yt.2⟩,ra,r2,gA⟩ (fun aa=>?_);clear hK K;clear hra;refine cH 9 fun K hK=>?_
  simp only[bT];go_simp;refine hK.out _ _ aa (fun _=>?_);clear hK K;refine wpAnyH_done (by kernel_rfl) ?_ _;have Uk:=hid gA;have Ys:=hid hre;have TL:=hid XF;clear gA hre XF aa Yt N1 g3 g4 hFF;go_wp2_with fail;have hl:(loadVar 64 ⟨w.heap.size+1,0,none⟩).run prog (w6.setCells (w.heap.size+1) 0 ra.toList)=.ok (.agg ra) (w6.setCells (w.heap.size+1) 0 ra.toList):=by have:=run_loadVar_mid (P:=prog) (w6.setCells (w.heap.size+1) 0 ra.toList) (w.heap.size+1) 0 64 ra.toList _ (aT Uk.out) underlying64 rfl (by rw[WI.Ay];simp[r2]);simpa using this
  refine bodyPost_ret (v:=.tuple #[.agg ra,.nilIface]) (ER _ _ rfl rfl hl) rfl ?_;rw[E.out];exact⟨_,rfl,by rw[<-Bn.out,HFF.out];exact Ys.out,TL.out⟩
abbrev Za:=List (Option (Fin 8->Sp.Iv)) × List Nat
structure zY(w:Wd)(a:Option Addr)(n:Nat)(a':Option Addr)(m:Nat)(F:Za):Prop where
 n:n=F.1.length
 m:m=F.2.length
 f:∀i s,F.1[i]?=some s->∃g,a=some ⟨g,0,none⟩/\w.rangeAt g (i*17) (WI.sI s).toList
 s:∀i k,F.2[i]?=some k->∃g,a'=some ⟨g,0,none⟩/\w.cell? ⟨g,i,none⟩=some (.int .i64 ((k:Nat):Int))
theorem Cw{o:Nat}{l:List Value}(h:w.rangeAt g o l)(b:Below w.heap.size w w'):w'.rangeAt g o l:=fun j v hv=>by have h1:=h j v hv;rw[b.cell (p:=⟨g,o+j,none⟩) (mT h1)];exact h1
theorem zY.below{F:Za}(h:zY w a n a' m F)(b:Below w.heap.size w w'):zY w' a n a' m F:=by
 refine⟨h.n,h.m,fun i s hs=>?_,fun i k hk=>?_⟩
 ·obtain⟨g,h1,h2⟩:=h.f i s hs
  exact⟨g,h1,Cw h2 b⟩
 ·obtain⟨g,h1,h2⟩:=h.s i k hk
  exact⟨g,h1,by rw[b.cell (p:=⟨g,i,none⟩) (mT h2)];exact h2⟩
theorem zY.of{F:Za}(h:yS B w v F):∃a n a' m,v=.agg #[.slice a n n,.slice a' m m]/\zY w a n a' m F:=by
 obtain⟨g,h,rfl,_,_,h1,h2⟩:=h;refine⟨_,_,_,_,rfl,rfl,rfl,fun i s hs=>⟨g,rfl,?_⟩,fun i k hk=>⟨h,rfl,?_⟩⟩
 ·intro j v hv
  have hj:j<17:=by have:=(List.getElem?_eq_some_iff.1 hv).1;rw[WI.jw]at this;exact this
  refine cell_of h1 _ ?_;rw[List.getElem?_toArray];show(F.1.flatMap fun s=>(WI.sI s).toList)[i*17+j]?=some v;rw[gX WI.jw F.1 i s j hs hj];exact hv
 ·exact cell_of h2 i (WI.pU hk)
theorem yu(n:Int)(w:Wd):Calls prog 18 #[.int .i64 n] w fun e w'=>e=.returned (.int .i64 n)/\w'=w:=by go_enter func18,ntmps18;go_wp2_with fail;go_ret;exact⟨rfl,rfl⟩
theorem rj.after(h:rj w)(hb:Below w.heap.size w w'):rj w':=h.below hb h.laid.size
end
end Go.Proofs.YtiopfihjmkfdmaaGreatDoor
