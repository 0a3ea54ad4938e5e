import Derived.Test.YtiopfihjmkfdmabGreatDoorC40
import Derived.Test.YtiopfihjmkfdmabGreatDoorC51
namespace Go.Proofs.YtiopfihjmkfdmabGreatDoor
open Go.Value renaming int->I,agg->J,bool->U,tuple->φ,pointer->ρ,slice->Z,iface->σ,string->χ
open Go.IntKind renaming i64->O
open Go.Ending renaming returned->υ
open Option renaming none->M,some->Y
open Go.Obj renaming cells->L
open Go.Proofs.Tryz Sp
open Go.RowKit
set_option maxRecDepth 100000
set_option maxHeartbeats 16000000
namespace W
theorem Cu(ao narrow aj:Nat)(th:Bool)(h1:ao<=4)(h2:narrow<=3)(h3:aj<=3)(w:Wd) :
  Calls prog 20 #[J #[I O 1,I O (ao:Nat),I O (narrow:Nat),I O (aj:Nat),U th]] w λe w'=>e=υ (U true)/\ω w w':=by
 have H1:Hid (∀W,Calls _ _ _ W _):=λW=>jF (ao:Nat) 4 W À À
 have H2:Hid (∀W,Calls _ _ _ W _):=λW=>jF (narrow:Nat) 3 W À À
 have H3:Hid (∀W,Calls _ _ _ W _):=λW=>jF (aj:Nat) 3 W À À
 clear h1 h2 h3;go_enter func20,ntmps20;go_wp2_with fail;refine(H1.out _).mono ?_;rintro r w1⟨rfl,rfl⟩;go_wp2_with fail;refine(H2.out _).mono ?_;rintro r w1⟨rfl,rfl⟩;go_wp2_with fail;refine(H3.out _).mono ?_;rintro r w1⟨rfl,rfl⟩;go_wp2_with fail;go_ret;exact⟨rfl,by go_grown⟩
def VP(w:Wd)(P:z7)(th:Bool):Except (Nat×Nat) Sp.Bl->Ending->Wd->Prop
 |.ok t,e,w'=>∃v,e=υ (φ #[v,.nilIface])/\tN w.heap.size w' v (bU (Dm (⟨fm th t⟩:aw false)) P t)/\ω w w'
 |.error _,_,_=>True
theorem Ic(tmps:Array Value)(w:Wd){b:Nat}{c:Array Value}(ht:tmps.getD 4 undef=ρ (Y ⟨b,0,M⟩))(hu:tmps.getD 5 undef=.nilIface)(hl:(loadVar 33 ⟨b,0,M⟩).run prog w=.ok (J c) w) :
  (results f8 tmps).run prog w=.ok (φ #[J c,.nilIface]) w:=by
 have TF:tmps[4]?.getD undef=ρ (Y ⟨b,0,M⟩):=by rw[<-ht];simp
 have Dl:tmps[5]?.getD undef=.nilIface:=by rw[<-hu];simp
 unfold results;rw[results8];simp[asAddr,TF,Dl,hl]
theorem ER{B:Nat}{w:Wd}{g h:Nat}(F:XH)(p q:Nat)(l1:F.1.length=p+1)(l2:F.2.length=q)(e1:w.heap[g]?=Y (L (fl F.1).toArray 53))(e2:w.heap[h]?=Y (L (cL F.2).toArray 3))(e3:B<=g)(e4:B<=h) :
  tN B w (J #[Z (Y ⟨g,0,M⟩) (p+1) (p+1),Z (Y ⟨h,0,M⟩) q q]) F:=⟨g,h,by rw[l1,l2],e3,e4,e1,e2⟩
theorem Ai(s:ByteArray){t0:Sp.Bl}(I8:Sp.tree s.data.toList=.ok t0)(ao narrow aj:Nat)(th:Bool)(w:Wd)(hs:s.size<=1048576)(hL:Laid w)(hT:gI w)(h1:ao<=4)(h2:narrow<=3)(h3:aj<=3) :
  Calls prog 8 #[χ s,J #[I O 1,I O (ao:Nat),I O (narrow:Nat),I O (aj:Nat),U th]] w (VP w ⟨ao,narrow,aj⟩ th (Sp.tree s.data.toList)):=by
 obtain⟨k0,k1,kb⟩:=ft (w:=w) (o1:=L #[I O 1,I O (ao:Nat),I O (narrow:Nat),I O (aj:Nat),U th] 39) (o2:=L #[Z M 0 0,Z M 0 0] 33) Å;have ea:((w.alloc (L #[I O 1,I O (ao:Nat),I O (narrow:Nat),I O (aj:Nat),U th] 39)).alloc (L #[Z M 0 0,Z M 0 0] 33)).heap.size=w.heap.size+1+1:=Ä;have hc:=jK (Sb false) s ((w.alloc (L #[I O 1,I O (ao:Nat),I O (narrow:Nat),I O (aj:Nat),U th] 39)).alloc (L #[Z M 0 0,Z M 0 0] 33)) hs (hL.below kb hL.size);have K0:=hid k0;have K1:=hid k1;have KB:=hid kb;clear k0 k1 kb;cases hr:Sp.parse Sp.Tr s.data.toList with
 |error er=>unfold Sp.tree at I8;rw[hr]at I8;cases I8
 |ok xs=>
  have Wy:Sp.tree s.data.toList=.ok (aO xs):=by unfold Sp.tree;rw[hr]
  have δ:=hid Wy;rw[hr]at hc;obtain⟨AJ,Z4,_⟩:=rQ Wy;have UD:Hid (∀W,Calls _ _ _ W _):=λW=>Cu ao narrow aj th h1 h2 h3 W
  go_enter func8,ntmps8;go_wp2_with fail;generalize (w.alloc (L #[I O 1,I O (ao:Nat),I O (narrow:Nat),I O (aj:Nat),U th] 39)).alloc (L #[Z M 0 0,Z M 0 0] 33)=wz at*;refine hc.mono ?_;rintro e w1⟨v,ct1,nvv,WS,rfl,hv,b1,eu,zO⟩;obtain⟨va,vn,vc,rfl⟩:=eH hv;obtain⟨na,nn,nc,rfl⟩:=lF eu;have hB:=uK hv;generalize ht:aO xs=t at*;have QB:Sp.Small (0,0) (Sp.pB t) (Sp.qB t):=⟨Ä,Ä,by simp;omega,by simp;omega⟩;have FV:=hB.cb;rw[gp t (0,0) QB]at FV;obtain⟨p,hp⟩:∃p:Nat,ct1.1=(p:Int):=⟨Sp.pB t,by rw[<-FV];simp⟩;obtain⟨q,hq⟩:∃q:Nat,ct1.2=(q:Int):=⟨Sp.qB t,by rw[<-FV];simp⟩;have X0:p=Sp.pB t:=by have:=Ë Prod.fst FV;simp at this;omega
  have Tk:q=Sp.qB t:=by have:=Ë Prod.snd FV;simp at this;omega
  obtain⟨c1,c2⟩:=ct1;simp only at hp hq;subst hp hq;simp only;have kp:=below_alloc1 w1 (L #[Z va vn vc,I O (p:Nat),I O (q:Nat),Z na nn nc] 79);have ff:(w1.alloc (L #[Z va vn vc,I O (p:Nat),I O (q:Nat),Z na nn nc] 79)).heap[w.heap.size+1]?=Y (L #[Z M 0 0,Z M 0 0] 33):=heap_alloc_old (by rw[b1.block _ À];exact K1.out);have px:(w1.alloc (L #[Z va vn vc,I O (p:Nat),I O (q:Nat),Z na nn nc] 79)).heap[w.heap.size]?=Y (L #[I O 1,I O (ao:Nat),I O (narrow:Nat),I O (aj:Nat),U th] 39):=heap_alloc_old (by rw[b1.block _ À];exact K0.out);have AH:=heap_alloc_new w1 (L #[Z va vn vc,I O (p:Nat),I O (q:Nat),Z na nn nc] 79);have Ts:=KB.trans (b1.mono À);have HRP:Hid (∀W,ω w1 W->Calls prog 21 #[J #[Z va vn vc,I O (p:Nat),I O (q:Nat),Z na nn nc],J #[I O 1,I O (ao:Nat),I O (narrow:Nat),I O (aj:Nat),U th],σ 87 (J #[])] W λr w'=>∃v,r=υ v/\tN W.heap.size w' v (bU (Dm (⟨fm th t⟩:aw false)) ⟨ao,narrow,aj⟩ t)/\ω W w'):=λW hW=>by have hd:fU W.heap.size (⟨fm th t⟩:aw false) (J #[]) W:=R5 _ È;have vm:=Ts.trans (hW.mono Ts.size);have:=tK W (⟨fm th t⟩:aw false) (J #[]) 1 ao narrow aj th p q À À À À (Z va vn vc) (Z na nn nc) ⟨_,_,_,rfl⟩ ⟨_,_,_,rfl⟩ t ⟨hd,hT.below vm hL.size,Nat.le_trans hL.size vm.size⟩ QB wz.heap.size w1.heap.size w1 (λk _ h2 _=>hW.block k h2) hW.size hB;refine this.mono ?_;rintro r w'⟨g,h,rfl,e1,e2,e3,e4,e5⟩;have hl:=zj (Dm (⟨fm th t⟩:aw false)) ⟨ao,narrow,aj⟩ t QB;have e1:w'.heap[g]?=Y (L (fl (bU (Dm (⟨fm th t⟩:aw false)) ⟨ao,narrow,aj⟩ t).1).toArray 53):=e1;have e2:w'.heap[h]?=Y (L (cL (bU (Dm (⟨fm th t⟩:aw false)) ⟨ao,narrow,aj⟩ t).2).toArray 3):=e2;generalize bU (Dm (⟨fm th t⟩:aw false)) ⟨ao,narrow,aj⟩ t=F at*;exact⟨_,rfl,ER F p q (by rw[X0];exact hl.1) (by rw[Tk];exact hl.2) e1 e2 e3 e4,e5⟩
  have Gs:=hid Ts;have Xt:=hid kp;have mM:=hid ff;have xx:=hid px;have Jg:=hid AH;have d0:=cell_of px 0 (v:=I O 1) rfl;have d1:=cell_of px 1 (v:=I O (ao:Nat)) rfl;have d2:=cell_of px 2 (v:=I O (narrow:Nat)) rfl;have d3:=cell_of px 3 (v:=I O (aj:Nat)) rfl;have d4:=cell_of px 4 (v:=U th) rfl;have hls:w.heap.size+1<w1.heap.size:=by have:=b1.size;omega
  clear hc hv eu zO hB hT hL kp ff px AH hr ht FV b1 Ts X0 Tk;go_wp2_with fail;refine(UD.out _).mono ?_;rintro r w3⟨rfl,b3⟩;have zV:Hid (ω w1 w3):=Xt.trans (b3.mono Xt.size);have nJ:=(b3.block _ (ah mM.out)).trans mM.out;have zH:=(b3.block _ (ah xx.out)).trans xx.out;have I3:=(b3.block _ (ah Jg.out)).trans Jg.out;have Gl:=hid nJ;clear d0 d1 d2 d3 d4 mM xx Jg Xt UD b3;have d0:=cell_of zH 0 (v:=I O 1) rfl;have d1:=cell_of zH 1 (v:=I O (ao:Nat)) rfl;have d2:=cell_of zH 2 (v:=I O (narrow:Nat)) rfl;have d3:=cell_of zH 3 (v:=I O (aj:Nat)) rfl;have d4:=cell_of zH 4 (v:=U th) rfl;have p0:=cell_of I3 0 (v:=Z va vn vc) rfl;have p1:=cell_of I3 1 (v:=I O (p:Nat)) rfl;have p2:=cell_of I3 2 (v:=I O (q:Nat)) rfl;have p3:=cell_of I3 3 (v:=Z na nn nc) rfl;clear nJ zH I3;go_wp2_with fail;refine(HRP.out _ zV.out).mono ?_;rintro r w6⟨v,rfl,⟨g,h,hv,g1,g2,g3,g4⟩,b6⟩;have I0:=(b6.block _ (ah Gl.out)).trans Gl.out;have B6:Hid (ω w1 w6):=zV.trans (b6.mono zV.size);have hl5:=zV.size;clear d0 d1 d2 d3 d4 p0 p1 p2 p3 Gl HRP b6;generalize Zp:bU (Dm (⟨fm th t⟩:aw false)) ⟨ao,narrow,aj⟩ t=F at*;have HFF:=hid Zp;clear Zp;obtain⟨n1,hr1⟩:∃n1,Hid (n1=F.1.length):=⟨_,rfl⟩;obtain⟨n2,pD⟩:∃n2,Hid (n2=F.2.length):=⟨_,rfl⟩;obtain rfl:v=J #[Z (Y ⟨g,0,M⟩) n1 n1,Z (Y ⟨h,0,M⟩) n2 n2]:=by rw[hv,hr1.out,pD.out];rfl
  obtain⟨m0,m1,jo,jH,mq⟩:=aI I0;have h2:=ai (ai I0 0 (Z (Y ⟨g,0,M⟩) n1 n1)) 1 (Z (Y ⟨h,0,M⟩) n2 n2);have Q0:Hid (_=_):=cell_of h2 0 (v:=Z (Y ⟨g,0,M⟩) n1 n1) rfl;have Q1:Hid (_=_):=cell_of h2 1 (v:=Z (Y ⟨h,0,M⟩) n2 n2) rfl;have XV:Hid (tN w.heap.size ((w6.setCell ⟨w.heap.size+1,0,M⟩ (Z (Y ⟨g,0,M⟩) n1 n1)).setCell ⟨w.heap.size+1,1,M⟩ (Z (Y ⟨h,0,M⟩) n2 n2)) (J #[Z (Y ⟨g,0,M⟩) n1 n1,Z (Y ⟨h,0,M⟩) n2 n2]) F):=⟨g,h,(by rw[hr1.out,pD.out];rfl),À,À,by rw[Æ _ _ _ _ (by show g≠w.heap.size+1;omega),Æ _ _ _ _ (by show g≠w.heap.size+1;omega)];exact g3,by rw[Æ _ _ _ _ (by show h≠w.heap.size+1;omega),Æ _ _ _ _ (by show h≠w.heap.size+1;omega)];exact g4⟩;have BL:Hid (ω w ((w6.setCell ⟨w.heap.size+1,0,M⟩ (Z (Y ⟨g,0,M⟩) n1 n1)).setCell ⟨w.heap.size+1,1,M⟩ (Z (Y ⟨h,0,M⟩) n2 n2))):=((Gs.trans (B6.mono Gs.size)).setCell (p:=⟨w.heap.size+1,0,M⟩) (by show w.heap.size<=w.heap.size+1;omega) _).setCell (p:=⟨w.heap.size+1,1,M⟩) (by show w.heap.size<=w.heap.size+1;omega) _;clear mq h2 I0 g3 g4 hr1 pD hv;go_wp2_with fail;exact Ç (v:=φ #[J #[Z (Y ⟨g,0,M⟩) n1 n1,Z (Y ⟨h,0,M⟩) n2 n2],.nilIface]) (by simp[results,results8,go_sem,Q0.out,Q1.out]) rfl (by rw[δ.out];exact⟨_,rfl,by rw[HFF.out];exact XV.out,BL.out⟩)
end W
section
open Go.RowKit W
theorem Ew(s:ByteArray)(ch ao narrow aj:Int)(th:Bool)(w:Wd)(hs:s.size<=1048576)(hL:Laid w){er:Nat × Nat}(ht:Sp.tree s.data.toList=.error er) :
  Calls prog 8 #[χ s,J #[I O ch,I O ao,I O narrow,I O aj,U th]] w λe w'=>∃v,e=υ (φ #[J #[Z M 0 0,Z M 0 0],v])/\lD w' w.heap.size v er/\ω w w':=by
 obtain⟨k0,k1,kb⟩:=ft (w:=w) (o1:=L #[I O ch,I O ao,I O narrow,I O aj,U th] 39) (o2:=L #[Z M 0 0,Z M 0 0] 33) Å;have ea:((w.alloc (L #[I O ch,I O ao,I O narrow,I O aj,U th] 39)).alloc (L #[Z M 0 0,Z M 0 0] 33)).heap.size=w.heap.size+1+1:=Ä;have hc:=jK (Sb false) s ((w.alloc (L #[I O ch,I O ao,I O narrow,I O aj,U th] 39)).alloc (L #[Z M 0 0,Z M 0 0] 33)) hs (hL.below kb hL.size);have K1:=hid k1;have KB:=hid kb;clear k0 k1 kb;cases hr:Sp.parse Sp.Tr s.data.toList with
 |ok xs=>unfold Sp.tree at ht;rw[hr]at ht;cases ht
 |error er'=>
  obtain rfl:er'=er:=by unfold Sp.tree at ht;rw[hr]at ht;cases ht;rfl
  rw[hr]at hc;clear ht;go_enter func8,ntmps8;go_wp2_with fail;generalize (w.alloc (L #[I O ch,I O ao,I O narrow,I O aj,U th] 39)).alloc (L #[Z M 0 0,Z M 0 0] 33)=wz at*;refine hc.mono ?_;rintro e w1⟨v,rfl,hv,b1⟩;obtain⟨tv,uv,rfl⟩:=Bz hv;have nO:(w1.alloc (L #[Z M 0 0,I O 0,I O 0,Z M 0 0] 79)).heap[w.heap.size+1]?=Y (L #[Z M 0 0,Z M 0 0] 33):=heap_alloc_old (by rw[b1.block _ À];exact K1.out);have c0:=cell_of nO 0 (v:=Z M 0 0) rfl;have c1:=cell_of nO 1 (v:=Z M 0 0) rfl;have f0:=ay nO 0;have f1:=ay nO 1;have h2:=ai (ai nO 0 (Z M 0 0)) 1 (Z M 0 0);have Q0:Hid (_=_):=cell_of h2 0 (v:=Z M 0 0) rfl;have Q1:Hid (_=_):=cell_of h2 1 (v:=Z M 0 0) rfl;have HV:Hid (lD (((w1.alloc (L #[Z M 0 0,I O 0,I O 0,Z M 0 0] 79)).setCell ⟨w.heap.size+1,0,M⟩ (Z M 0 0)).setCell ⟨w.heap.size+1,1,M⟩ (Z M 0 0)) w.heap.size (σ tv uv) er'):=
   (((hv.laid _).set À).set À).weaken À
  have B:Hid (ω w (((w1.alloc (L #[Z M 0 0,I O 0,I O 0,Z M 0 0] 79)).setCell ⟨w.heap.size+1,0,M⟩ (Z M 0 0)).setCell ⟨w.heap.size+1,1,M⟩ (Z M 0 0))):=
   (((KB.trans (b1.mono À)).alloc (by have:=b1.size;omega) _).setCell (p:=⟨w.heap.size+1,0,M⟩) (by show w.heap.size<=w.heap.size+1;omega) _).setCell (p:=⟨w.heap.size+1,1,M⟩) (by show w.heap.size<=w.heap.size+1;omega) _
  clear hv hc nO h2;go_wp2_with fail;exact Ç (v:=φ #[J #[Z M 0 0,Z M 0 0],σ tv uv]) (by simp[results,results8,go_sem,Q0.out,Q1.out]) rfl ⟨_,rfl,HV.out,B.out⟩
theorem rM(n m:Int)(w:Wd):Calls prog 33 #[I O n,I O m] w λe w'=>e=υ (U (decide (0<=n/\n<=m)))/\w'=w:=by
 by_cases h1:0<=n
 .by_cases h2:n<=m
  .rw[show decide (0<=n/\n<=m)=true from decide_eq_true ⟨h1,h2⟩]
   go_enter func33,ntmps33;go_wp2_with fail;go_ret;exact⟨rfl,rfl⟩
  .rw[show decide (0<=n/\n<=m)=false from decide_eq_false (λh=>h2 h.2)]
   go_enter func33,ntmps33;go_wp2_with fail;go_ret;exact⟨rfl,rfl⟩
 .rw[show decide (0<=n/\n<=m)=false from decide_eq_false (λh=>h1 h.1)]
  go_enter func33,ntmps33;go_wp2_with fail;go_ret;exact⟨rfl,rfl⟩
theorem EG(ch ao narrow aj:Int)(th:Bool)(hc:¬ ((ch=0∨ch=1)/\0<=ao/\ao<=4/\0<=narrow/\narrow<=3/\0<=aj/\aj<=3))(w:Wd) :
  Calls prog 20 #[J #[I O ch,I O ao,I O narrow,I O aj,U th]] w λe w'=>e=υ (U false)/\ω w w':=by
 have main:(¬ch=0/\¬ch=1)∨((ch=0∨¬ch=0/\ch=1)/\((¬(0<=ao/\ao<=4))∨(0<=ao/\ao<=4)/\((¬(0<=narrow/\narrow<=3))∨(0<=narrow/\narrow<=3)/\¬(0<=aj/\aj<=3)))):=À;have H1:Hid (∀W,Calls _ _ _ W _):=λW=>rM ao 4 W
 have H2:Hid (∀W,Calls _ _ _ W _):=λW=>rM narrow 3 W
 have H3:Hid (∀W,Calls _ _ _ W _):=λW=>rM aj 3 W
 clear hc
 rcases main with⟨d0,d1⟩|⟨rfl|⟨d0,rfl⟩,a|⟨a,b|⟨b,c⟩⟩⟩
 .clear H1 H2 H3
  go_enter func20,ntmps20;go_wp2_with fail;go_ret;exact⟨rfl,by go_grown⟩
 all_goals
  try rw[decide_eq_false a]at H1
  try rw[decide_eq_true a]at H1
  try rw[decide_eq_false b]at H2
  try rw[decide_eq_true b]at H2
  try rw[decide_eq_false c]at H3
  try clear a
  try clear b
  try clear c
  try clear d0
  go_enter func20,ntmps20;go_wp2_with fail;refine(H1.out _).mono ?_;rintro r w1⟨rfl,rfl⟩;go_wp2_with fail;try
   refine(H2.out _).mono ?_;rintro r w1⟨rfl,rfl⟩;go_wp2_with fail
  try
   refine(H3.out _).mono ?_;rintro r w1⟨rfl,rfl⟩;go_wp2_with fail
  go_ret;exact⟨rfl,by go_grown⟩
theorem FM(s:ByteArray)(ch ao narrow aj:Int)(th:Bool)(w:Wd)(hs:s.size<=1048576)(hL:Laid w){t:Sp.Bl}(ht:Sp.tree s.data.toList=.ok t)(FY:¬ ((ch=0∨ch=1)/\0<=ao/\ao<=4/\0<=narrow/\narrow<=3/\0<=aj/\aj<=3)) :
  Calls prog 8 #[χ s,J #[I O ch,I O ao,I O narrow,I O aj,U th]] w λe w'=>e=υ (φ #[J #[Z M 0 0,Z M 0 0],σ 40 (I O 5)])/\ω w w':=by
 obtain⟨k0,k1,kb⟩:=ft (w:=w) (o1:=L #[I O ch,I O ao,I O narrow,I O aj,U th] 39) (o2:=L #[Z M 0 0,Z M 0 0] 33) Å;have ea:((w.alloc (L #[I O ch,I O ao,I O narrow,I O aj,U th] 39)).alloc (L #[Z M 0 0,Z M 0 0] 33)).heap.size=w.heap.size+1+1:=Ä;have hc:=jK (Sb false) s ((w.alloc (L #[I O ch,I O ao,I O narrow,I O aj,U th] 39)).alloc (L #[Z M 0 0,Z M 0 0] 33)) hs (hL.below kb hL.size);have K0:=hid k0;have K1:=hid k1;have KB:=hid kb;have UD:Hid (∀W,Calls _ _ _ W _):=λW=>EG ch ao narrow aj th FY W
 clear k0 k1 kb FY;cases hr:Sp.parse Sp.Tr s.data.toList with
 |error er=>unfold Sp.tree at ht;rw[hr]at ht;cases ht
 |ok xs=>
  rw[hr]at hc;clear ht hr;go_enter func8,ntmps8;go_wp2_with fail;generalize (w.alloc (L #[I O ch,I O ao,I O narrow,I O aj,U th] 39)).alloc (L #[Z M 0 0,Z M 0 0] 33)=wz at*;refine hc.mono ?_;rintro e w1⟨v,ct1,nvv,WS,rfl,hv,b1,eu,_⟩;obtain⟨va,vn,vc,rfl⟩:=eH hv;obtain⟨na,nn,nc,rfl⟩:=lF eu;have WH:(w1.alloc (L #[Z va vn vc,I O ct1.1,I O ct1.2,Z na nn nc] 79)).heap[w.heap.size]?=_:=heap_alloc_old ((b1.block _ À).trans K0.out);have nO:(w1.alloc (L #[Z va vn vc,I O ct1.1,I O ct1.2,Z na nn nc] 79)).heap[w.heap.size+1]?=_:=heap_alloc_old ((b1.block _ À).trans K1.out);have HN:Hid (_/\_/\_):=And.intro WH (And.intro nO ((KB.trans (b1.mono À)).alloc (by have:=b1.size;omega) (L #[Z va vn vc,I O ct1.1,I O ct1.2,Z na nn nc] 79)));clear hc hv eu WH nO K0 K1 KB;go_upto_region 4 with fail;generalize w1.alloc (L #[Z va vn vc,I O ct1.1,I O ct1.2,Z na nn nc] 79)=W at*;obtain⟨h0,h1,hb⟩:=HN.out;have g0:=cell_of h0 0 rfl;have g1:=cell_of h0 1 rfl;have g2:=cell_of h0 2 rfl;have g3:=cell_of h0 3 rfl;have g4:=cell_of h0 4 rfl;clear h0 h1 hb;go_wp2_with fail;refine(UD.out _).mono ?_;rintro r w2⟨rfl,b2⟩;obtain⟨h0,h1,hb⟩:=HN.out;have o8:=(b2.block _ (ah h1)).trans h1;obtain⟨z0,z1,xe,xo,mq⟩:=aI o8;have MQ:=hid (mq (Z M 0 0) (Z M 0 0));have HB:Hid (ω w ((w2.setCell ⟨w.heap.size+1,0,M⟩ (Z M 0 0)).setCell ⟨w.heap.size+1,1,M⟩ (Z M 0 0))):=((hb.trans (b2.mono hb.size)).setCell (p:=⟨w.heap.size+1,0,M⟩) (Nat.le_succ _) _).setCell (p:=⟨w.heap.size+1,1,M⟩) (Nat.le_succ _) _;clear h0 h1 hb o8 mq HN g0 g1 g2 g3 g4;go_wp2_with fail;exact Ç (v:=φ #[J #[Z M 0 0,Z M 0 0],σ 40 (I O 5)]) (by simp[results,results8,go_sem,MQ.1,MQ.2]) rfl ⟨rfl,HB.out⟩
end
def Good(s:ByteArray)(ch:Int)(th:Bool)(w:Wd):Prop:=∀(t:Sp.Bl) (d n u:Nat),Sp.tree s.data.toList=.ok t->s.size<=1048576->d<=4/\n<=3/\u<=3->Calls prog 5 #[χ s,I O ch,I O (d:Nat),I O (n:Nat),I O (u:Nat),U th] w λe w'=>e=υ (U true)/\ω w w'
theorem CB(s:ByteArray)(ch ao narrow aj:Int)(th:Bool)(w:Wd)(hL:rA w)(hG:ch=0∨ch=1->Good s ch th w) :
  Calls prog 5 #[χ s,I O ch,I O ao,I O narrow,I O aj,U th] w λe w'=>e=υ (U true)/\ω w w':=by
 by_cases hs:1048576<s.size
 .have gN:(1048576:Int)<(s.size:Int):=À
  go_enter func5,ntmps5;go_wp2_with fail;go_ret;exact⟨rfl,Å⟩
 have dq:s.size<=1048576:=À;cases ht:Sp.tree s.data.toList with
 |error er=>refine RG.rm s dq ch ao narrow aj th w (er.1:Nat) (er.2:Nat) ((Ew s ch ao narrow aj th w dq hL.laid ht).mono ?_) (λW=>RG.U7 s dq ch ao narrow aj th W ht);rintro e w'⟨v,rfl,hv,b⟩;obtain⟨tv,uv,rfl⟩:=Bz hv;have ZB:=hL.after (b.trans ((below_alloc1 w' (L #[Z M 0 0,Z M 0 0] 33)).mono b.size));exact⟨tv,uv,rfl,OT _ er _ _ ZB.et ZB.laid.size (hv.laid _),b⟩
 |ok t=>
  by_cases hc:RG.FC ch ao narrow aj
  .refine RG.rm s dq ch ao narrow aj th w 5 0 ((FM s ch ao narrow aj th w dq hL.laid ht hc).mono ?_) (λW=>RG.VB s dq ch ao narrow aj th W ht hc)
   rintro e w'⟨rfl,b⟩;have ZB:=hL.after (b.trans ((below_alloc1 w' (L #[Z M 0 0,Z M 0 0] 33)).mono b.size));exact⟨_,_,rfl,zt 5 _ ZB.et ZB.laid.size,b⟩
  .obtain⟨d,hd⟩:∃d:Nat,ao=(d:Int):=⟨ao.toNat,by unfold RG.FC at hc;omega⟩
   obtain⟨n,hn⟩:∃n:Nat,narrow=(n:Int):=⟨narrow.toNat,by unfold RG.FC at hc;omega⟩;obtain⟨u,hu⟩:∃u:Nat,aj=(u:Int):=⟨aj.toNat,by unfold RG.FC at hc;omega⟩;subst hd hn hu;have hP:d<=4/\n<=3/\u<=3:=by unfold RG.FC at hc;omega
   exact hG (by unfold RG.FC at hc;omega) t d n u ht dq hP
theorem S0(s:ByteArray)(th:Bool)(w:Wd)(hL:rA w)(hT:gI w):Good s 1 th w:=λt d n u ht dq hP=>by
 refine RG.ru (E:=false) s dq d n u th w (bU (W.Dm (⟨fm th t⟩:W.aw false)) ⟨d,n,u⟩ t) ?_ (λW=>?_)
 .have h:=W.Ai s ht d n u th w dq hL.laid hT hP.1 hP.2.1 hP.2.2
  rw[ht]at h;exact h
 .refine(RG.Jj RG.YL RG.Yw s dq d n u hP th W ht).mono ?_
  rintro e w'⟨C,F,rfl,h1,rfl,h3⟩;exact⟨C,rfl,h1,h3⟩
namespace W
section
variable{w w':Wd}
variable{u v:Value}
variable{ns:List Nat}
theorem uk(va:Option Addr)(vn vc:Nat)(p q:Int)(na:Option Addr)(nn nc:Nat)(ch ao narrow aj:Int)(th:Bool)(w:Wd) :
  Calls prog 24 #[J #[Z va vn vc,I O p,I O q,Z na nn nc],J #[I O ch,I O ao,I O narrow,I O aj,U th]] w λe w'=>e=υ (if th then Z na nn nc else Z M 0 0)/\ω w w':=by
 cases th with
 |true=>go_enter func24,ntmps24;go_wp2_with fail;go_ret;exact⟨rfl,by go_grown⟩
 |false=>go_enter func24,ntmps24;go_wp2_with fail;go_ret;exact⟨rfl,by go_grown⟩
theorem Ax(ao narrow aj:Nat)(th:Bool)(h1:ao<=4)(h2:narrow<=3)(h3:aj<=3)(w:Wd) :
  Calls prog 20 #[J #[I O 0,I O (ao:Nat),I O (narrow:Nat),I O (aj:Nat),U th]] w λe w'=>e=υ (U true)/\ω w w':=by
 have H1:Hid (∀W,Calls _ _ _ W _):=λW=>jF (ao:Nat) 4 W À À
 have H2:Hid (∀W,Calls _ _ _ W _):=λW=>jF (narrow:Nat) 3 W À À
 have H3:Hid (∀W,Calls _ _ _ W _):=λW=>jF (aj:Nat) 3 W À À
 clear h1 h2 h3;go_enter func20,ntmps20;go_wp2_with fail;refine(H1.out _).mono ?_;rintro r w1⟨rfl,rfl⟩;go_wp2_with fail;refine(H2.out _).mono ?_;rintro r w1⟨rfl,rfl⟩;go_wp2_with fail;refine(H3.out _).mono ?_;rintro r w1⟨rfl,rfl⟩;go_wp2_with fail;go_ret;exact⟨rfl,by go_grown⟩
def qF(th:Bool)(t:Sp.Bl):List Int:=aX (if th then bD t else [])
theorem Re{B:Nat}{zs:List Int}(h:tE B w u zs)(hz:zs≠[])(hl:(zs.length:Int)<=1000000):fU w.heap.size (⟨zs⟩:aw true) (J #[u]) w:=by
 rcases h.2 with⟨_,h0⟩|⟨g,cap,cur,rfl,hb,hh,hn,hm,hs,ht⟩
 .exact absurd (List.eq_nil_of_length_eq_zero h0) hz
 .refine S2 È (ah hh) hl λi x hx=>?_
  rw[Nat.zero_add];refine cell_of hh i ?_;have h2:i<zs.length:=(Í.1 hx).1;have h3:cur.toList[i]?=(yE zs)[i]?:=by rw[<-ht,List.getElem?_take,Á À]
  rw[<-Ý,h3];unfold yE;rw[List.getElem?_map,hx];rfl
theorem KL{B:Nat}(h:w.ownsRow B 180 1 v ns.length (gU ns)):uB w v ns:=by
 rcases h.2 with⟨rfl,h0⟩|⟨g,cap,cur,rfl,hb,hh,hn,hm,hs,ht⟩
 .have:ns=[]:=List.eq_nil_of_length_eq_zero h0
  subst this;exact⟨M,0,rfl,λh=>absurd rfl h⟩
 .refine⟨_,cap,rfl,λ_=>⟨g,0,rfl,ah hh,λi n hi=>?_⟩⟩
  rw[Nat.zero_add];refine cell_of hh i ?_;have h2:i<ns.length:=(Í.1 hi).1;have h3:cur.toList[i]?=(gU ns)[i]?:=by rw[<-ht,List.getElem?_take,Á À]
  rw[<-Ý,h3];unfold gU;rw[List.getElem?_map,hi];rfl
theorem Ih(h:uB w v ns)(b:ω w w'):uB w' v ns:=by obtain⟨a,cap,rfl,hc⟩:=h;refine⟨a,cap,rfl,λhn=>?_⟩;obtain⟨g,off,h1,h2,h3⟩:=hc hn;exact⟨g,off,h1,Nat.lt_of_lt_of_le h2 b.size,λi n hi=>by rw[b.cell (p:=⟨g,off+i,M⟩) h2];exact h3 i n hi⟩
def SZ(w:Wd)(th:Bool)(P:z7):Except (Nat×Nat) Sp.Bl->Ending->Wd->Prop
 |.ok t,e,w'=>∃v,e=υ (φ #[v,.nilIface])/\tN w.heap.size w' v (bU (Dm (⟨qF th t⟩:aw true)) P t)/\ω w w'
 |.error _,_,_=>True
theorem Hq(s:ByteArray){t0:Sp.Bl}(I8:Sp.tree s.data.toList=.ok t0)(ao narrow aj:Nat)(th:Bool)(w:Wd)(hs:s.size<=1048576)(hL:Laid w)(hT:gI w)(h1:ao<=4)(h2:narrow<=3)(h3:aj<=3) :
  Calls prog 8 #[χ s,J #[I O 0,I O (ao:Nat),I O (narrow:Nat),I O (aj:Nat),U th]] w (SZ w th ⟨ao,narrow,aj⟩ (Sp.tree s.data.toList)):=by
 obtain⟨k0,k1,kb⟩:=ft (w:=w) (o1:=L #[I O 0,I O (ao:Nat),I O (narrow:Nat),I O (aj:Nat),U th] 39) (o2:=L #[Z M 0 0,Z M 0 0] 33) Å;have ea:((w.alloc (L #[I O 0,I O (ao:Nat),I O (narrow:Nat),I O (aj:Nat),U th] 39)).alloc (L #[Z M 0 0,Z M 0 0] 33)).heap.size=w.heap.size+1+1:=Ä;have hc:=jK (Sb true) s ((w.alloc (L #[I O 0,I O (ao:Nat),I O (narrow:Nat),I O (aj:Nat),U th] 39)).alloc (L #[Z M 0 0,Z M 0 0] 33)) hs (hL.below kb hL.size);have K0:=hid k0;have K1:=hid k1;have KB:=hid kb;clear k0 k1 kb;cases hr:Sp.parse Sp.Tr s.data.toList with
 |error er=>unfold Sp.tree at I8;rw[hr]at I8;cases I8
 |ok xs=>
  have Wy:Sp.tree s.data.toList=.ok (aO xs):=by unfold Sp.tree;rw[hr]
  have δ:=hid Wy;rw[hr]at hc;obtain⟨AJ,Z4,rH⟩:=rQ Wy;have UD:Hid (∀W,Calls _ _ _ W _):=λW=>Ax ao narrow aj th h1 h2 h3 W
  go_enter func8,ntmps8;go_wp2_with fail;generalize (w.alloc (L #[I O 0,I O (ao:Nat),I O (narrow:Nat),I O (aj:Nat),U th] 39)).alloc (L #[Z M 0 0,Z M 0 0] 33)=wz at*;refine hc.mono ?_;rintro e w1⟨v,ct1,nvv,WS,rfl,hv,b1,eu,zO⟩;obtain⟨va,vn,vc,rfl⟩:=eH hv;obtain⟨na,nn,nc,rfl⟩:=lF eu;have hB:=uK hv;generalize ht:aO xs=t at*;have pv:bD t=WS:=Mz Wy zO;have QB:Sp.Small (0,0) (Sp.pB t) (Sp.qB t):=⟨Ä,Ä,by simp;omega,by simp;omega⟩;have FV:=hB.cb;rw[gp t (0,0) QB]at FV;obtain⟨p,hp⟩:∃p:Nat,ct1.1=(p:Int):=⟨Sp.pB t,by rw[<-FV];simp⟩;obtain⟨q,hq⟩:∃q:Nat,ct1.2=(q:Int):=⟨Sp.qB t,by rw[<-FV];simp⟩;have X0:p=Sp.pB t:=by have:=Ë Prod.fst FV;simp at this;omega
  have Tk:q=Sp.qB t:=by have:=Ë Prod.snd FV;simp at this;omega
  obtain⟨c1,c2⟩:=ct1;simp only at hp hq;subst hp hq;simp only;have kp:=below_alloc1 w1 (L #[Z va vn vc,I O (p:Nat),I O (q:Nat),Z na nn nc] 79);have ff:(w1.alloc (L #[Z va vn vc,I O (p:Nat),I O (q:Nat),Z na nn nc] 79)).heap[w.heap.size+1]?=Y (L #[Z M 0 0,Z M 0 0] 33):=heap_alloc_old (by rw[b1.block _ À];exact K1.out);have px:(w1.alloc (L #[Z va vn vc,I O (p:Nat),I O (q:Nat),Z na nn nc] 79)).heap[w.heap.size]?=Y (L #[I O 0,I O (ao:Nat),I O (narrow:Nat),I O (aj:Nat),U th] 39):=heap_alloc_old (by rw[b1.block _ À];exact K0.out);have AH:=heap_alloc_new w1 (L #[Z va vn vc,I O (p:Nat),I O (q:Nat),Z na nn nc] 79);have Ts:=KB.trans (b1.mono À);have rJ:Hid (uB w1 (Z na nn nc) WS):=KL eu;have hlen:WS.length<=800:=by rw[<-pv];exact Fy Wy
  have Km:∀n∈WS,n<=32767:=λn hn=>by have:=rH (n:Int) (by rw[gC,pv];exact List.mem_map.2 ⟨n,hn,rfl⟩);have:=this.2;omega
  obtain⟨ma,mn,mc,hma⟩:∃a n c,(if th then Value.slice na nn nc else Z M 0 0)=Z a n c:=by cases th<;>exact⟨_,_,_,rfl⟩
  have HTH:Hid (∀W,Calls prog 24 #[J #[Z va vn vc,I O (p:Nat),I O (q:Nat),Z na nn nc],J #[I O 0,I O (ao:Nat),I O (narrow:Nat),I O (aj:Nat),U th]] W λe w'=>e=υ (Z ma mn mc)/\ω W w'):=λW=>by have:=uk va vn vc (p:Nat) (q:Nat) na nn nc 0 (ao:Nat) (narrow:Nat) (aj:Nat) th W;rw[hma]at this;exact this
  obtain⟨ns,hnse⟩:∃ns,ns=if th then WS else []:=⟨_,rfl⟩
  have Ut:Hid (uB w1 (Z ma mn mc) ns):=by
   unfold Hid;rw[<-hma,hnse];cases th
   .exact⟨M,0,rfl,λh=>absurd rfl h⟩
   .exact rJ.out
  have Y9:ns.length<=1000:=by
   rw[hnse];split
   .omega
   .exact Ì
  have aap:∀n∈ns,n<=32767:=λn hn=>by
   rw[hnse]at hn;split at hn
   .exact Km n hn
   .cases hn
  have DI:Hid (aX ns=qF th t):=by unfold Hid qF;rw[pv,hnse]
  have HIN:Hid (∀W,ω w1 W->Calls prog 23 #[Z ma mn mc] W λe w'=>∃u,e=υ (J #[u])/\tE W.heap.size w' u (aX ns)/\ω W w'):=λW hW=>Vo _ ns W (Ih Ut.out hW) Y9 aap
  have Zu:(aX ns).length<=1000000:=by rw[rE];omega
  have hse:aX ns≠[]:=by unfold aX;simp
  have HRP:Hid (∀W u,ω w1 W->tE w1.heap.size W u (aX ns)->Calls prog 22 #[J #[Z va vn vc,I O (p:Nat),I O (q:Nat),Z na nn nc],J #[I O 0,I O (ao:Nat),I O (narrow:Nat),I O (aj:Nat),U th],σ 92 (J #[u])] W λr w'=>∃v,r=υ v/\tN W.heap.size w' v (bU (Dm (⟨aX ns⟩:aw true)) ⟨ao,narrow,aj⟩ t)/\ω W w'):=λW u hW hu=>by have hd:=Re hu hse À;have vm:=Ts.trans (hW.mono Ts.size);have:=tK W (⟨aX ns⟩:aw true) (J #[u]) 0 ao narrow aj th p q À À À À (Z va vn vc) (Z na nn nc) ⟨_,_,_,rfl⟩ ⟨_,_,_,rfl⟩ t ⟨hd,hT.below vm hL.size,Nat.le_trans hL.size vm.size⟩ QB wz.heap.size w1.heap.size w1 (λk _ h2 _=>hW.block k h2) hW.size hB;refine this.mono ?_;rintro r w'⟨g,h,rfl,e1,e2,e3,e4,e5⟩;have hl:=zj (Dm (⟨aX ns⟩:aw true)) ⟨ao,narrow,aj⟩ t QB;generalize bU (Dm (⟨aX ns⟩:aw true)) ⟨ao,narrow,aj⟩ t=F at*;exact⟨_,rfl,ER F p q (by rw[X0];exact hl.1) (by rw[Tk];exact hl.2) e1 e2 e3 e4,e5⟩
  have HB:=hid hB;have Gs:=hid Ts;have HT:=hid hT;have HG:=hid hL.size;have Xt:=hid kp;have mM:=hid ff;have xx:=hid px;have Jg:=hid AH;have d0:=cell_of px 0 (v:=I O 0) rfl;have d1:=cell_of px 1 (v:=I O (ao:Nat)) rfl;have d2:=cell_of px 2 (v:=I O (narrow:Nat)) rfl;have d3:=cell_of px 3 (v:=I O (aj:Nat)) rfl;have d4:=cell_of px 4 (v:=U th) rfl;have HPP:Hid (p=Sp.pB t/\q=Sp.qB t):=⟨X0,Tk⟩;have hls:w.heap.size+1<w1.heap.size:=by have:=b1.size;omega
  clear hc hv eu zO hB hT hL kp ff px AH hr ht FV b1 Ts X0 Tk hma hnse Km aap;go_wp2_with fail;refine(UD.out _).mono ?_;rintro r w3⟨rfl,b3⟩;have Gr:ω w1 w3:=Xt.trans (b3.mono Xt.size);have nJ:=(b3.block _ (ah mM.out)).trans mM.out;have zH:=(b3.block _ (ah xx.out)).trans xx.out;have I3:=(b3.block _ (ah Jg.out)).trans Jg.out;have e0:=cell_of zH 0 (v:=I O 0) rfl;have zV:=hid Gr.drew;have Gl:=hid nJ;have HC3:=hid zH;have HG3:=hid I3;clear b3 Gr nJ zH I3 d0 d1 d2 d3 d4 mM xx Jg Xt UD;go_wp2_with fail;refine wp_region_held_drew (S:=λw':Wd=>(w'.heap[w.heap.size]?=Y (L #[I O 0,I O (ao:Nat),I O (narrow:Nat),I O (aj:Nat),U th] 39)/\w'.heap[w1.heap.size]?=Y (L #[Z va vn vc,I O (p:Nat),I O (q:Nat),Z na nn nc] 79))/\∃c:Array Value,c.size=2/\w'.heap[w.heap.size+1]?=Y (L c 33)) Ã ⟨⟨HC3.out,HG3.out⟩,_,rfl,Gl.out⟩ (λaa=>?_);clear e0;refine tk 0 (J #[Z va vn vc,I O (p:Nat),I O (q:Nat),Z na nn nc]) rfl (λw' h=>by(have d0:=cell_of h.1.2 0 (v:=Z va vn vc) rfl);(have d1:=cell_of h.1.2 1 (v:=I O (p:Nat)) rfl);(have d2:=cell_of h.1.2 2 (v:=I O (q:Nat)) rfl);have d3:=cell_of h.1.2 3 (v:=Z na nn nc) rfl;go_simp) aa ?_;refine tk 1 (J #[I O 0,I O (ao:Nat),I O (narrow:Nat),I O (aj:Nat),U th]) rfl (λw' h=>by(have d0:=cell_of h.1.1 0 (v:=I O 0) rfl);(have d1:=cell_of h.1.1 1 (v:=I O (ao:Nat)) rfl);(have d2:=cell_of h.1.1 2 (v:=I O (narrow:Nat)) rfl);(have d3:=cell_of h.1.1 3 (v:=I O (aj:Nat)) rfl);have d4:=cell_of h.1.1 4 (v:=U th) rfl;go_simp) aa ?_;refine tk 2 (J #[Z va vn vc,I O (p:Nat),I O (q:Nat),Z na nn nc]) rfl (λw' h=>by(have d0:=cell_of h.1.2 0 (v:=Z va vn vc) rfl);(have d1:=cell_of h.1.2 1 (v:=I O (p:Nat)) rfl);(have d2:=cell_of h.1.2 2 (v:=I O (q:Nat)) rfl);have d3:=cell_of h.1.2 3 (v:=Z na nn nc) rfl;go_simp) aa ?_;refine tk 3 (J #[I O 0,I O (ao:Nat),I O (narrow:Nat),I O (aj:Nat),U th]) rfl (λw' h=>by(have d0:=cell_of h.1.1 0 (v:=I O 0) rfl);(have d1:=cell_of h.1.1 1 (v:=I O (ao:Nat)) rfl);(have d2:=cell_of h.1.1 2 (v:=I O (narrow:Nat)) rfl);(have d3:=cell_of h.1.1 3 (v:=I O (aj:Nat)) rfl);have d4:=cell_of h.1.1 4 (v:=U th) rfl;go_simp) aa ?_;refine bP 4 λK hK=>?_
  simp only[bG,gd];go_simp;refine(HTH.out _).mono ?_;rintro r w4⟨rfl,b4⟩;go_wp2_with fail;have b4':ω w1 w4:=zV.trans (b4.mono zV.size);have B4:=hid b4';obtain⟨zc,hzc,xi⟩:=aa.2;have pC:=(b4.block _ (ah xi)).trans xi;have QK:(w4.heap[w.heap.size]?=Y (L #[I O 0,I O (ao:Nat),I O (narrow:Nat),I O (aj:Nat),U th] 39)/\w4.heap[w1.heap.size]?=Y (L #[Z va vn vc,I O (p:Nat),I O (q:Nat),Z na nn nc] 79)):=⟨(b4.block _ (ah aa.1.1)).trans aa.1.1,(b4.block _ (ah aa.1.2)).trans aa.1.2⟩;refine hK.out _ _ ⟨QK,zc,hzc,pC⟩ (λaa=>?_);clear hK K b4 b4' xi;refine bP 5 λK hK=>?_
  simp only[bG];go_simp;refine(HIN.out _ B4.out).mono ?_;rintro r w5⟨u,rfl,hu,b5⟩;go_wp2_with fail;have B5:Hid (ω w1 w5):=B4.trans (b5.mono B4.size);have HU:Hid (tE w1.heap.size w5 u (aX ns)):=wT hu B4.size;have tQ:=(b5.block _ (ah pC)).trans pC;have hS5:(w5.heap[w.heap.size]?=Y (L #[I O 0,I O (ao:Nat),I O (narrow:Nat),I O (aj:Nat),U th] 39)/\w5.heap[w1.heap.size]?=Y (L #[Z va vn vc,I O (p:Nat),I O (q:Nat),Z na nn nc] 79)):=⟨(b5.block _ (ah aa.1.1)).trans aa.1.1,(b5.block _ (ah aa.1.2)).trans aa.1.2⟩;refine hK.out _ _ ⟨hS5,zc,hzc,tQ⟩ (λaa=>?_);clear hK K b5 hu pC QK;refine tq 6 (σ 92 (J #[u])) aa ?_;refine bP 7 λK hK=>?_
  simp only[bG,gd];go_simp;refine(HRP.out _ u B5.out HU.out).mono ?_;rintro r w6⟨v,rfl,⟨g,h,rfl,g1,g2,g3,g4⟩,b6⟩;go_wp2_with fail;have B6:Hid (ω w1 w6):=B5.trans (b6.mono B5.size);have I0:=(b6.block _ (ah tQ)).trans tQ;have hS6:(w6.heap[w.heap.size]?=Y (L #[I O 0,I O (ao:Nat),I O (narrow:Nat),I O (aj:Nat),U th] 39)/\w6.heap[w1.heap.size]?=Y (L #[Z va vn vc,I O (p:Nat),I O (q:Nat),Z na nn nc] 79)):=⟨(b6.block _ (ah aa.1.1)).trans aa.1.1,(b6.block _ (ah aa.1.2)).trans aa.1.2⟩;refine hK.out _ _ ⟨hS6,zc,hzc,I0⟩ (λ_=>?_);clear hK K b6 tQ hS5;have hl5:=B5.size;generalize Zp:bU (Dm (⟨aX ns⟩:aw true)) ⟨ao,narrow,aj⟩ t=F at*;have HFF:=hid Zp;have l1:(w.heap.size+1)≠w.heap.size:=À;obtain⟨ra,hra⟩:∃ra,ra=#[Value.slice (Y ⟨g,0,M⟩) F.1.length F.1.length,Z (Y ⟨h,0,M⟩) F.2.length F.2.length]:=⟨_,rfl⟩;have r2:ra.size=2:=by rw[hra];rfl
  have je:=ar I0 (d:=ra) (by rw[r2,hzc]);have hre:tN w.heap.size (w6.setCells (w.heap.size+1) 0 ra.toList) (J ra) F:=⟨g,h,(by rw[hra];rfl),À,À,(al _ _ _ _ À).trans g3,(al _ _ _ _ À).trans g4⟩;have Zw:ω w (w6.setCells (w.heap.size+1) 0 ra.toList):=au (b:=w.heap.size+1) À _ _ _ _ (Gs.trans (B6.mono Gs.size));refine bP 8 λK hK=>?_
  simp only[bG];rw[Á Ê];refine wp_store_mid _ _ _ rfl _ _ ra rfl (by rw[hra];rfl) (by rw[r2,<-hzc];exact bO I0) (by rw[Cf,r2]) (by rw[hra];simp[Value.oneCell']) ?_;refine hK.out _ _ ⟨⟨(al _ _ _ _ À).trans hS6.1,(al _ _ _ _ À).trans hS6.2⟩,ra,r2,je⟩ (λaa=>?_);clear hK K;clear hra;refine bP 9 λK hK=>?_
  simp only[bG];go_simp;refine hK.out _ _ aa (λ_=>?_);clear hK K;refine wpAnyH_done Ã ?_ _;have Yd:=hid je;have XV:=hid hre;have Xl:=hid Zw;clear je hre Zw aa hS6 I0 g3 g4 Zp;go_wp2_with fail;have hl:(loadVar 33 ⟨w.heap.size+1,0,M⟩).run prog (w6.setCells (w.heap.size+1) 0 ra.toList)=.ok (J ra) (w6.setCells (w.heap.size+1) 0 ra.toList):=by have:=run_loadVar_mid (P:=prog) (w6.setCells (w.heap.size+1) 0 ra.toList) (w.heap.size+1) 0 33 ra.toList _ (aT Yd.out) underlying33 rfl (by rw[Cf];simp[r2]);simpa using this
  refine Ç (v:=φ #[J ra,.nilIface]) (Ic _ _ rfl rfl hl) rfl ?_;rw[δ.out];exact⟨_,rfl,by rw[<-DI.out,HFF.out];exact XV.out,Xl.out⟩
end
end W
theorem Hl(th:Bool)(t:Sp.Bl):W.qF th t=fm th t:=by
 unfold fm W.qF aX;cases th with
 |false=>rfl
 |true=>simp only[if_true];rw[gC,List.flatMap_map]
theorem KF{l l':List Int}(h:l=l')(P:z7)(t:Sp.Bl):(bU (W.Dm (⟨l⟩:W.aw true)) P t:W.XH)=bU (W.Dm (⟨l'⟩:W.aw true)) P t:=by subst h;rfl
theorem RO(s:ByteArray)(th:Bool)(w:Wd)(hL:rA w)(hT:gI w):Good s 0 th w:=λt d n u ht dq hP=>by
 refine RG.ru (E:=true) s dq d n u th w (bU (W.Dm (⟨W.qF th t⟩:W.aw true)) ⟨d,n,u⟩ t) ?_ (λW=>?_)
 .have h:=W.Hq s ht d n u th w dq hL.laid hT hP.1 hP.2.1 hP.2.2
  rw[ht]at h;exact h
 .refine(RG.Jj RG.Y2 RG.YS s dq d n u hP th W ht).mono ?_
  rintro e w'⟨C,F,rfl,h1,hF,h3⟩;have e:=hF.trans (KF (Hl th t) ⟨d,n,u⟩ t).symm;subst e;exact⟨C,rfl,h1,h3⟩
theorem Pd(s:ByteArray)(ch ao narrow aj:Int)(th:Bool)(w:Wd)(hL:rA w)(hT:gI w) :
  Calls prog 5 #[χ s,I O ch,I O ao,I O narrow,I O aj,U th] w λe w'=>e=υ (U true)/\ω w w':=
 CB s ch ao narrow aj th w hL λh=>by
  rcases h with rfl|rfl
  .exact RO s th w hL hT
  .exact S0 s th w hL hT
theorem ŀ(s:ByteArray)(ch ao narrow aj:Int)(w:Wd)(hL:rA w)(hT:gI w) :
  Calls prog 3 #[χ s,I O ch,I O ao,I O narrow,I O aj] w λe w'=>e=υ (U true)/\ω w w':=by
 have HC:=hid (Pd s ch ao narrow aj true w hL hT);go_enter func3,ntmps3;go_wp2_with fail;refine HC.mono ?_;rintro e w'⟨rfl,b⟩;go_wp2_with fail;go_ret;exact⟨rfl,b⟩
end Go.Proofs.YtiopfihjmkfdmabGreatDoor
