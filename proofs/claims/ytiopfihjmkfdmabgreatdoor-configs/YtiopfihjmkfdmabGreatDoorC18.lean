import Derived.Test.YtiopfihjmkfdmabGreatDoorC16
import Derived.Test.YtiopfihjmkfdmabGreatDoorC17
namespace Go.Proofs.YtiopfihjmkfdmabGreatDoor
open Go.Value renaming int->I,slice->Z,agg->J,bool->U,tuple->φ,pointer->ρ
open Go.IntKind renaming i64->O,i16->ψ
open Option renaming none->M,some->Y
open Go.Obj renaming cells->L
open Go.Ending renaming returned->υ
open Go.Proofs.Tryz Sp
open Go.RowKit
set_option maxRecDepth 100000
set_option maxHeartbeats 16000000
section
variable{base kx ky kr:Nat}
variable{w W W':Wd}
variable{a q b c d:Int}
variable{r:Option Sp.Cg}
theorem oD.cell{v:Value}{zs:List Int}(h:oD base w v zs)(db:zs≠[]):∃g c,v=Z (Y ⟨g,0,M⟩) zs.length c/\base<=g/\g<w.heap.size/\∀j z,zs[j]?=Y z->w.cell? ⟨g,j,M⟩=Y (I O z):=by
 have Yj:=h.1
 rcases h.2 with⟨_,hz⟩|⟨g,cap,cur,rfl,hlg,hh,hnc,hcm,Yo,QC⟩
 .exact absurd (List.eq_nil_of_length_eq_zero hz) db
 .refine⟨g,cap,rfl,hlg,ah hh,λj z hz=>?_⟩
  refine cell_of hh j ?_;have h2:j<zs.length:=(Í.1 hz).1;have h3:cur.toList[j]?=(ints zs)[j]?:=by rw[<-QC,List.getElem?_take,Á À]
  rw[<-Ý,h3];unfold ints;rw[List.getElem?_map,hz];rfl
theorem oG(h1:-32768<=a)(h2:a<=32767):-32768<=a.tdiv q/\a.tdiv q<=32768:=by
 have h:(a.tdiv q).natAbs<=a.natAbs:=by rw[Int.natAbs_tdiv];exact Nat.div_le_self _ _
 omega
theorem ye(hq:q∈dz ⟨a,b⟩):q≠0:=by
 unfold dz at hq;simp only[List.mem_append]at hq
 rcases hq with hq|hq
 .split at hq
  .simp at hq;omega
  .simp at hq
 .split at hq
  .simp at hq;omega
  .simp at hq
def eD(a b:Int)(zs:List Int):List Int:=zs.flatMap λq=>[a.tdiv q,b.tdiv q]
theorem nf(a b:Int)(zs:List Int):(eD a b zs).length=2*zs.length:=by
 induction zs with
 |nil=>rfl
 |cons x xs ih=>unfold eD at*;rw[List.flatMap_cons,List.length_append,ih];simp;omega
theorem LS(a b c d:Int)(w:Wd)(h1:-32768<=a)(h2:a<=b)(h3:b<=32767)(h4:-32768<=c)(h5:c<=d)(h6:d<=32767) :
  Calls prog 315 #[J #[I ψ a,I ψ b],J #[I ψ c,I ψ d]] w λe w'=>e=υ (iW (ig ⟨a,b⟩ ⟨c,d⟩))/\ω w w':=by
 obtain⟨i64,xw,xh,xu,wZ⟩:=info_parts BX;go_enter func315,ntmps315;go_wp2_with fail;refine(oK a b _ h1 À À h3).mono ?_;rintro e w1⟨rfl,b1⟩;obtain⟨hx,hy,hz,bw⟩:=bQ b1;obtain⟨y0,y1,wE,wH,yq⟩:=aI hy;have HZ:=hid hz;have BW:=hid bw;clear b1 hz bw hy hx wE wH yq;go_wp2_with fail;refine(Iy c d _ h4 h5 h6).mono ?_;rintro e w2⟨v,rfl,r2,b2⟩;have ff:w2.heap[w.heap.size+1+1]?=_:=(b2.block _ (ah HZ.out)).trans HZ.out;have mM:=hid ff;have B2:Hid (ω w w2):=BW.trans (b2.mono BW.size);have HNE:Hid (∀q∈dz ⟨c,d⟩,q≠0):=λq hq=>ye hq
 have Wz:Hid ((dz ⟨c,d⟩).length<=4):=by unfold Hid dz;rw[List.length_append];split<;>split<;>simp
 have EQ:Hid (ig ⟨a,b⟩ ⟨c,d⟩=if dz ⟨c,d⟩=[] then M else Y (cZ (eD a b (dz ⟨c,d⟩)))):=rfl;generalize dz ⟨c,d⟩=zs at*;obtain⟨av,cv,rfl⟩:=r2.form;have R2:=hid r2;clear ff b2 y0 y1 r2;have hlen:(zs.length:Int)<=4:=by have:=Wz.out;omega
 go_wp2_with fail
 go_loopw [8,19] (λv8 v19 wr=>∃j:Nat,j<=zs.length/\v19=I O j/\Hid (oD w2.heap.size wr v8 (eD a b (zs.take j))/\ω w2 wr)) (λ_ v19 _=>zs.length-(intOf v19).toNat)
 case atStart=>exact⟨0,Ì,rfl,World.ownsRow_nil _ _ _ _,Å⟩
 case round=>
  obtain⟨j,hj,rfl,hq⟩:=hrel;obtain⟨aq,cq,rfl⟩:=hq.1.form;by_cases dZ:j<zs.length
  .obtain⟨z,hz⟩:∃z,zs[j]?=Y z:=⟨_,Î dZ⟩
   have db:zs≠[]:=by intro e;subst e;simp at dZ
   obtain⟨g,cv',hv,zR,hg,il⟩:=R2.cell db;injection hv with e1 e2 e3
   subst e1;have Nh:wr.cell? ⟨g,j,M⟩=Y (I O z):=by rw[hq.2.cell (p:=⟨g,j,M⟩) hg];exact il j z hz
   have Kv:z≠0:=HNE.out z (Ù hz);have Ky:=hq.2.size;have Dr:Hid (eD a b (zs.take (j+1))=eD a b (zs.take j)++[a.tdiv z,b.tdiv z]):=by have hk:=Í.1 hz;unfold Hid eD;rw[ä hk.1,hk.2,List.flatMap_append];simp
   obtain⟨ta1,ta2⟩:=oG (q:=z) h1 (by omega:a<=32767);obtain⟨tb1,tb2⟩:=oG (a:=b) (q:=z) À h3;clear hz il e2 e3;have uf:IntKind.i64.wrap (a.tdiv z)=a.tdiv z:=by rw[IntWalk.i64_in]<;>omega
   have Zi:IntKind.i64.wrap (b.tdiv z)=b.tdiv z:=by rw[IntWalk.i64_in]<;>omega
   have Zd:(eD a b (zs.take j)).length<=100:=by
    have h1:=Wz.out;have h2:(zs.take j).length<=4:=by rw[List.length_take];omega
    rw[nf];omega
   have hn:(eD a b (zs.take j)).length+2<=maxLen:=by unfold maxLen;omega
   have XW:((eD a b (zs.take j)).length+2)*8<=140737488355328:=À;have eu:=hq.1;go_wp2_with (fail)
   go_region_law
    ((refine step_append_lies _ Ê _ _ _ Ê w2.heap.size 3 i64 (I O 0) 1 8 underlying25 xw xh xu wZ rfl À (Z aq (eD a b (zs.take j)).length cq) (eD a b (zs.take j)).length (ints (eD a b (zs.take j))) Ê ((eu.alloc _).drew)
       ⟨wr.heap.size,0,M⟩ 2 2 [I O (a.tdiv z),I O (b.tdiv z)] Ê Ê (World.news_of_block (cs:=#[I O (a.tdiv z),I O (b.tdiv z)]) (t:=3) (fr:=(0,0)) (heap_alloc_new wr _)) (by simp[Value.oneCell'])
       À hn XW (by simp;omega) (wr.heap.size+1) Ä ?_;intro gg cap w3 jf eZ XC Xk))
   all_goals
    have HQ:Hid (oD w2.heap.size w3 (Z (Y ⟨gg,0,M⟩) ((eD a b (zs.take j)).length+2) cap) (eD a b (zs.take (j+1)))/\ω w2 w3):=by unfold Hid;rw[Dr.out];exact jG (o:=L #[I O (a.tdiv z),I O (b.tdiv z)] 3) Ky eu jf ⟨eZ.os,eZ.tape,eZ.output,eZ.size,eZ.block⟩ hq.2
    clear jf eZ XC Xk eu uf Zi hn XW Zd;go_wp2_with (fail);exact⟨⟨j+1,À,by go_num,HQ⟩,by simp[intOf];omega⟩
  .have ej:zs.take j=zs:=List.take_of_length_le À
   have nJ:wr.heap[w.heap.size+1+1]?=_:=(hq.2.block _ (ah mM.out)).trans mM.out;have Gl:=hid nJ;have B3:Hid (ω w wr):=B2.trans (hq.2.mono B2.size);have eu:oD w2.heap.size wr (Z aq (eD a b (zs.take j)).length cq) (eD a b (zs.take j)):=hq.1;rw[ej]at eu⊢;have Zd:(eD a b zs).length<=100:=by have h1:=Wz.out;rw[nf];omega
   obtain⟨m0,m1,jo,jH,mq⟩:=aI nJ;by_cases db:zs=[]
   .subst db
    have δ:Hid (ig ⟨a,b⟩ ⟨c,d⟩=M):=by unfold Hid;rw[EQ.out,Á rfl]
    have MQ:=hid (mq (I ψ 0) (I ψ 0));clear mq eu nJ hq;have e0:(eD a b []).length=0:=rfl;rw[e0];go_wp2_with fail;exact Ç (v:=φ #[J #[I ψ 0,I ψ 0],U false]) (by simp[results,results315,go_sem,MQ.1,MQ.2]) rfl ⟨iX δ.out,(B3.setCell (p:=⟨w.heap.size+1+1,0,M⟩) (by show w.heap.size<=w.heap.size+1+1;omega) _).setCell (p:=⟨w.heap.size+1+1,1,M⟩) (by show w.heap.size<=w.heap.size+1+1;omega) _⟩
   .have δ:Hid (ig ⟨a,b⟩ ⟨c,d⟩=Y (cZ (eD a b zs))):=by unfold Hid;rw[EQ.out,Â db]
    have Qv:eD a b zs≠[]:=by
     intro e;have h1:=nf a b zs;rw[e]at h1;have h2:zs.length=0:=by simp at h1;omega
     exact db (List.eq_nil_of_length_eq_zero h2)
    obtain⟨g,cc,hv,zR,hg,il⟩:=eu.cell Qv;injection hv with e1 e2 e3
    subst e1;subst e3;have tR:0<(eD a b zs).length:=List.length_pos_iff.2 Qv;have HH:Hid (Calls _ _ _ _ _):=Js g 0 cq (eD a b zs) wr hg tR À (λi hi=>by rw[Nat.zero_add];refine il i _ ?_;rw[Ă,Î hi];rfl);generalize cZ (eD a b zs)=hvv at*;generalize (eD a b zs).length=m at*;have hm0:¬((m:Int)=0):=À;have tZ:((m:Int)==0)=false:=by simpa using hm0
    clear mq eu nJ hq il;go_wp2_with fail;refine HH.mono ?_;rintro e w4⟨rfl,b4⟩;have pC:w4.heap[w.heap.size+1+1]?=_:=(b4.block _ (ah Gl.out)).trans Gl.out;obtain⟨m0,m1,jo,jH,mq⟩:=aI pC;have MQ:=hid (mq (I ψ hvv.a) (I ψ hvv.b));have B4:Hid (ω w w4):=B3.trans (b4.mono B3.size);clear mq b4 pC;go_wp2_with fail;exact Ç (v:=φ #[J #[I ψ hvv.a,I ψ hvv.b],U true]) (by simp[results,results315,go_sem,MQ.1,MQ.2]) rfl ⟨iS δ.out,(B4.setCell (p:=⟨w.heap.size+1+1,0,M⟩) (by show w.heap.size<=w.heap.size+1+1;omega) _).setCell (p:=⟨w.heap.size+1+1,1,M⟩) (by show w.heap.size<=w.heap.size+1+1;omega) _⟩
theorem sV(h:a<=b):cZ [a,b]=dE a b:=by unfold cZ pq pj;simp only[List.foldl_cons,List.foldl_nil];rw[Int.min_eq_left h,Int.max_eq_right h]
theorem DX(zs:List Int)(cap:Nat)(w:Wd)(t:TypeId)(hn:0<zs.length)(hbig:zs.length<=1000000) :
  Calls prog 313 #[Z (Y ⟨w.heap.size,0,M⟩) zs.length cap] (w.alloc (L (zs.map (λz=>Value.int O z)).toArray t)) λe w'=>e=υ (J #[I ψ (cZ zs).a,I ψ (cZ zs).b])/\ω w w':=by
 refine(Js w.heap.size 0 cap zs _ Ä hn hbig (λj hj=>?_)).mono ?_
 .refine cell_of (heap_alloc_new _ _) _ ?_
  simp[hj]
 .rintro e w'⟨rfl,b⟩
  exact⟨rfl,(below_alloc1 w _).trans (b.mono Ä)⟩
theorem qw(x y:Int)(w:Wd)(t:TypeId) :
  Calls prog 313 #[Z (Y ⟨w.heap.size,0,M⟩) 2 2] (w.alloc (L #[I O x,I O y] t)) λe w'=>e=υ (J #[I ψ (cZ [x,y]).a,I ψ (cZ [x,y]).b])/\ω w w':=DX [x,y] 2 w t Ä Ä
theorem KZ(x y z u:Int)(w:Wd)(t:TypeId) :
  Calls prog 313 #[Z (Y ⟨w.heap.size,0,M⟩) 4 4] (w.alloc (L #[I O x,I O y,I O z,I O u] t)) λe w'=>e=υ (J #[I ψ (cZ [x,y,z,u]).a,I ψ (cZ [x,y,z,u]).b])/\ω w w':=DX [x,y,z,u] 4 w t Ä Ä
theorem Mb(dv:Value)(a b:Int)(w:Wd)(h1:-32768<=a)(h2:a<=b)(h3:b<=32767) :
  Calls prog 301 #[J #[dv],J #[I ψ a,I ψ b]] w λe w'=>e=υ (J #[I ψ (dE (-b) (-a)).a,I ψ (dE (-b) (-a)).b])/\ω w w':=by
 rw[<-sV (show -b<=-a by omega)];have HH:Hid (∀W:Wd,_):=λW=>qw (-b) (-a) W 3
 generalize cZ [-b,-a]=hv at*;go_enter func301,ntmps301;go_wp2_with fail;refine(oK a b _ h1 À À h3).mono ?_;rintro e w1⟨rfl,b1⟩;obtain⟨_,_,hz,bw⟩:=bQ b1;have HZ:=hid hz;have BW:=hid bw;clear b1 hz bw;go_wp2_with fail;refine(HH.out w1).mono ?_;rintro e w2⟨rfl,b2⟩;have ff:w2.heap[w.heap.size+1+1]?=_:=(b2.block _ (ah HZ.out)).trans HZ.out;obtain⟨m0,m1,jo,jH,mq⟩:=aI ff;have MQ:=hid (mq (I ψ hv.a) (I ψ hv.b));have B2:Hid (ω w w2):=BW.trans (b2.mono BW.size);clear mq b2 ff;go_wp2_with fail;exact Ç (v:=J #[I ψ hv.a,I ψ hv.b]) (by simp[results,results301,go_sem,MQ.1,MQ.2]) rfl ⟨rfl,(B2.setCell (p:=⟨w.heap.size+1+1,0,M⟩) (by show w.heap.size<=w.heap.size+1+1;omega) _).setCell (p:=⟨w.heap.size+1+1,1,M⟩) (by show w.heap.size<=w.heap.size+1+1;omega) _⟩
theorem CR(a b c d:Int)(w:Wd)(h1:-32768<=a)(h2:a<=b)(h3:b<=32767)(h4:-32768<=c)(h5:c<=d)(h6:d<=32767) :
  Calls prog 316 #[J #[I ψ a,I ψ b],J #[I ψ c,I ψ d]] w λe w'=>e=υ (iW (lO ⟨a,b⟩ ⟨c,d⟩))/\ω w w':=by
 go_enter func316,ntmps316;go_wp2_with fail;refine(oK a b _ h1 À À h3).mono ?_;rintro e w1⟨rfl,b1⟩;obtain⟨hx,hy,hz,bw⟩:=bQ b1;obtain⟨y0,y1,wE,wH,yq⟩:=aI hy;have HZ:=hid hz;have BW:=hid bw;clear b1 hz bw hy hx wE wH yq;go_wp2_with fail;refine(oK c d _ h4 À À h6).mono ?_;rintro e w2⟨rfl,b2⟩;have ff:w2.heap[w.heap.size+1+1]?=_:=(b2.block _ (ah HZ.out)).trans HZ.out;have mM:=hid ff;have B2:Hid (ω w w2):=BW.trans (b2.mono BW.size);obtain⟨m0,m1,jo,jH,mq⟩:=aI ff;have MQ0:=hid (mq (I ψ 0) (I ψ 0));clear b2 y0 y1 mq ff;by_cases Wq:max (-c) d-1<0
 .have δ:Hid (lO ⟨a,b⟩ ⟨c,d⟩=M):=by unfold Hid lO;rw[Á Wq]
  go_wp2_with fail;exact Ç (v:=φ #[J #[I ψ 0,I ψ 0],U false]) (by simp[results,results316,go_sem,MQ0.1,MQ0.2]) rfl ⟨iX δ.out,(B2.setCell (p:=⟨w.heap.size+1+1,0,M⟩) (by show w.heap.size<=w.heap.size+1+1;omega) _).setCell (p:=⟨w.heap.size+1+1,1,M⟩) (by show w.heap.size<=w.heap.size+1+1;omega) _⟩
 .have δ:Hid (lO ⟨a,b⟩ ⟨c,d⟩=Y (cZ [(min (max a (-(max (-c) d-1))) 0),(max (min b (max (-c) d-1)) 0)])):=by
   unfold Hid lO;rw[Â Wq,sV À]
  have hh:=qw (min (max a (-(max (-c) d-1))) 0) (max (min b (max (-c) d-1)) 0) w2 3;generalize hvq:cZ [(min (max a (-(max (-c) d-1))) 0),(max (min b (max (-c) d-1)) 0)]=hv at*;have EE:=hid δ;have HH:=hid hh;clear hh hvq δ MQ0;go_wp2_with fail;refine HH.mono ?_;rintro e w3⟨rfl,b3⟩;have nJ:w3.heap[w.heap.size+1+1]?=_:=(b3.block _ (ah mM.out)).trans mM.out;obtain⟨m0,m1,jo,jH,mq⟩:=aI nJ;have MQ:=hid (mq (I ψ hv.a) (I ψ hv.b));have B3:Hid (ω w w3):=B2.trans (b3.mono B2.size);clear mq b3 nJ;go_wp2_with fail;exact Ç (v:=φ #[J #[I ψ hv.a,I ψ hv.b],U true]) (by simp[results,results316,go_sem,MQ.1,MQ.2]) rfl ⟨iS EE.out,(B3.setCell (p:=⟨w.heap.size+1+1,0,M⟩) (by show w.heap.size<=w.heap.size+1+1;omega) _).setCell (p:=⟨w.heap.size+1+1,1,M⟩) (by show w.heap.size<=w.heap.size+1+1;omega) _⟩
theorem Jx(o:Option Sp.Iv):∃p q ok,iW o=φ #[J #[I ψ p,I ψ q],U ok]:=by cases o<;>exact⟨_,_,_,rfl⟩
theorem iH(h1:-32768<=a)(h2:a<=32767)(h3:-32768<=c)(h4:c<=32767):-2147483648<=a*c/\a*c<=2147483648:=by
 have h:(a*c).natAbs<=32768*32768:=by rw[Int.natAbs_mul];exact Nat.mul_le_mul À À
 omega
theorem SQ(dv:Value)(k:Nat)(hk:k<5)(a b c d:Int)(w:Wd)(h1:-32768<=a)(h2:a<=b)(h3:b<=32767)(h4:-32768<=c)(h5:c<=d)(h6:d<=32767) :
  Calls prog 306 #[J #[dv],I O (k:Nat),J #[I ψ a,I ψ b],J #[I ψ c,I ψ d]] w λe w'=>e=υ (iW (nP k ⟨a,b⟩ ⟨c,d⟩))/\ω w w':=by
 obtain⟨o,ho⟩:∃o,Hid (o=nP k ⟨a,b⟩ ⟨c,d⟩):=⟨_,rfl⟩;rw[<-ho.out];obtain⟨p,q,ok,hp⟩:=Jx o;obtain⟨p1,p2⟩:=iH h1 (by omega:a<=32767) h4 (by omega:c<=32767);obtain⟨p3,p4⟩:=iH h1 (by omega:a<=32767) (by omega:-32768<=d) h6;obtain⟨p5,p6⟩:=iH (by omega:-32768<=b) h3 h4 (by omega:c<=32767);obtain⟨p7,p8⟩:=iH (by omega:-32768<=b) h3 (by omega:-32768<=d) h6
 rcases(show k=0∨k=1∨k=2∨k=3∨k=4 from À) with rfl|rfl|rfl|rfl|rfl
 all_goals
  have HO:=hid hp;clear hp;rw[HO.out];go_enter func306,ntmps306;go_wp2_with fail;refine(oK a b _ h1 À À h3).mono ?_;rintro e w1⟨rfl,b1⟩;obtain⟨T7,hx,hy,hz,bw⟩:=cN b1;obtain⟨y0,y1,wE,wH,yq⟩:=aI hy;have HX:Hid (_=_):=hx;have HY:=hid hy;have HZ:=hid hz;have BW:=hid bw;clear b1 hz bw hy hx T7 wE wH yq;go_wp2_with fail;refine(oK c d _ h4 À À h6).mono ?_;rintro e w2⟨rfl,b2⟩;have ff:w2.heap[w.heap.size+1+1+1]?=_:=(b2.block _ (ah HZ.out)).trans HZ.out;have py:w2.heap[w.heap.size+1]?=_:=(b2.block _ (ah HX.out)).trans HX.out;have xU:w2.heap[w.heap.size+1+1]?=_:=(b2.block _ (ah HY.out)).trans HY.out;have mM:=hid ff;obtain⟨x0,x1,xf0,xf1,xq⟩:=aI py;clear y0 y1;obtain⟨y0,y1,wE,wH,yq⟩:=aI xU;have B2:Hid (ω w w2):=BW.trans (b2.mono BW.size);clear b2 py xU ff xf0 xf1 wE wH xq yq HX HY HZ BW;go_wp2_with fail
 have E0:o=Y (cZ [a+c,b+d]):=ho.trans (by rw[sV À];rfl);refine(qw (a+c) (b+d) w2 3).mono ?_
 rotate_left 1
 have E0:o=Y (cZ [a-d,b-c]):=ho.trans (by rw[sV À];rfl);refine(qw (a-d) (b-c) w2 3).mono ?_
 rotate_left 1
 have E0:o=Y (cZ [a*c,a*d,b*c,b*d]):=ho.out;refine(KZ (a*c) (a*d) (b*c) (b*d) w2 3).mono ?_
 rotate_left 1
 have E0:iW o=iW _:=Ë iW ho.out;refine(LS a b c d w2 h1 h2 h3 h4 h5 h6).mono ?_
 rotate_left 1
 have E0:iW o=iW _:=Ë iW ho.out;refine(CR a b c d w2 h1 h2 h3 h4 h5 h6).mono ?_
 rotate_left 1
 all_goals
  rintro e w3⟨he,b3⟩;have nJ:w3.heap[w.heap.size+1+1+1]?=_:=(b3.block _ (ah mM.out)).trans mM.out;obtain⟨m0,m1,jo,jH,mq⟩:=aI nJ;have MQ:=hid (mq (I ψ p) (I ψ q));have B3:Hid (ω w w3):=B2.trans (b3.mono B2.size);have H2:=HO.out
  first
   | (rw[E0]at H2
      simp[iW]at H2;obtain⟨⟨rfl,rfl⟩,rfl⟩:=H2;subst he)
   | (rw[ho.out]at H2
      replace he:=he.trans (Ë Ending.returned H2);subst he)
  clear mq b3 nJ x0 x1 y0 y1 E0 HO ho mM B2;go_wp2_with fail;exact Ç (by simp[results,results306,go_sem,MQ.1,MQ.2]) rfl ⟨rfl,(B3.setCell (p:=⟨w.heap.size+1+1+1,0,M⟩) (by show w.heap.size<=w.heap.size+1+1+1;omega) _).setCell (p:=⟨w.heap.size+1+1+1,1,M⟩) (by show w.heap.size<=w.heap.size+1+1+1;omega) _⟩
def ni:Option Sp.Cg->Value
 |some x=>φ #[J #[I O (x.m:Nat),I O x.r],U true]
 |none=>φ #[J #[I O 0,I O 0],U false]
theorem ð{a:Nat}(h:r=Y ⟨a,b⟩):Ending.returned (φ #[J #[I O (a:Nat),I O b],U true])=υ (ni r):=by rw[h];rfl
theorem qQ(h:r=M):Ending.returned (φ #[J #[I O 0,I O 0],U false])=υ (ni r):=by rw[h];rfl
theorem ib(m:Nat)(r:Int)(w:Wd) :
  Calls prog 272 #[J #[I O (m:Nat),I O r]] w λe w'=>e=υ (U (decide (m=0)))/\ω w w':=by
 go_enter func272,ntmps272;go_wp2_with fail;go_returns;exact⟨bt (by rw[Bool.eq_iff_iff];simp;try omega),by go_grown⟩
theorem qO(n:Int)(w:Wd)(h1:-32768<=n)(h2:n<=32767) :
  Calls prog 279 #[J #[],I ψ n] w λe w'=>e=υ (J #[I O 0,I O n])/\ω w w':=by
 go_enter func279,ntmps279;go_wp2_with fail;go_returns;exact⟨rfl,by go_grown⟩
theorem FA(w:Wd) :
  Calls prog 281 #[J #[]] w λe w'=>e=υ (J #[I O 1,I O 0])/\ω w w':=by
 go_enter func281,ntmps281;go_wp2_with fail;go_returns;exact⟨rfl,by go_grown⟩
theorem LV(m:Nat)(r:Int)(w:Wd) :
  Calls prog 274 #[J #[],J #[I O (m:Nat),I O r]] w λe w'=>e=υ (U (decide (r=0)))/\ω w w':=by
 go_enter func274,ntmps274;go_wp2_with fail;go_returns;exact⟨bt (by rw[Bool.eq_iff_iff];simp),by go_grown⟩
theorem Oe(a b c d:Int)(w:Wd) :
  Calls prog 282 #[J #[],J #[I O a,I O b],J #[I O c,I O d]] w λe w'=>e=υ (J #[I O c,I O d])/\ω w w':=by
 go_enter func282,ntmps282;go_wp2_with fail;go_returns;exact⟨rfl,by go_grown⟩
theorem KD(a b c d:Int)(w:Wd) :
  Calls prog 277 #[J #[],J #[I O a,I O b],J #[I O c,I O d]] w λe w'=>e=υ (J #[I O a,I O b])/\ω w w':=by
 go_enter func277,ntmps277;go_wp2_with fail;go_returns;exact⟨rfl,by go_grown⟩
theorem R6(a b:Int)(w:Wd) :
  Calls prog 280 #[J #[],J #[I O a,I O b]] w λe w'=>e=υ (J #[I O a,I O b])/\ω w w':=by
 go_enter func280,ntmps280;go_wp2_with fail;go_returns;exact⟨rfl,by go_grown⟩
theorem J8(n m:Int)(w:Wd)(h0:0<m)(h1:m<=17179869184) :
  Calls prog 292 #[I O n,I O m] w λe w'=>e=υ (I O (n%m))/\w'=w:=by
 have hm:¬m=0:=À;have t1:-m<n.tmod m:=Int.lt_tmod_of_pos n h0;have t2:n.tmod m<m:=Int.tmod_lt_of_pos n h0;have δ:Hid ((n.tmod m+m).tmod m=n%m):=Sp.left_eq n h0;have e3:0<=n%m:=Int.emod_nonneg _ À;have e4:n%m<m:=Int.emod_lt_of_pos _ h0;rw[<-δ.out]at e3 e4;have w1:IntKind.i64.wrap (n.tmod m)=n.tmod m:=by rw[IntWalk.i64_in]<;>omega
 have w2:IntKind.i64.wrap (n.tmod m+m)=n.tmod m+m:=by rw[IntWalk.i64_in]<;>omega
 have w3:IntKind.i64.wrap ((n.tmod m+m).tmod m)=(n.tmod m+m).tmod m:=by rw[IntWalk.i64_in]<;>omega
 go_enter func292,ntmps292;go_wp2_with fail;go_ret;have E2:(n.tmod m+m)%m=n%m:=by rw[<-δ.out];exact(Int.tmod_eq_emod_of_nonneg (a:=n.tmod m+m) À).symm
 exact⟨by show Ending.returned (I O ((n.tmod m+m)%m))=_;rw[E2],rfl⟩
theorem qe(k:Nat)(n:Int)(w:Wd)(hk:(k:Int)<=17179869184) :
  Calls prog 285 #[I O (k:Nat),I O n] w λe w'=>e=υ (J #[I O ((cF k n).m:Nat),I O (cF k n).r])/\ω w w':=by
 unfold cF;by_cases h0:k=0
 .rw[Á h0]
  subst h0;go_enter func285,ntmps285;go_wp2_with fail;go_returns;exact⟨rfl,by go_grown⟩
 .rw[Â h0]
  simp only[kI];have h0':¬(k:Int)=0:=À;obtain⟨t,ht⟩:∃t,Hid (t=n%(k:Int)):=⟨_,rfl⟩;rw[<-ht.out];have HC:Hid (∀W,Calls _ _ _ W _):=λW=>J8 n (k:Int) W À hk
  rw[<-ht.out]at HC;go_enter func285,ntmps285;go_wp2_with fail;refine(HC.out _).mono ?_;rintro e w1⟨rfl,rfl⟩;go_wp2_with fail;go_returns;exact⟨rfl,by go_grown⟩
theorem Lm(zs:List Int)(j:Nat)(z:Int)(h:zs[j]?=Y z):rN (zs.take (j+1))=Nat.gcd (rN (zs.take j)) z.natAbs:=by obtain⟨h1,h2⟩:=Í.1 h;rw[ä h1,h2,Mi]
theorem sU(zs:List Int)(hz:∀z∈zs,z.natAbs<=17179869184):rN zs<=17179869184:=by
 suffices ∀(zs:List Int) (g:Nat),g<=17179869184->(∀z∈zs,z.natAbs<=17179869184)->zs.foldl (λg z=>Nat.gcd g z.natAbs) g<=17179869184 from this zs 0 À hz
 intro zs
 induction zs with
 |nil=>intro g hg _;exact hg
 |cons z zs ih=>
  intro g hg h;refine ih _ ?_ (λz hz=>h z (by simp[hz]))
  rcases Nat.eq_zero_or_pos g with rfl|hp
  .show Nat.gcd 0 z.natAbs<=_
   rw[Nat.gcd_zero_left];exact h z Ä
  .exact Nat.le_trans (Nat.gcd_le_left _ hp) hg
theorem NV(g cap:Nat)(zs:List Int)(w:Wd)(hg:g<w.heap.size)(hn:zs.length<=100)(hz:∀z∈zs,z.natAbs<=17179869184)(hc:∀(j:Nat) (z:Int),zs[j]?=Y z->w.cell? ⟨g,j,M⟩=Y (I O z)) :
  Calls prog 286 #[Z (Y ⟨g,0,M⟩) zs.length cap] w λe w'=>e=υ (I O (rN zs:Nat))/\ω w w':=by
 have hlen:(zs.length:Int)<=100:=À;have HC:Hid (∀(j:Nat) (z:Int),zs[j]?=Y z->w.cell? ⟨g,j,M⟩=Y (I O z)):=hc;have HZ:=hid hz;clear hc hz;go_enter func286,ntmps286;go_wp2_with fail
 go_loopw [3,8] (λv3 v8 wr=>∃(j:Nat) (x:Int),j<=zs.length/\v8=I O j/\v3=I O x/\Hid (x.natAbs=rN (zs.take j))/\Hid (ω w wr)) (λ_ v8 _=>zs.length-(intOf v8).toNat)
 case atStart=>exact⟨0,0,Ì,rfl,rfl,rfl,Å⟩
 case round=>
  obtain⟨j,x,hj,rfl,rfl,hx,hb⟩:=hrel;by_cases dZ:j<zs.length
  .have wJ:((j:Nat):Int)<((zs.length:Nat):Int):=À
   obtain⟨z,hzj⟩:∃z,zs[j]?=Y z:=⟨_,Î dZ⟩;have Nh:wr.cell? ⟨g,j,M⟩=Y (I O z):=by rw[hb.cell (p:=⟨g,j,M⟩) hg];exact HC.out j z hzj
   have hzb:=HZ.out z (Ù hzj);have X5:x.natAbs<=17179869184:=by rw[hx.out];exact sU _ (λz hz=>HZ.out z (List.mem_of_mem_take hz))
   have HT:=Lm zs j z hzj;rw[<-hx.out]at HT;have HG:=hid HT;clear HT hzj hx;go_wp2_with fail
   go_loopw [3,5] (λv3 v5 ws=>∃a b:Int,v3=I O a/\v5=I O b/\a.natAbs<=17179869184/\b.natAbs<=17179869184/\Hid (rN (zs.take (j+1))=Nat.gcd a.natAbs b.natAbs)/\Hid (ω w ws)) (λ_ v5 _=>(intOf v5).natAbs)
   case atStart=>exact⟨x,z,rfl,rfl,X5,hzb,HG,hb⟩
   case round=>
    obtain⟨a,b,rfl,rfl,ha,hbb,QG,hq⟩:=hrel;by_cases Tj:b=0
    .subst Tj
     have IY:Hid (a.natAbs=rN (zs.take (j+1))):=by unfold Hid;rw[QG.out];simp
     go_wp2_with fail;exact⟨⟨j+1,a,À,by go_num,rfl,IY,hq⟩,by simp[intOf];omega⟩
    .have hl:=yY a Tj
     have IY:Hid (rN (zs.take (j+1))=Nat.gcd b.natAbs (a.tmod b).natAbs):=by unfold Hid;rw[QG.out,BE]
     have Nc:IntKind.i64.wrap (a.tmod b)=a.tmod b:=by rw[IntWalk.i64_in]<;>omega
     go_wp2_with fail
     go_region_with (fail)
     all_goals
      go_wp2_with fail;exact⟨⟨_,_,_,_,_,_,_,_,⟨b,a.tmod b,rfl,rfl,hbb,À,IY,hq.drew⟩,rfl⟩,hl⟩
  .obtain rfl:j=zs.length:=À
   have hxe:x.natAbs=rN zs:=by have:=hx.out;rwa[List.take_length]at this
   have HX:Hid (x.natAbs=rN zs):=hxe;have X5:x.natAbs<=17179869184:=by rw[hxe];exact sU _ HZ.out
   clear hxe hx;go_wp2_with fail
   all_goals
    go_ret;rw[<-HX.out]
    first
     |exact⟨Ë (λz:Int=>Ending.returned (I O z)) (show -x=(x.natAbs:Int) by omega),hb.out⟩
     |exact⟨Ë (λz:Int=>Ending.returned (I O z)) (show x=(x.natAbs:Int) by omega),hb.out⟩
     |exact⟨Ë (λz:Int=>Ending.returned (I O z)) (show max x (-x)=(x.natAbs:Int) by omega),hb.out⟩
theorem yL(a b:Int)(W:Wd)(ha:a.natAbs<=17179869184)(hb:b.natAbs<=17179869184) :
  Calls prog 286 #[Z (Y ⟨W.heap.size,0,M⟩) 2 2] (W.alloc (L #[I O a,I O b] 2)) λe w'=>e=υ (I O (Nat.gcd a.natAbs b.natAbs:Nat))/\ω W w':=by
 have hn:=heap_alloc_new W (L #[I O a,I O b] 2);have h:=NV W.heap.size 2 [a,b] (W.alloc (L #[I O a,I O b] 2)) Ä Ä (by
  intro z hz;simp at hz
  rcases hz with rfl|rfl
  .exact ha
  .exact hb) (λj z hz=>by
  match j,hz with
  |0,hz=>cases hz;exact cell_of hn 0 rfl
  |1,hz=>cases hz;exact cell_of hn 1 rfl)
 rw[Oi]at h;refine h.mono ?_;rintro e w'⟨rfl,b⟩;exact⟨rfl,(fN b).1⟩
theorem zd(a b c:Int)(W:Wd)(ha:a.natAbs<=17179869184)(hb:b.natAbs<=17179869184)(hcc:c.natAbs<=17179869184) :
  Calls prog 286 #[Z (Y ⟨W.heap.size,0,M⟩) 3 3] (W.alloc (L #[I O a,I O b,I O c] 2)) λe w'=>e=υ (I O (Nat.gcd (Nat.gcd a.natAbs b.natAbs) c.natAbs:Nat))/\ω W w':=by
 have hn:=heap_alloc_new W (L #[I O a,I O b,I O c] 2);have h:=NV W.heap.size 3 [a,b,c] (W.alloc (L #[I O a,I O b,I O c] 2)) Ä Ä (by
  intro z hz;simp at hz
  rcases hz with rfl|rfl|rfl
  .exact ha
  .exact hb
  .exact hcc) (λj z hz=>by
  match j,hz with
  |0,hz=>cases hz;exact cell_of hn 0 rfl
  |1,hz=>cases hz;exact cell_of hn 1 rfl
  |2,hz=>cases hz;exact cell_of hn 2 rfl)
 rw[nU]at h;refine h.mono ?_;rintro e w'⟨rfl,b⟩;exact⟨rfl,(fN b).1⟩
structure iJ(w:Wd)(kx ky kr:Nat)(a b c d:Int)(W:Wd):Prop where
 x:W.heap[kx]?=Y (L #[I O a,I O b] 85)
 y:W.heap[ky]?=Y (L #[I O c,I O d] 85)
 r:∃u v,W.heap[kr]?=Y (L #[u,v] 85)
 b:ω w W
theorem iJ.call(h:iJ w kx ky kr a b c d W)(k:ω W W'):iJ w kx ky kr a b c d W':=
 ⟨(k.block _ (ah h.x)).trans h.x,(k.block _ (ah h.y)).trans h.y,by obtain⟨u,v,h⟩:=h.r;exact⟨u,v,(k.block _ (ah h)).trans h⟩,h.b.trans (k.mono h.b.size)⟩
theorem iJ.cells(h:iJ w kx ky kr a b c d W):W.cell? ⟨kx,0,M⟩=Y (I O a)/\W.cell? ⟨kx,1,M⟩=Y (I O b)/\W.cell? ⟨ky,0,M⟩=Y (I O c)/\W.cell? ⟨ky,1,M⟩=Y (I O d):=
 ⟨cell_of h.x 0 rfl,cell_of h.x 1 rfl,cell_of h.y 0 rfl,cell_of h.y 1 rfl⟩
theorem iJ.put(h:iJ w kx ky kr a b c d W)(h1:kx≠kr)(h2:ky≠kr)(h3:w.heap.size<=kr)(p q:Value):iJ w kx ky kr a b c d ((W.setCell ⟨kr,0,M⟩ p).setCell ⟨kr,1,M⟩ q):=by obtain⟨u,v,hr⟩:=h.r;have e1:=ai (ai hr 0 p) 1 q;exact⟨by rw[Æ _ _ _ _ h1,Æ _ _ _ _ h1];exact h.x,by rw[Æ _ _ _ _ h2,Æ _ _ _ _ h2];exact h.y,⟨_,_,e1⟩,(h.b.setCell (p:=⟨kr,0,M⟩) h3 _).setCell (p:=⟨kr,1,M⟩) h3 _⟩
theorem iJ.there(h:iJ w kx ky kr a b c d W)(p q:Value):((W.setCell ⟨kr,0,M⟩ p).setCell ⟨kr,1,M⟩ q).cell? ⟨kr,0,M⟩=Y p/\((W.setCell ⟨kr,0,M⟩ p).setCell ⟨kr,1,M⟩ q).cell? ⟨kr,1,M⟩=Y q:=by obtain⟨u,v,hr⟩:=h.r;exact(aI hr).2.2.2.2 p q
theorem rR(m:Nat)(n:Int)(w:Wd)(hm:m<=17179869184) :
  Calls prog 287 #[I O (m:Nat),I O n] w λe w'=>e=υ (J #[I O ((dR m n).m:Nat),I O (dR m n).r])/\ω w w':=by
 obtain⟨gg,vj⟩:∃gg,Hid (gg=Nat.gcd m 65536):=⟨_,rfl⟩;obtain⟨t,ht⟩:∃t,Hid (t=dR m n):=⟨_,rfl⟩;have HG:Hid (∀(W:Wd) (k:Nat),k=W.heap.size->Calls prog 286 #[Z (Y ⟨k,0,M⟩) 2 2] (W.alloc (L #[I O (m:Nat),I O 65536] 2)) λe w'=>e=υ (I O (gg:Nat))/\ω W w'):=λW k hk=>by rw[vj.out,hk];exact yL (m:Nat) 65536 W À À
 have HC:Hid (∀W:Wd,Calls prog 285 #[I O (gg:Nat),I O n] W λe w'=>e=υ (J #[I O (t.m:Nat),I O t.r])/\ω W w'):=λW=>by rw[ht.out,<-Lf m n,vj.out];exact qe (Nat.gcd m 65536) n W (by have:=Nat.gcd_le_right (n:=65536) m À;omega)
 rw[<-ht.out];clear vj ht;go_enter func287,ntmps287;go_wp2_with fail;refine(HG.out _ _ (by first|rfl|simp)).mono ?_;rintro e w1⟨rfl,b1⟩;obtain⟨bw,hz⟩:=fN b1;have HZ:=hid hz;have BW:=hid bw;clear b1 bw hz HG;go_wp2_with fail;refine(HC.out _).mono ?_;rintro e w2⟨rfl,b2⟩;have ff:=(b2.block _ (ah HZ.out)).trans HZ.out;have B2:Hid (ω w w2):=BW.trans (b2.mono BW.size);obtain⟨m0,m1,jo,jH,mq⟩:=aI ff;have MQ:=hid (mq (I O (t.m:Nat)) (I O t.r));clear mq ff b2 HC HZ BW;go_wp2_with fail;exact Ç (v:=J #[I O (t.m:Nat),I O t.r]) (by simp[results,results287,go_sem,MQ.1,MQ.2]) rfl ⟨rfl,(B2.setCell (p:=⟨w.heap.size,0,M⟩) È _).setCell (p:=⟨w.heap.size,1,M⟩) È _⟩
theorem CE(x y:Sp.Cg)(w:Wd)(tW:x.m<=65536)(wG:y.m<=65536)(xU:y.r.natAbs<=65536) :
  Calls prog 289 #[J #[I O (x.m:Nat),I O x.r],J #[I O (y.m:Nat),I O y.r]] w λe w'=>e=υ (J #[I O ((cF (Nat.gcd (Nat.gcd x.m y.m) y.r.natAbs) x.r).m:Nat),I O (cF (Nat.gcd (Nat.gcd x.m y.m) y.r.natAbs) x.r).r])/\ω w w':=by
 have xQ:=sU [(x.m:Int),(y.m:Int),y.r] (by intro z hz;simp at hz;omega);rw[nU]at xQ;simp only[Int.natAbs_natCast]at xQ;obtain⟨gg,vj⟩:∃gg,Hid (gg=Nat.gcd (Nat.gcd x.m y.m) y.r.natAbs):=⟨_,rfl⟩;obtain⟨t,ht⟩:∃t,Hid (t=cF gg x.r):=⟨_,rfl⟩;have HG:Hid (∀(W:Wd) (k:Nat),k=W.heap.size->Calls prog 286 #[Z (Y ⟨k,0,M⟩) 3 3] (W.alloc (L #[I O (x.m:Nat),I O (y.m:Nat),I O y.r] 2)) λe w'=>e=υ (I O (gg:Nat))/\ω W w'):=λW k hk=>by rw[vj.out,hk];exact zd (x.m:Nat) (y.m:Nat) y.r W À À À
 have HC:Hid (∀W:Wd,Calls prog 285 #[I O (gg:Nat),I O x.r] W λe w'=>e=υ (J #[I O (t.m:Nat),I O t.r])/\ω W w'):=λW=>by rw[ht.out];exact qe gg x.r W (by rw[vj.out];omega)
 rw[<-vj.out,<-ht.out];clear vj ht;generalize x.r=b at*;generalize y.r=d at*;generalize ((x.m:Nat):Int)=a at*;generalize ((y.m:Nat):Int)=c at*;clear xQ tW wG xU;have h0:iJ w (w.heap.size) (w.heap.size+1) (w.heap.size+1+1) a b c d (((w.alloc (L #[I O a,I O b] 85)).alloc (L #[I O c,I O d] 85)).alloc (L #[I O 0,I O 0] 85)):=by obtain⟨h1,h2,h3,hb⟩:=bQ (w:=w) (o1:=L #[I O a,I O b] 85) (o2:=L #[I O c,I O d] 85) (o3:=L #[I O 0,I O 0] 85) Å;exact⟨h1,h2,⟨_,_,h3⟩,hb⟩
 go_enter func289,ntmps289;go_wp2_with fail;generalize (((w.alloc (L #[I O a,I O b] 85)).alloc (L #[I O c,I O d] 85)).alloc (L #[I O 0,I O 0] 85))=W at*;obtain⟨kx,hkx⟩:∃kx,kx=(w.heap.size):=⟨_,rfl⟩;obtain⟨ky,hky⟩:∃ky,ky=(w.heap.size+1):=⟨_,rfl⟩;obtain⟨kr,hkr⟩:∃kr,kr=(w.heap.size+1+1):=⟨_,rfl⟩;have sG:kx≠kr:=À;have kM:ky≠kr:=À;have qZ:w.heap.size<=kr:=À;rw[<-hkr,<-hky,<-hkx]at h0;rw[<-hkr,<-hky,<-hkx];clear hkx hky hkr;refine wp_region_held_drew (S:=λw':Wd=>iJ w kx ky kr a b c d w') Ã (h0.call (Å).drew) (λaa=>?_);generalize W.drew=V at*;refine tq 0 (ρ (Y ⟨kx,0,M⟩)) aa ?_;refine tk 1 (I O a) rfl (λw' h=>by have q:=h.cells.1;go_simp) aa ?_;refine tq 2 (ρ (Y ⟨ky,0,M⟩)) aa ?_;refine tk 3 (I O c) rfl (λw' h=>by have q:=h.cells.2.2.1;go_simp) aa ?_;refine tq 4 (ρ (Y ⟨ky,1,M⟩)) aa ?_;refine tk 5 (I O d) rfl (λw' h=>by have q:=h.cells.2.2.2;go_simp) aa ?_;refine tq 8 (ρ (Y ⟨kx,1,M⟩)) aa ?_;refine tk 9 (I O b) rfl (λw' h=>by have q:=h.cells.2.1;go_simp) aa ?_;refine bP 6 λK hK=>?_
 simp only[bG,gd];go_simp;refine hK.out _ _ (aa.call (below_alloc1 _ _)) (λ_=>?_);clear hK K;refine bP 7 λK hK=>?_
 simp only[bG];go_simp;refine(HG.out _ _ (by first|rfl|simp)).mono ?_;rintro e w1⟨rfl,b1⟩;replace aa:=aa.call b1;clear b1;go_wp2_with fail;refine hK.out _ _ aa (λ_=>?_);clear hK K;refine bP 10 λK hK=>?_
 simp only[bG];go_simp;refine(HC.out _).mono ?_;rintro e w2⟨rfl,b1⟩;replace aa:=aa.call b1;clear b1;go_wp2_with fail;refine hK.out _ _ aa (λ_=>?_);clear hK K;have MQ:=aa.there (I O (t.m:Nat)) (I O t.r);have BQ:=(aa.put sG kM qZ (I O (t.m:Nat)) (I O t.r)).b;obtain⟨u0,v0,hr⟩:=aa.r;obtain⟨m0,m1,jo,jH,_⟩:=aI hr;clear hr;refine bP 11 λK hK=>?_
 simp only[bG];go_simp;refine hK.out _ _ (aa.put sG kM qZ _ _) (λaa=>?_);clear hK K;refine wpAnyH_done Ã ?_ _;go_wp2_with fail;exact Ç (v:=J #[I O (t.m:Nat),I O t.r]) (by simp[results,results289,go_sem,MQ.1,MQ.2]) rfl ⟨rfl,BQ⟩
theorem SO(x y:Sp.Cg)(w:Wd)(tW:x.m<=65536)(py:x.r.natAbs<=65536)(wG:y.m<=65536)(xU:y.r.natAbs<=65536)(hw:cV x) :
  Calls prog 275 #[J #[],J #[I O (x.m:Nat),I O x.r],J #[I O (y.m:Nat),I O y.r]] w λe w'=>e=υ (J #[I O ((cD x y).m:Nat),I O (cD x y).r])/\ω w w':=by
 have xQ:=sU [(x.m:Int),(y.m:Int),x.r-y.r] (by intro z hz;simp at hz;omega);rw[nU]at xQ;simp only[Int.natAbs_natCast]at xQ;obtain⟨gg,vj⟩:∃gg,Hid (gg=Nat.gcd (Nat.gcd x.m y.m) (x.r-y.r).natAbs):=⟨_,rfl⟩;obtain⟨t,ht⟩:∃t,Hid (t=cF gg x.r):=⟨_,rfl⟩;have HG:Hid (∀(W:Wd) (k:Nat),k=W.heap.size->Calls prog 286 #[Z (Y ⟨k,0,M⟩) 3 3] (W.alloc (L #[I O (x.m:Nat),I O (y.m:Nat),I O (x.r-y.r)] 2)) λe w'=>e=υ (I O (gg:Nat))/\ω W w'):=λW k hk=>by rw[vj.out,hk];exact zd (x.m:Nat) (y.m:Nat) (x.r-y.r) W À À À
 have HC:Hid (∀W:Wd,Calls prog 285 #[I O (gg:Nat),I O x.r] W λe w'=>e=υ (J #[I O (t.m:Nat),I O t.r])/\ω W w'):=λW=>by rw[ht.out];exact qe gg x.r W (by rw[vj.out];omega)
 rw[IM x y hw,<-vj.out,<-ht.out];clear vj ht hw;generalize x.r=b at*;generalize y.r=d at*;generalize ((x.m:Nat):Int)=a at*;generalize ((y.m:Nat):Int)=c at*;clear xQ tW wG;have h0:iJ w (w.heap.size+1) (w.heap.size+1+1) (w.heap.size+1+1+1) a b c d ((((w.alloc (L #[] 87)).alloc (L #[I O a,I O b] 85)).alloc (L #[I O c,I O d] 85)).alloc (L #[I O 0,I O 0] 85)):=by obtain⟨h1,h2,h3,h4,hb⟩:=cN (w:=w) (o1:=L #[] 87) (o2:=L #[I O a,I O b] 85) (o3:=L #[I O c,I O d] 85) (o4:=L #[I O 0,I O 0] 85) Å;exact⟨h2,h3,⟨_,_,h4⟩,hb⟩
 have I5:IntKind.i64.wrap (b-d)=b-d:=by rw[IntWalk.i64_in]<;>omega
 go_enter func275,ntmps275;go_wp2_with fail;generalize ((((w.alloc (L #[] 87)).alloc (L #[I O a,I O b] 85)).alloc (L #[I O c,I O d] 85)).alloc (L #[I O 0,I O 0] 85))=W at*;obtain⟨kx,hkx⟩:∃kx,kx=(w.heap.size+1):=⟨_,rfl⟩;obtain⟨ky,hky⟩:∃ky,ky=(w.heap.size+1+1):=⟨_,rfl⟩;obtain⟨kr,hkr⟩:∃kr,kr=(w.heap.size+1+1+1):=⟨_,rfl⟩;have sG:kx≠kr:=À;have kM:ky≠kr:=À;have qZ:w.heap.size<=kr:=À;rw[<-hkr,<-hky,<-hkx]at h0;rw[<-hkr,<-hky,<-hkx];clear hkx hky hkr;refine wp_region_held_drew (S:=λw':Wd=>iJ w kx ky kr a b c d w') Ã (h0.call (Å).drew) (λaa=>?_);generalize W.drew=V at*;refine tq 0 (ρ (Y ⟨kx,0,M⟩)) aa ?_;refine tk 1 (I O a) rfl (λw' h=>by have q:=h.cells.1;go_simp) aa ?_;refine tq 2 (ρ (Y ⟨ky,0,M⟩)) aa ?_;refine tk 3 (I O c) rfl (λw' h=>by have q:=h.cells.2.2.1;go_simp) aa ?_;refine tq 4 (ρ (Y ⟨kx,1,M⟩)) aa ?_;refine tk 5 (I O b) rfl (λw' h=>by have q:=h.cells.2.1;go_simp) aa ?_;refine tq 6 (ρ (Y ⟨ky,1,M⟩)) aa ?_;refine tk 7 (I O d) rfl (λw' h=>by have q:=h.cells.2.2.2;go_simp) aa ?_;refine tq 11 (ρ (Y ⟨kx,1,M⟩)) aa ?_;refine tk 12 (I O b) rfl (λw' h=>by have q:=h.cells.2.1;go_simp) aa ?_;refine tq 8 (I O (b-d)) aa ?_;refine bP 9 λK hK=>?_
 simp only[bG,gd];go_simp;refine hK.out _ _ (aa.call (below_alloc1 _ _)) (λ_=>?_);clear hK K;refine bP 10 λK hK=>?_
 simp only[bG];go_simp;refine(HG.out _ _ (by first|rfl|simp)).mono ?_;rintro e w1⟨rfl,b1⟩;replace aa:=aa.call b1;clear b1;go_wp2_with fail;refine hK.out _ _ aa (λ_=>?_);clear hK K;refine bP 13 λK hK=>?_
 simp only[bG];go_simp;refine(HC.out _).mono ?_;rintro e w2⟨rfl,b1⟩;replace aa:=aa.call b1;clear b1;go_wp2_with fail;refine hK.out _ _ aa (λ_=>?_);clear hK K;have MQ:=aa.there (I O (t.m:Nat)) (I O t.r);have BQ:=(aa.put sG kM qZ (I O (t.m:Nat)) (I O t.r)).b;obtain⟨u0,v0,hr⟩:=aa.r;obtain⟨m0,m1,jo,jH,_⟩:=aI hr;clear hr;refine bP 14 λK hK=>?_
 simp only[bG];go_simp;refine hK.out _ _ (aa.put sG kM qZ _ _) (λaa=>?_);clear hK K;refine wpAnyH_done Ã ?_ _;go_wp2_with fail;exact Ç (v:=J #[I O (t.m:Nat),I O t.r]) (by simp[results,results275,go_sem,MQ.1,MQ.2]) rfl ⟨rfl,BQ⟩
theorem Vg(a b c d:Int)(w:Wd):(Op.equalIn 10000 85 (J #[I O a,I O b]) (J #[I O c,I O d])).run prog w=.ok (decide (a=c/\b=d)) w:=by
 by_cases h1:a=c
 .by_cases h2:b=d
  .simp[go_sem,h1,h2]
  .simp[go_sem,h1,h2]
 .simp[go_sem,h1]
theorem qR(h1:a.natAbs<=65536)(h2:c.natAbs<=65536):(a*c).natAbs<=4294967296:=by rw[Int.natAbs_mul];exact Nat.mul_le_mul h1 h2
theorem wrap_mul(h1:a.natAbs<=65536)(h2:c.natAbs<=65536):IntKind.i64.wrap (a*c)=a*c:=by have:=qR h1 h2;rw[IntWalk.i64_in]<;>omega
theorem Er(x y:Sp.Cg)(w:Wd)(tW:x.m<=65536)(py:x.r.natAbs<=65536)(wG:y.m<=65536)(xU:y.r.natAbs<=65536)(hx:¬ (x.m=0/\x.r=0))(hy:¬ (y.m=0/\y.r=0)) :
  Calls prog 288 #[J #[I O (x.m:Nat),I O x.r],J #[I O (y.m:Nat),I O y.r]] w λe w'=>e=υ (J #[I O ((dR (Nat.gcd (Nat.gcd (x.m*y.m) ((x.m:Int)*y.r).natAbs) ((y.m:Int)*x.r).natAbs) (x.r*y.r)).m:Nat),I O (dR (Nat.gcd (Nat.gcd (x.m*y.m) ((x.m:Int)*y.r).natAbs) ((y.m:Int)*x.r).natAbs) (x.r*y.r)).r])/\ω w w':=by
 have q1:((x.m:Nat):Int).natAbs<=65536:=À;have q2:((y.m:Nat):Int).natAbs<=65536:=À;have b1:=qR q1 q2;have b2:=qR q1 xU;have b3:=qR q2 py;have xQ:=sU [(x.m:Int)*y.m,(x.m:Int)*y.r,(y.m:Int)*x.r] (by intro z hz;simp at hz;rcases hz with rfl|rfl|rfl<;>omega);rw[nU]at xQ;obtain⟨gg,vj⟩:∃gg,Hid (gg=Nat.gcd (Nat.gcd ((x.m:Int)*y.m).natAbs ((x.m:Int)*y.r).natAbs) ((y.m:Int)*x.r).natAbs):=⟨_,rfl⟩;obtain⟨t,ht⟩:∃t,Hid (t=dR gg (x.r*y.r)):=⟨_,rfl⟩;rw[show x.m*y.m=((x.m:Int)*y.m).natAbs by rw[Int.natAbs_mul];rfl,<-vj.out,<-ht.out];have HG:Hid (∀(W:Wd) (k:Nat),k=W.heap.size->Calls prog 286 #[Z (Y ⟨k,0,M⟩) 3 3] (W.alloc (L #[I O ((x.m:Int)*y.m),I O ((x.m:Int)*y.r),I O ((y.m:Int)*x.r)] 2)) λe w'=>e=υ (I O (gg:Nat))/\ω W w'):=λW k hk=>by rw[vj.out,hk];exact zd ((x.m:Int)*y.m) ((x.m:Int)*y.r) ((y.m:Int)*x.r) W À À À
 have HC:Hid (∀W:Wd,Calls prog 287 #[I O (gg:Nat),I O (x.r*y.r)] W λe w'=>e=υ (J #[I O (t.m:Nat),I O t.r])/\ω W w'):=λW=>by rw[ht.out];exact rR gg (x.r*y.r) W (by rw[vj.out];omega)
 clear vj ht xQ b1 b2 b3;have e1:=wrap_mul q1 q2;have e2:=wrap_mul q1 xU;have e3:=wrap_mul q2 py;have e4:=wrap_mul py xU;have QZ:¬(((x.m:Nat):Int)=0/\x.r=0):=À;have XX:¬(((y.m:Nat):Int)=0/\y.r=0):=À;clear hx hy q1 q2;generalize x.r=b at*;generalize y.r=d at*;generalize ((x.m:Nat):Int)=a at*;generalize ((y.m:Nat):Int)=c at*;clear tW wG py xU;have eX:∀w,(Op.equalIn 10000 85 (J #[I O a,I O b]) (J #[I O 0,I O 0])).run prog w=.ok false w:=λw=>by rw[Vg,decide_eq_false QZ]
 have eY:∀w,(Op.equalIn 10000 85 (J #[I O c,I O d]) (J #[I O 0,I O 0])).run prog w=.ok false w:=λw=>by rw[Vg,decide_eq_false XX]
 clear QZ XX;have h0:iJ w (w.heap.size) (w.heap.size+1) (w.heap.size+1+1) a b c d ((((w.alloc (L #[I O a,I O b] 85)).alloc (L #[I O c,I O d] 85)).alloc (L #[I O 0,I O 0] 85)).alloc (L #[I O 0,I O 0] 85)):=by obtain⟨h1,h2,h3,h4,hb⟩:=cN (w:=w) (o1:=L #[I O a,I O b] 85) (o2:=L #[I O c,I O d] 85) (o3:=L #[I O 0,I O 0] 85) (o4:=L #[I O 0,I O 0] 85) Å;exact⟨h1,h2,⟨_,_,h3⟩,hb⟩
 go_enter func288,ntmps288;go_wp2_with fail;generalize ((((w.alloc (L #[I O a,I O b] 85)).alloc (L #[I O c,I O d] 85)).alloc (L #[I O 0,I O 0] 85)).alloc (L #[I O 0,I O 0] 85))=W at*;obtain⟨kx,hkx⟩:∃kx,kx=(w.heap.size):=⟨_,rfl⟩;obtain⟨ky,hky⟩:∃ky,ky=(w.heap.size+1):=⟨_,rfl⟩;obtain⟨kr,hkr⟩:∃kr,kr=(w.heap.size+1+1):=⟨_,rfl⟩;have sG:kx≠kr:=À;have kM:ky≠kr:=À;have qZ:w.heap.size<=kr:=À;rw[<-hkr,<-hky,<-hkx]at h0;rw[<-hkr,<-hky,<-hkx];clear hkx hky hkr;refine wp_region_held_drew (S:=λw':Wd=>iJ w kx ky kr a b c d w') Ã (h0.call (Å).drew) (λaa=>?_);generalize W.drew=V at*;refine tq 0 (ρ (Y ⟨kx,0,M⟩)) aa ?_;refine tk 1 (I O a) rfl (λw' h=>by have q:=h.cells.1;go_simp) aa ?_;refine tq 2 (ρ (Y ⟨ky,0,M⟩)) aa ?_;refine tk 3 (I O c) rfl (λw' h=>by have q:=h.cells.2.2.1;go_simp) aa ?_;refine tq 5 (ρ (Y ⟨kx,0,M⟩)) aa ?_;refine tk 6 (I O a) rfl (λw' h=>by have q:=h.cells.1;go_simp) aa ?_;refine tq 7 (ρ (Y ⟨ky,1,M⟩)) aa ?_;refine tk 8 (I O d) rfl (λw' h=>by have q:=h.cells.2.2.2;go_simp) aa ?_;refine tq 10 (ρ (Y ⟨ky,0,M⟩)) aa ?_;refine tk 11 (I O c) rfl (λw' h=>by have q:=h.cells.2.2.1;go_simp) aa ?_;refine tq 12 (ρ (Y ⟨kx,1,M⟩)) aa ?_;refine tk 13 (I O b) rfl (λw' h=>by have q:=h.cells.2.1;go_simp) aa ?_;refine tq 17 (ρ (Y ⟨kx,1,M⟩)) aa ?_;refine tk 18 (I O b) rfl (λw' h=>by have q:=h.cells.2.1;go_simp) aa ?_;refine tq 19 (ρ (Y ⟨ky,1,M⟩)) aa ?_;refine tk 20 (I O d) rfl (λw' h=>by have q:=h.cells.2.2.2;go_simp) aa ?_;refine tq 4 (I O (a*c)) aa ?_;refine tq 9 (I O (a*d)) aa ?_;refine tq 14 (I O (c*b)) aa ?_;refine tq 21 (I O (b*d)) aa ?_;refine bP 15 λK hK=>?_
 simp only[bG,gd];go_simp;refine hK.out _ _ (aa.call (below_alloc1 _ _)) (λ_=>?_);clear hK K;refine bP 16 λK hK=>?_
 simp only[bG];go_simp;refine(HG.out _ _ (by first|rfl|simp)).mono ?_;rintro e w1⟨rfl,b1⟩;replace aa:=aa.call b1;clear b1;go_wp2_with fail;refine hK.out _ _ aa (λ_=>?_);clear hK K;refine bP 22 λK hK=>?_
 simp only[bG];go_simp;refine(HC.out _).mono ?_;rintro e w2⟨rfl,b1⟩;replace aa:=aa.call b1;clear b1;go_wp2_with fail;refine hK.out _ _ aa (λ_=>?_);clear hK K;have MQ:=aa.there (I O (t.m:Nat)) (I O t.r);have BQ:=(aa.put sG kM qZ (I O (t.m:Nat)) (I O t.r)).b;obtain⟨u0,v0,hr⟩:=aa.r;obtain⟨m0,m1,jo,jH,_⟩:=aI hr;clear hr;refine bP 23 λK hK=>?_
 simp only[bG];go_simp;refine hK.out _ _ (aa.put sG kM qZ _ _) (λaa=>?_);clear hK K;refine wpAnyH_done Ã ?_ _;go_wp2_with fail;exact Ç (v:=J #[I O (t.m:Nat),I O t.r]) (by simp[results,results288,go_sem,MQ.1,MQ.2]) rfl ⟨rfl,BQ⟩
end
end Go.Proofs.YtiopfihjmkfdmabGreatDoor
