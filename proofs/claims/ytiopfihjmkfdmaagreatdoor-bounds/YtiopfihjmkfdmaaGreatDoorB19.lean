import Derived.Test.YtiopfihjmkfdmaaGreatDoorB18
namespace Go.Proofs.YtiopfihjmkfdmaaGreatDoor
open Go.Proofs.Tryz Sp
open Go.RowKit
set_option maxRecDepth 100000
set_option maxHeartbeats 16000000
namespace WI
section
variable{w W W':Wd}
variable{pa ca:Array Value}
theorem MC:(prog.info? 220).map (fun i=>(i.zero,i.size))=some (some (.agg (aK none)),17)/\((prog.info? 220).map (fun i=>decide (i.bytes<=1000)))=some true:=by constructor<;>kernel_rfl
theorem Co(n:Nat)(hn:n<=1000000)(w:Wd):(Instr.makeSlice 213 (.int .i64 (n:Nat)) (.int .i64 (n:Nat))).run prog w=.ok (.slice (some ⟨w.heap.size,0,none⟩) n n) (w.alloc (.cells (cP (List.replicate n none)).toArray 220)):=by
 obtain⟨i,hi,hz⟩:=Option.map_eq_some_iff.1 MC.1;have h3:=MC.2;rw[hi]at h3;simp only[Option.map_some,Option.some.injEq,decide_eq_true_eq]at h3;simp only[Prod.mk.injEq]at hz;obtain⟨h1,h2⟩:=hz;have hb:(i.bytes:Int)*(n:Int)<=281474976710656:=by
  have h4:i.bytes*n<=1000*1000000:=Nat.mul_le_mul h3 hn;have h5:((i.bytes*n:Nat):Int)<=1000000000:=by omega
  rw[Int.natCast_mul]at h5;omega
 have:=run_make (P:=prog) w 213 220 i _ underlying213 hi h1 .i64 .i64 n n (by omega) (Int.le_refl _) hb (by omega);rw[this,h2];simp only[Int.toNat_natCast];congr 4;exact ni (f:=fun s=>(aK s).toList) (a:=none) (z:=aK none) rfl dz (by omega)
theorem MN:(prog.info? 3).map (fun i=>(i.zero,i.size,i.bytes))=some (some (.int .i64 0),1,8):=by kernel_rfl
theorem wD(n:Nat)(hn:n<=1000000)(w:Wd):(Instr.makeSlice 35 (.int .i64 (n:Nat)) (.int .i64 (n:Nat))).run prog w=.ok (.slice (some ⟨w.heap.size,0,none⟩) n n) (w.alloc (.cells (cQ (List.replicate n 0)).toArray 3)):=by obtain⟨i,hi,hz⟩:=Option.map_eq_some_iff.1 MN;simp only[Prod.mk.injEq]at hz;obtain⟨h1,h2,h3⟩:=hz;have:=run_make (P:=prog) w 35 3 i _ underlying35 hi h1 .i64 .i64 n n (by omega) (Int.le_refl _) (by rw[h3];omega) (by omega);rw[this,h2];simp only[Int.toNat_natCast];congr 4;have:=ni (f:=fun k:Nat=>[Value.int .i64 ((k:Nat):Int)]) (k:=1) (n:=n) (a:=0) (z:=#[.int .i64 0]) rfl (fun _=>rfl) (by omega);rw[show(Value.int .i64 0).cells=#[.int .i64 0] from rfl,this];unfold cQ;rw[List.map_eq_flatMap]
theorem Me(a b:Value)(ha:∃x n c,a=.slice x n c)(hb:∃x n c,b=.slice x n c)(w:Wd):(Instr.build 215 #[(0,a),(1,b)]).run prog w=.ok (.agg #[a,b]) w:=by
 obtain⟨x,n,c,rfl⟩:=ha;obtain⟨x',n',c',rfl⟩:=hb
 kernel_rfl
theorem LM(a b:Value)(ha:∃x n c,a=.slice x n c)(hb:∃x n c,b=.slice x n c)(w:Wd):(Instr.build 64 #[(0,a),(1,b)]).run prog w=.ok (.agg #[a,b]) w:=by
 obtain⟨x,n,c,rfl⟩:=ha;obtain⟨x',n',c',rfl⟩:=hb
 kernel_rfl
theorem Ma(dv:Value)(cU:Int)(ao narrow aj:Int)(th:Bool)(m:Nat)(f:Option Addr)(w:Wd):(Instr.build 217 #[(0,.iface 133 dv),(1,.agg #[.int .i64 cU,.int .i64 ao,.int .i64 narrow,.int .i64 aj,.bool th]),(2,.map (some m)),(3,.pointer f)]).run prog w=.ok (.agg (xY dv cU ao narrow aj th m f)) w:=by kernel_rfl
theorem PB(dv:Value)(cU ao narrow aj:Int)(th:Bool)(m:Nat)(f:Option Addr):(xY dv cU ao narrow aj th m f).all (·.oneCell')=true:=by unfold xY;simp[Value.oneCell']
structure xB(w:Wd)(pa ca:Array Value)(W:Wd):Prop where
 p:W.heap[w.heap.size]?=some (.cells pa 86)
 c:W.heap[w.heap.size+1]?=some (.cells ca 58)
 z:W.heap[w.heap.size+1+1]?=some (.cells #[.slice none 0 0,.slice none 0 0] 64)
 b:Below w.heap.size w W
theorem xB.call(h:xB w pa ca W)(k:Below W.heap.size W W'):xB w pa ca W' :=
 ⟨(k.block _ (ah h.p)).trans h.p,(k.block _ (ah h.c)).trans h.c,(k.block _ (ah h.z)).trans h.z,h.b.trans (k.mono h.b.size)⟩
theorem xB.alloc(h:xB w pa ca W){o:Obj}:xB w pa ca (W.alloc o):=h.call (below_alloc1 W o)
theorem xB.lt(h:xB w pa ca W):w.heap.size+1+1<W.heap.size:=ah h.z
theorem xB.put(h:xB w pa ca W){k:Nat}(hk:w.heap.size+1+1<k)(l:List Value):xB w pa ca (W.setCells k 0 l) :=
 ⟨(al _ _ _ _ (by omega)).trans h.p,(al _ _ _ _ (by omega)).trans h.c,(al _ _ _ _ (by omega)).trans h.z,au (by omega) _ _ _ _ h.b⟩
theorem xB.bF{C:Cx}(hC:C.base=w.heap.size)(h1:w.heap.size+1+1<C.gf)(h2:w.heap.size+1+1<C.gs)(h3:w.heap.size+1+1<C.m)(h:xB w pa ca W)(k:ay C W W'):xB w pa ca W' :=
 ⟨(k.others _ (ah h.p) (by omega) (by omega) (by omega)).trans h.p,(k.others _ (ah h.c) (by omega) (by omega) (by omega)).trans h.c,(k.others _ (ah h.z) (by omega) (by omega) (by omega)).trans h.z,h.b.trans (hC ▸ k.below)⟩
abbrev YS(n q gf gs:Nat):Obj:=.cells #[.slice (some ⟨gf,0,none⟩) n n,.slice (some ⟨gs,0,none⟩) q q] 215
theorem bFd(n q gf gs:Nat)(w:Wd):(Instr.build 215 #[(0,.slice (some ⟨gf,0,none⟩) n n),(1,.slice (some ⟨gs,0,none⟩) q q)]).run prog w=.ok (.agg #[.slice (some ⟨gf,0,none⟩) n n,.slice (some ⟨gs,0,none⟩) q q]) w:=Me _ _ ⟨_,_,_,rfl⟩ ⟨_,_,_,rfl⟩ w
theorem bWk(dv:Value)(cU:Int)(ao narrow aj:Nat)(th:Bool)(m fb:Nat)(w:Wd):(Instr.build 217 #[(0,.iface 133 dv),(1,.agg #[.int .i64 cU,.int .i64 (ao:Nat),.int .i64 (narrow:Nat),.int .i64 (aj:Nat),.bool th]),(2,.map (some m)),(3,.pointer (some ⟨fb,0,none⟩))]).run prog w=.ok (.agg (xY dv cU ao narrow aj th m (some ⟨fb,0,none⟩))) w:=Ma _ _ _ _ _ _ _ _ w
structure Al(w:Wd)(pa ca fc sc:Array Value)(n q:Nat)(m gf gs fb kw:Option Nat)(W:Wd):Prop where
 s:xB w pa ca W
 xm:∀a,m=some a->w.heap.size+1+1<a/\W.heap[a]?=some (.map #[] 0)
 xf:∀a,gf=some a->w.heap.size+1+1<a/\W.heap[a]?=some (.cells fc 220)
 xg:∀a,gs=some a->w.heap.size+1+1<a/\W.heap[a]?=some (.cells sc 3)
 xb:∀a f g,fb=some a->gf=some f->gs=some g->w.heap.size+1+1<a/\W.heap[a]?=some (YS n q f g)
 xk:∀a,kw=some a->w.heap.size+1+1<a/\W.heap[a]?=some (.cells je 217)
end
section
variable {w : Wd}{pa ca fc sc : Array Value}{n q : Nat}{m gf gs fb kw : Option Nat}{W : Wd}
theorem Al.old(J:Al w pa ca fc sc n q m gf gs fb kw W)(o:Obj):Al w pa ca fc sc n q m gf gs fb kw (W.alloc o) :=
 ⟨J.s.alloc,fun a h=>⟨(J.xm a h).1,heap_alloc_old (J.xm a h).2⟩,fun a h=>⟨(J.xf a h).1,heap_alloc_old (J.xf a h).2⟩,fun a h=>⟨(J.xg a h).1,heap_alloc_old (J.xg a h).2⟩,fun a f g h h1 h2=>⟨(J.xb a f g h h1 h2).1,heap_alloc_old (J.xb a f g h h1 h2).2⟩,fun a h=>⟨(J.xk a h).1,heap_alloc_old (J.xk a h).2⟩⟩
theorem Al.am(J:Al w pa ca fc sc n q none gf gs fb kw W):Al w pa ca fc sc n q (some W.heap.size) gf gs fb kw (W.alloc (.map #[] 0)) :=
 { J.old _ with xm:=fun a h=>by injection h with h;subst h;exact⟨J.s.lt,heap_alloc_new _ _⟩ }
theorem Al.af(J:Al w pa ca fc sc n q m none gs none kw W):Al w pa ca fc sc n q m (some W.heap.size) gs none kw (W.alloc (.cells fc 220)) :=
 { J.old _ with xf:=fun a h=>by injection h with h;subst h;exact⟨J.s.lt,heap_alloc_new _ _⟩,xb:=fun _ _ _ h=>by cases h }
theorem Al.ag(J:Al w pa ca fc sc n q m gf none none kw W):Al w pa ca fc sc n q m gf (some W.heap.size) none kw (W.alloc (.cells sc 3)) :=
 { J.old _ with xg:=fun a h=>by injection h with h;subst h;exact⟨J.s.lt,heap_alloc_new _ _⟩,xb:=fun _ _ _ h=>by cases h }
theorem Al.ab{f g:Nat}(J:Al w pa ca fc sc n q m (some f) (some g) none kw W):Al w pa ca fc sc n q m (some f) (some g) (some W.heap.size) kw (W.alloc (YS n q f g)) :=
 { J.old _ with xb:=fun a f' g' h h1 h2=>by injection h with h;injection h1 with h1;injection h2 with h2;subst h h1 h2;exact⟨J.s.lt,heap_alloc_new _ _⟩ }
theorem Al.ak(J:Al w pa ca fc sc n q m gf gs fb none W):Al w pa ca fc sc n q m gf gs fb (some W.heap.size) (W.alloc (.cells je 217)) :=
 { J.old _ with xk:=fun a h=>by injection h with h;subst h;exact⟨J.s.lt,heap_alloc_new _ _⟩ }
end
section
variable{w W W' W0:Wd}
variable{π:bO}
variable{T:gB}
variable{kw b k:Nat}
variable{pa ca c:Array Value}
abbrev xD(w:Wd)(dv:Value)(cU:Int)(ao narrow aj:Nat)(th:Bool)(n q m fb gf gs:Nat):Cx:=⟨w.heap.size,dv,cU,ao,narrow,aj,th,m,fb,gf,gs,n,q⟩
structure RpN(π:bO)(dv:Value)(w:Wd):Prop where
 d:fG w.heap.size π dv w
 t:gw w
 g:11<=w.heap.size
def Pg(w:Wd)(π:bO)(T:gB)(dv:Value)(cU:Int)(ao narrow aj:Nat)(th:Bool)(n q kw m fb gf gs:Nat)(F:Fd)(W:Wd):Prop :=
 (w.heap.size+1+1<kw/\w.heap.size+1+1<gf/\w.heap.size+1+1<gs/\w.heap.size+1+1<m)/\W.heap[kw]?=some (.cells (xY dv cU ao narrow aj th m (some ⟨fb,0,none⟩)) 217)/\aM (xD w dv cU ao narrow aj th n q m fb gf gs) π T F W
theorem Pg.fin{dv:Value}{cU:Int}{ao narrow aj:Nat}{th:Bool}{n q m fb gf gs:Nat}(hN:RpN π dv w)(l:w.heap.size+1+1<kw/\w.heap.size+1+1<gf/\w.heap.size+1+1<gs/\w.heap.size+1+1<m/\w.heap.size+1+1<fb)
  (hm:W.heap[m]?=some (.map #[] 0)) (A9:W.heap[gf]?=some (.cells (cP (List.replicate n none)).toArray 220)) (uX:W.heap[gs]?=some (.cells (cQ (List.replicate q 0)).toArray 3))
  (Bm:W.heap[fb]?=some (.cells #[.slice (some ⟨gf,0,none⟩) n n,.slice (some ⟨gs,0,none⟩) q q] 215)) (QR:W.heap[kw]?=some (.cells je 217)) (hS:xB w pa ca W) :
  Pg w π T dv cU ao narrow aj th n q kw m fb gf gs (List.replicate n none,List.replicate q 0) (W.setCells kw 0 (xY dv cU ao narrow aj th m (some ⟨fb,0,none⟩)).toList)/\xB w pa ca (W.setCells kw 0 (xY dv cU ao narrow aj th m (some ⟨fb,0,none⟩)).toList):=by
 have n1:m≠kw:=fun e=>by rw[e,QR]at hm;cases hm
 have n2:gf≠kw:=fun e=>by rw[e,QR]at A9;injection A9 with h;injection h with _ h _;exact absurd h (by decide)
 have n3:gs≠kw:=fun e=>by rw[e,QR]at uX;injection uX with h;injection h with _ h _;exact absurd h (by decide)
 have n4:fb≠kw:=fun e=>by rw[e,QR]at Bm;injection Bm with h;injection h with _ h _;exact absurd h (by decide)
 have hS':=hS.put l.1 (xY dv cU ao narrow aj th m (some ⟨fb,0,none⟩)).toList;refine⟨⟨⟨l.1,l.2.1,l.2.2.1,l.2.2.2.1⟩,ar QR rfl,?_⟩,hS'⟩;refine⟨?_,(al _ _ _ _ n2).trans A9,(al _ _ _ _ n3).trans uX,⟨#[],0,(al _ _ _ _ n1).trans hm,fun x hx=>by simp at hx⟩,hN.d.below hS'.b,hN.t.below hS'.b hN.g,hN.g,?_,?_,?_,?_,?_⟩
 ·rw[al _ _ _ _ n4]
  simp only[List.length_replicate];exact Bm
 ·show w.heap.size<=fb;omega
 ·show w.heap.size<=gf;omega
 ·show w.heap.size<=gs;omega
 ·show w.heap.size<=m;omega
 ·intro s hs
  obtain rfl:=List.eq_of_mem_replicate hs;exact eG
theorem Ay:(prog.info? 64).map (·.size)=some 2:=by kernel_rfl
theorem Er{fn:Func}{a:Tmp}(F1:fn.results=#[.cell a 64])(tmps:Array Value)(w:Wd)(ht:tmps.getD a undef=.pointer (some ⟨b,0,none⟩))(h:Bk w b c 64)(hc:c.size=2) :
  (results fn tmps).run prog w=.ok (.agg c) w:=by
 have hl:(loadVar 64 ⟨b,0,none⟩).run prog w=.ok (.agg c) w:=by have:=run_loadVar_mid (P:=prog) w b 0 64 c.toList _ (aT h) underlying64 rfl (by rw[Ay];simp[hc]);simpa using this
 have Qp:tmps[a]?.getD undef=.pointer (some ⟨b,0,none⟩):=by rw[<-ht];simp
 unfold results;rw[F1];simp[asAddr,Qp,hl]
structure qJ(w:Wd)(pa ca:Array Value)(C:Cx)(π:bO)(T:gB)(kw:Nat)(F:Fd)(W:Wd):Prop where
 a:aM C π T F W
 o:W.heap[kw]?=some (.cells (wk C true) 217)
 s:xB w pa ca W
theorem qJ.call{C:Cx}{F:Fd}(h:qJ w pa ca C π T kw F W)(k:Below W.heap.size W W'):qJ w pa ca C π T kw F W' :=
 ⟨h.a.call k,(k.block _ (ah h.o)).trans h.o,h.s.call k⟩
theorem qJ.bF{C:Cx}{F F':Fd}(h:qJ w pa ca C π T kw F W)(hC:C.base=w.heap.size)(hl:w.heap.size+1+1<C.gf/\w.heap.size+1+1<C.gs/\w.heap.size+1+1<C.m)(ha:aM C π T F' W')(k:ay C W W'):qJ w pa ca C π T kw F' W':=by
 have n2:kw≠C.gf:=fun e=>by have h1:=h.o;rw[e,h.a.A9]at h1;injection h1 with h1;injection h1 with _ h1 _;exact absurd h1 (by decide)
 have n3:kw≠C.gs:=fun e=>by have h1:=h.o;rw[e,h.a.uX]at h1;injection h1 with h1;injection h1 with _ h1 _;exact absurd h1 (by decide)
 exact⟨ha,k.cell h.a h.o n2 n3,h.s.bF hC hl.1 hl.2.1 hl.2.2 k⟩
theorem qJ.put{C:Cx}{F F0:Fd}(h:qJ w pa ca C π T kw F W)(h0:qJ w pa ca C π T kw F0 W0)(hk:W0.heap.size<=k)(l:List Value):qJ w pa ca C π T kw F (W.setCells k 0 l):=by have hb:Below W0.heap.size W (W.setCells k 0 l):=au (b:=k) hk l 0 W _ (Below.refl _ _);exact⟨h0.a.upon h.a hb,(hb.block _ (ah h0.o)).trans h.o,h.s.put (Nat.lt_of_lt_of_le h0.s.lt hk) l⟩
theorem zG(w:Wd)(π:bO)(dv:Value)(cU:Int)(ao narrow aj:Nat)(th:Bool)(p q:Nat)(hp:p<=1000)(hq:q<=1000)(qH:narrow<=1000)(hun:aj<=1000)(v nv:Value)(hv:∃a n c,v=.slice a n c)(Ns:∃a n c,nv=.slice a n c)(t:Sp.Bl)(hN:RpN π dv w)(Tp:Sp.Small (0,0) (Sp.pB t) (Sp.qB t))(lo hi:Nat)(w0:Wd)(DF:eJ lo hi w0 w)(Hy:hi<=w.heap.size)(hB:BlA (0,0) lo hi w0 v t ((p:Int),(q:Int))) :
  Calls prog 51 #[.agg #[v,.int .i64 (p:Nat),.int .i64 (q:Nat),nv],.agg #[.int .i64 cU,.int .i64 (ao:Nat),.int .i64 (narrow:Nat),.int .i64 (aj:Nat),.bool th],.iface 133 dv] w fun r w'=>∃g h,r=.returned (.agg #[.slice (some ⟨g,0,none⟩) (p+1) (p+1),.slice (some ⟨h,0,none⟩) q q])/\w'.heap[g]?=some (.cells (fh (da (Dm π) ⟨ao,narrow,aj⟩ t).1).toArray 76)/\w'.heap[h]?=some (.cells (cQ (da (Dm π) ⟨ao,narrow,aj⟩ t).2).toArray 3)/\w.heap.size<=g/\w.heap.size<=h/\Below w.heap.size w w':=by
 obtain⟨T,hT⟩:∃T:gB,T=nW (Dm π) ⟨ao,narrow,aj⟩ t (0,0):=⟨_,rfl⟩;have HLP:Hid (cO (Dm π) ⟨ao,narrow,aj⟩ T t (0,0)):=by rw[hT];exact eR (Dm π) ⟨ao,narrow,aj⟩ _ t (0,0) Tp (fun p s _ _=>rfl)
 obtain⟨n,hn⟩:∃n,n=p+1:=⟨_,rfl⟩;have hmS:=Co n (by omega);have hmI:=wD q (by omega);obtain⟨fc0,hfc0⟩:∃x,x=(cP (List.replicate n none)).toArray:=⟨_,rfl⟩;obtain⟨sc0,hsc0⟩:∃x,x=(cQ (List.replicate q 0)).toArray:=⟨_,rfl⟩;rw[<-hfc0]at hmS;rw[<-hsc0]at hmI;have Wh:IntKind.i64.wrap ((p:Nat)+1:Int)=((n:Nat):Int):=by rw[IntKind.wrap_i64];omega
 have HNP:=hid hn;obtain⟨va,vn,vc,rfl⟩:=hv;obtain⟨na,nn,nc,rfl⟩:=Ns;obtain⟨pa,hpa⟩:∃pa,pa=#[Value.slice va vn vc,.int .i64 (p:Nat),.int .i64 (q:Nat),.slice na nn nc]:=⟨_,rfl⟩;obtain⟨ca,Nz⟩:∃ca,ca=#[Value.int .i64 cU,.int .i64 (ao:Nat),.int .i64 (narrow:Nat),.int .i64 (aj:Nat),.bool th]:=⟨_,rfl⟩;have H0:Hid (xB w pa ca (((w.alloc (.cells #[.slice va vn vc,.int .i64 (p:Nat),.int .i64 (q:Nat),.slice na nn nc] 86)).alloc (.cells #[.int .i64 cU,.int .i64 (ao:Nat),.int .i64 (narrow:Nat),.int .i64 (aj:Nat),.bool th] 58)).alloc (.cells #[.slice none 0 0,.slice none 0 0] 64))):=by obtain⟨k0,k1,k2,kb⟩:=bY (w:=w) (o1:=.cells #[.slice va vn vc,.int .i64 (p:Nat),.int .i64 (q:Nat),.slice na nn nc] 86) (o2:=.cells #[.int .i64 cU,.int .i64 (ao:Nat),.int .i64 (narrow:Nat),.int .i64 (aj:Nat),.bool th] 58) (o3:=.cells #[.slice none 0 0,.slice none 0 0] 64) (Below.refl _ _);rw[hpa,Nz];exact⟨k0,k1,k2,kb⟩
 have hp0:pa[0]?=some (.slice va vn vc):=by rw[hpa];rfl
 have rJ:pa[1]?=some (.int .i64 (p:Nat)):=by rw[hpa];rfl
 have rQ:pa[2]?=some (.int .i64 (q:Nat)):=by rw[hpa];rfl
 have N4:ca[0]?=some (.int .i64 cU):=by rw[Nz];rfl
 have DC:ca[1]?=some (.int .i64 (ao:Nat)):=by rw[Nz];rfl
 have rM:ca[2]?=some (.int .i64 (narrow:Nat)):=by rw[Nz];rfl
 have DP:ca[3]?=some (.int .i64 (aj:Nat)):=by rw[Nz];rfl
 have tM:ca[4]?=some (.bool th):=by rw[Nz];rfl
 have XU:=hid hfc0;have HSC:=hid hsc0;have HN:=hid hN;have mw:=hid hB;have HSO:=hid DF;clear hT hfc0 hsc0 hpa Nz hN hB DF hn;go_enter func51,ntmps51;go_wp2_with fail;generalize ((w.alloc (.cells #[.slice va vn vc,.int .i64 (p:Nat),.int .i64 (q:Nat),.slice na nn nc] 86)).alloc (.cells #[.int .i64 cU,.int .i64 (ao:Nat),.int .i64 (narrow:Nat),.int .i64 (aj:Nat),.bool th] 58)).alloc (.cells #[.slice none 0 0,.slice none 0 0] 64)=W0 at *
 go_cut [7] from 9 to 21 (fun v7 wc=>∃kw m fb gf gs:Nat,v7=.pointer (some ⟨kw,0,none⟩)/\Pg w π T dv cU ao narrow aj th n q kw m fb gf gs (List.replicate n none,List.replicate q 0) wc/\xB w pa ca wc)
 case first =>
  have H1:xB w pa ca W0.drew:=H0.call (Below.refl _ _).drew;refine wp_region_held_drew (S:=fun w':Wd=>xB w pa ca w') (by kernel_rfl) H1 (fun aa=>?_);clear H0 H1;generalize W0.drew=Wd at *;refine tq 0 (.iface 133 dv) aa ?_;refine tk 1 (.agg #[.int .i64 cU,.int .i64 (ao:Nat),.int .i64 (narrow:Nat),.int .i64 (aj:Nat),.bool th]) rfl (fun w' h=>by(have d0:=cell_of h.c 0 N4);(have d1:=cell_of h.c 1 DC);(have d2:=cell_of h.c 2 rM);(have d3:=cell_of h.c 3 DP);have d4:=cell_of h.c 4 tM;go_simp) aa ?_;refine tq 3 (.pointer (some ⟨w.heap.size,1,none⟩)) aa ?_;refine tk 4 (.int .i64 (p:Nat)) rfl (fun w' h=>by have d:=cell_of h.p 1 rJ;go_simp) aa ?_;refine tq 5 (.int .i64 (n:Nat)) aa ?_;refine tq 7 (.pointer (some ⟨w.heap.size,2,none⟩)) aa ?_;refine tk 8 (.int .i64 (q:Nat)) rfl (fun w' h=>by have d:=cell_of h.p 2 rQ;go_simp) aa ?_;have J:Al w pa ca fc0 sc0 n q none none none none none Wd:=⟨aa,fun _ h=>(by cases h),fun _ h=>(by cases h),fun _ h=>(by cases h),fun _ _ _ h=>(by cases h),fun _ h=>(by cases h)⟩;generalize Wd=W at *;refine rd4 2 6 9 13 (fun K hK=>?_) (fun K hK=>?_) (fun K hK=>?_) (fun K hK=>?_)
  all_goals
   repeat'
    simp only[bT,gN];go_simp
    first
     | (change K _ (W.alloc (.map #[] 0));replace J:=J.am;clear aa;refine hK.out _ _ J.s (fun aa=>?_);clear hK K;generalize W.heap.size=m at *;generalize W.alloc (.map #[] 0)=W at *)
     | (replace J:=J.af;clear aa;refine hK.out _ _ J.s (fun aa=>?_);clear hK K;generalize W.heap.size=gf at *;generalize W.alloc (.cells fc0 220)=W at *)
     | (replace J:=J.ag;clear aa;refine hK.out _ _ J.s (fun aa=>?_);clear hK K;generalize W.heap.size=gs at *;generalize W.alloc (.cells sc0 3)=W at *)
     | (replace J:=J.ab;clear aa;refine hK.out _ _ J.s (fun aa=>?_);clear hK K;generalize W.heap.size=fb at *;generalize W.alloc (YS n q gf gs)=W at *)
     | (replace J:=J.ak;clear aa;refine hK.out _ _ J.s (fun aa=>?_);clear hK K;generalize W.heap.size=kw at *;generalize W.alloc (.cells je 217)=W at *)
    try (refine mj 10 rfl (j7 (by rfl) rfl (by kernel_rfl) (bFd n q gf gs)) aa ?_ (hr:=by decide +kernel))
    try (refine mj 12 rfl (j7 (by rfl) rfl (by kernel_rfl) (bWk dv cU ao narrow aj th m fb)) aa ?_ (hr:=by decide +kernel))
    first
     | refine UN 6 9 13 (fun K hK=>?_) (fun K hK=>?_) (fun K hK=>?_) (hr:=by decide +kernel)
     | refine UN 2 9 13 (fun K hK=>?_) (fun K hK=>?_) (fun K hK=>?_) (hr:=by decide +kernel)
     | refine UN 2 6 13 (fun K hK=>?_) (fun K hK=>?_) (fun K hK=>?_) (hr:=by decide +kernel)
     | refine UN 2 6 9 (fun K hK=>?_) (fun K hK=>?_) (fun K hK=>?_) (hr:=by decide +kernel)
     | refine UN 2 11 13 (fun K hK=>?_) (fun K hK=>?_) (fun K hK=>?_) (hr:=by decide +kernel)
     | refine Kn 2 6 (fun K hK=>?_) (fun K hK=>?_) (hr:=by decide +kernel)
     | refine Kn 2 9 (fun K hK=>?_) (fun K hK=>?_) (hr:=by decide +kernel)
     | refine Kn 2 13 (fun K hK=>?_) (fun K hK=>?_) (hr:=by decide +kernel)
     | refine Kn 6 9 (fun K hK=>?_) (fun K hK=>?_) (hr:=by decide +kernel)
     | refine Kn 6 13 (fun K hK=>?_) (fun K hK=>?_) (hr:=by decide +kernel)
     | refine Kn 9 13 (fun K hK=>?_) (fun K hK=>?_) (hr:=by decide +kernel)
     | refine Kn 2 11 (fun K hK=>?_) (fun K hK=>?_) (hr:=by decide +kernel)
     | refine Kn 11 13 (fun K hK=>?_) (fun K hK=>?_) (hr:=by decide +kernel)
     | refine cH 2 (fun K hK=>?_) (hr:=by decide +kernel)
     | refine cH 6 (fun K hK=>?_) (hr:=by decide +kernel)
     | refine cH 9 (fun K hK=>?_) (hr:=by decide +kernel)
     | refine cH 13 (fun K hK=>?_) (hr:=by decide +kernel)
     | refine cH 11 (fun K hK=>?_) (hr:=by decide +kernel)
     | refine Shut.out ?_
  all_goals
   unfold Shut;refine cH 14 fun K hK=>?_
   simp only[bT,gN];rw[if_pos (by rfl)];have aU:=Pg.fin (T:=T) (cU:=cU) (ao:=ao) (narrow:=narrow) (aj:=aj) (th:=th) HN.out ⟨(J.xk kw rfl).1,(J.xf gf rfl).1,(J.xg gs rfl).1,(J.xm m rfl).1,(J.xb fb gf gs rfl rfl rfl).1⟩ (J.xm m rfl).2 (by rw[<-XU.out];exact(J.xf gf rfl).2) (by rw[<-HSC.out];exact(J.xg gs rfl).2) (J.xb fb gf gs rfl rfl rfl).2 (J.xk kw rfl).2 J.s;refine wp_store_mid _ _ _ rfl _ _ (xY dv cU ao narrow aj th m (some ⟨fb,0,none⟩)) rfl rfl (by rw[show(xY dv cU ao narrow aj th m (some ⟨fb,0,none⟩)).size=8 from rfl];exact bI (J.xk kw rfl).2) (by rw[fD];rfl) (PB _ _ _ _ _ _ _ _) ?_;refine hK.out _ _ aU.2 (fun _=>?_);clear hK K;refine wpAnyH_done (by kernel_rfl) ?_ _;go_wp2_with fail;go_meet
   case rel=>exact⟨_,_,_,_,_,rfl,aU⟩
 case rest =>
  obtain⟨kw,m,fb,gf,gs,rfl,⟨hl,QR,hA⟩,hS⟩:=hcut;have eg:(wk (xD w dv cU ao narrow aj th n q m fb gf gs) true).size=8:=rfl;have tR:(wk (xD w dv cU ao narrow aj th n q m fb gf gs) true)[7]?=some (.pointer (some ⟨fb,0,none⟩)):=rfl;have Og:Sp.cB t (0,0)=((p:Int),(q:Int)):=mw.cb;have Uc:=fY t (0,0) Tp;rw[Og]at Uc;have hpe:p=Sp.pB t:=by injection Uc with h1 h2;simp at h1;omega
  have hqe:q=Sp.qB t:=by injection Uc with h1 h2;simp at h2;omega
  have KA:=HNP.out;obtain⟨F0,hF0⟩:∃F0:Fd,F0=(List.replicate n none,List.replicate q 0):=⟨_,rfl⟩;have l1:F0.1.length=n:=by rw[hF0];simp
  have l2:F0.2.length=q:=by rw[hF0];simp
  rw[<-hF0]at hA;obtain⟨RR,hRR⟩:∃RR:List cr × ST,RR=Sp.cF (Dm π) ⟨ao,narrow,aj⟩ t (0,0) (some fun _=>mU 0):=⟨_,rfl⟩;have Tt:df true F0 RR.1:=fun _ ev hev=>by
   rw[hRR]at hev;have:=jh (D:=Dm π) ⟨ao,narrow,aj⟩ t (0,0) Tp _ ev hev;cases ev with
   | aA a s=>obtain⟨e1,e2⟩:=this;simp at e1 e2;exact⟨e1,by rw[l1];omega⟩
   | site a s=>obtain⟨e1,e2⟩:=this;simp at e1 e2;exact⟨e1,by rw[l2];omega⟩
  have WG:∀k:Fin 8,Wv ((fun _=>mU 0:Fin 8->Sp.Iv) k):=fun _=>(Kr π).wnum 0 ⟨by omega,by omega⟩
  have Xz:Sp.Wf (Kr π) RR.2:=by rw[hRR];exact fS (K:=Kr π) _ t mw.ok _ _ (Sp.Wf.some WG)
  have Kf:Hid (da (Dm π) ⟨ao,narrow,aj⟩ t=told π true (told π true F0 RR.1) (sV π (p:Nat) RR.2)):=by unfold Hid da;rw[Og,<-aG,hF0,hRR];show Sp.tell (Dm π) (List.replicate (((p:Nat):Int)+1).toNat none,List.replicate (((q:Nat):Int)).toNat 0) _=_;rw[show(((p:Nat):Int)+1).toNat=n by omega,show(((q:Nat):Int)).toNat=q by omega];rfl
  have hM:qJ w pa ca (xD w dv cU ao narrow aj th n q m fb gf gs) π T kw F0 wc:=⟨hA,QR,hS⟩;obtain⟨ua,hua⟩:∃ua,ua=aK RR.2:=⟨_,rfl⟩;have kY:ua.size=17:=by rw[hua];exact aF _
  have Bj:ua.all (·.oneCell')=true:=by rw[hua];exact aX _
  obtain⟨xa,oe⟩:∃xa,xa=aK (some fun _=>mU 0):=⟨_,rfl⟩;have hBA:=mw.calls (xD w dv cU ao narrow aj th n q m fb gf gs) π T true wc (fun k h1 h2 h3=>by rw[hS.b.block k (by omega)];exact HSO.out k h1 h2 h3) Hy qH hun HLP.out;have yg:Hid (∀W,ay (xD w dv cU ao narrow aj th n q m fb gf gs) wc W->qJ w pa ca (xD w dv cU ao narrow aj th n q m fb gf gs) π T kw F0 W->Calls prog 82 #[.agg (wk (xD w dv cU ao narrow aj th n q m fb gf gs) true),.slice va vn vc,.agg xa] W fun r w'=>r=.returned (.agg ua)/\qJ w pa ca (xD w dv cU ao narrow aj th n q m fb gf gs) π T kw (told π true F0 RR.1) w'/\ay (xD w dv cU ao narrow aj th n q m fb gf gs) W w'):=fun W hk hW=>by
   have h1:Calls prog 82 #[.agg (wk (xD w dv cU ao narrow aj th n q m fb gf gs) true),.slice va vn vc,.agg (aK (some fun _=>mU 0))] W (fF (xD w dv cU ao narrow aj th n q m fb gf gs) π T F0 true W RR.1 RR.2):=by rw[hRR]at Tt ⊢;exact hBA F0 W (some fun _=>mU 0) hk hW.a (Sp.Wf.some WG) Tt
   unfold fF at h1;rw[<-hua,<-oe]at h1;exact h1.mono fun r w' k=>⟨k.1,hW.bF rfl ⟨hl.2.1,hl.2.2.1,hl.2.2.2⟩ k.2.1 k.2.2,k.2.2⟩
  have HNU:Hid (∀W,qJ w pa ca (xD w dv cU ao narrow aj th n q m fb gf gs) π T kw F0 W->Calls prog 324 #[dv,.int .i16 0] W fun e w'=>e=.returned (.agg #[.int .i16 (mU 0).a,.int .i16 (mU 0).b])/\Below W.heap.size W w'):=fun W hW=>Gq hW.a.does 0
  have QW:Hid (∀W,Calls prog 83 #[.agg #[.int .i16 (mU 0).a,.int .i16 (mU 0).b]] W fun e w'=>e=.returned (.agg xa)/\Below W.heap.size W w'):=fun W=>by rw[oe];exact p9 (mU 0) W
  have TK:Hid (∀W,qJ w pa ca (xD w dv cU ao narrow aj th n q m fb gf gs) π T kw (told π true F0 RR.1) W->Calls prog 84 #[.agg (wk (xD w dv cU ao narrow aj th n q m fb gf gs) true),.int .i64 (p:Nat),.agg ua] W fun r w'=>r=.returned (.tuple #[])/\qJ w pa ca (xD w dv cU ao narrow aj th n q m fb gf gs) π T kw (told π true (told π true F0 RR.1) (sV π (p:Nat) RR.2)) w'/\ay (xD w dv cU ao narrow aj th n q m fb gf gs) W w'):=fun W hW=>by have h1:=mD (xD w dv cU ao narrow aj th n q m fb gf gs) π T (told π true F0 RR.1) true W hW.a (p:Nat) RR.2 Xz (fun _=>⟨by omega,by rw[(jc π true F0 RR.1).1,l1];omega⟩);rw[<-hua]at h1;exact h1.mono fun r w' k=>⟨k.1,hW.bF rfl ⟨hl.2.1,hl.2.2.1,hl.2.2.2⟩ k.2.1 k.2.2,k.2.2⟩
  obtain⟨F2,hF2⟩:∃F2,F2=told π true (told π true F0 RR.1) (sV π (p:Nat) RR.2):=⟨_,rfl⟩;rw[<-hF2]at TK Kf;have l3:F2.1.length=n:=by rw[hF2,(jc ..).1,(jc ..).1,l1]
  have l4:F2.2.length=q:=by rw[hF2,(jc ..).2,(jc ..).2,l2]
  have HFS:Hid (∀W,qJ w pa ca (xD w dv cU ao narrow aj th n q m fb gf gs) π T kw F2 W->Calls prog 85 #[.iface 133 dv,.slice (some ⟨gf,0,none⟩) n n] W fun r w'=>r=.returned (.slice (some ⟨W.heap.size,0,none⟩) n n)/\w'.heap[W.heap.size]?=some (.cells (fh F2.1).toArray 76)/\Below W.heap.size W w'):=fun W hW=>by have h1:=BL (B:=w.heap.size) (π:=π) dv gf n F2.1 W hW.a.does hW.a.A9 hW.a.wfF (by omega);rw[l3]at h1;exact h1
  have HM:=hid hM;have hwm:∀w,(method 587 133 dv "Number").run prog w=.ok (324,dv) w:=fun w=>by kernel_rfl
  have TB:=hid l3;have HL4:=hid l4;have HL:=hid hl;clear hF2 l1 l2 l3 l4 hF0 hRR Tt WG Xz hM hA QR hS hBA hua oe Og Uc hpe hqe KA hl mw HSO HLP HN hmS hmI XU HSC Wh;obtain⟨wa,rV⟩:∃wa,wa=wk (xD w dv cU ao narrow aj th n q m fb gf gs) true:=⟨_,rfl⟩;rw[<-rV]at eg tR yg TK;have hMO:∀F W,qJ w pa ca (xD w dv cU ao narrow aj th n q m fb gf gs) π T kw F W->W.heap[kw]?=some (.cells wa 217):=fun F W hW=>by rw[rV];exact hW.o
  have ZN:=hid hMO;clear rV hMO;generalize hCC:xD w dv cU ao narrow aj th n q m fb gf gs=C at *;have XO:=hid hCC;clear hCC;go_wp2_with fail
  go_cut [8] from 22 to 28 (fun v8 wd=>∃k8:Nat,v8=.pointer (some ⟨k8,0,none⟩)/\Hid (qJ w pa ca C π T kw (told π true F0 RR.1) wd/\wd.heap[k8]?=some (.cells ua 220)/\k8≠C.gf/\k8≠C.gs/\k8≠C.m))
  case first =>
   have M0:qJ w pa ca C π T kw F0 wc.drew:=HM.call (Below.refl _ _).drew;have K0:ay C wc wc.drew:=ay.aB (Below.refl _ _).drew HM.a.le;refine wp_region_held_drew (S:=fun w':Wd=>∃F',qJ w pa ca C π T kw F' w') (by kernel_rfl) ⟨_,M0⟩ (fun aa=>?_);generalize wc.drew=V0 at *;refine mj 0 rfl (yieldsIf_load_mid (by rfl) _ _ rfl _ _ rfl (wa).toList _ (fun w' h=>(h.elim fun F h=>aT (ZN.out F _ h))) underlying217 rfl (by rw[fD,Array.length_toList,eg])) aa ?_;refine tq 1 (.pointer (some ⟨w.heap.size,0,none⟩)) aa ?_;refine tk 2 (.slice va vn vc) rfl (fun w' h=>by obtain⟨_,h⟩:=h;have d:=cell_of h.s.p 0 hp0;go_simp) aa ?_;refine tq 3 (.iface 133 dv) aa ?_;refine Kn 4 7 ?_ ?_
   ·intro K hK
    simp only[bT,gN,Array.toArray_toList];go_simp;refine(HNU.out _ M0).mono ?_;rintro r V1⟨rfl,b1⟩;go_wp2_with fail;have M1:=M0.call b1;have K1:=K0.trans (ay.aB b1 M0.a.le);refine hK.out _ _ ⟨_,M1⟩ (fun aa=>?_);clear hK K b1;refine Kn 5 7 ?_ ?_
    ·intro K hK
     simp only[bT];go_simp;refine(QW.out _).mono ?_;rintro r V2⟨rfl,b2⟩;go_wp2_with fail;have M2:=M1.call b2;have K2:=K1.trans (ay.aB b2 M1.a.le);refine hK.out _ _ ⟨_,M2⟩ (fun aa=>?_);clear hK K b2;refine Kn 6 7 ?_ ?_
     ·intro K hK
      simp only[bT];go_simp;refine(yg.out _ K2 M2).mono ?_;rintro r V3⟨rfl,M3,b3⟩;go_wp2_with fail;have K3:=K2.trans b3;refine hK.out _ _ ⟨_,M3⟩ (fun aa=>?_);clear hK K b3;refine cH 7 ?_
      ·intro K hK
       simp only[bT];have od:=heap_alloc_new V3 (.cells zS 220);have M4:=M3.call (below_alloc1 V3 (.cells zS 220));have K4:=K3.trans (ay.aB (below_alloc1 V3 (.cells zS 220)) M3.a.le);have Us:wc.heap.size<=V3.heap.size:=K3.below.size;go_simp;refine hK.out _ _ ⟨_,M4⟩ (fun aa=>?_);clear hK K;generalize V3.alloc (.cells zS 220)=V4 at *;generalize V3.heap.size=a4 at *;refine cH 8 fun K hK=>?_
       simp only[bT];rw[if_pos (by rfl)];refine kG _ _ rfl rfl rfl (bI od) kY Bj ?_;have dj:=HM.a.lt;have db:a4≠C.gf/\a4≠C.gs/\a4≠C.m:=⟨by omega,by omega,by omega⟩;have aU:qJ w pa ca C π T kw (told π true F0 RR.1) (V4.setCells a4 0 ua.toList):=M4.put HM.out Us ua.toList;refine hK.out _ _ ⟨_,aU⟩ (fun _=>?_);clear hK K;refine wpAnyH_done (by kernel_rfl) ?_ _;go_wp2_with fail;go_meet
       case rel=>exact⟨_,rfl,aU,ar od (by rw[kY];rfl),db⟩
     ·intro K hK
      simp only[bT];have oS:=heap_alloc_new V2 (.cells zS 220);have M5:=M2.call (below_alloc1 V2 (.cells zS 220));have K5:=K2.trans (ay.aB (below_alloc1 V2 (.cells zS 220)) M2.a.le);have zm:wc.heap.size<=V2.heap.size:=K2.below.size;go_simp;refine hK.out _ _ ⟨_,M5⟩ (fun aa=>?_);clear hK K;generalize V2.alloc (.cells zS 220)=V5 at *;generalize V2.heap.size=a5 at *;refine cH 6 ?_
      ·intro K hK
       simp only[bT];go_simp;refine(yg.out _ K5 M5).mono ?_;rintro r V6⟨rfl,M6,b6⟩;go_wp2_with fail;have K6:=K5.trans b6;have N1:=b6.aW HM.a zm oS;refine hK.out _ _ ⟨_,M6⟩ (fun aa=>?_);clear hK K b6;refine cH 8 fun K hK=>?_
       simp only[bT];rw[if_pos (by rfl)];refine kG _ _ rfl rfl rfl (bI N1) kY Bj ?_;have dj:=HM.a.lt;have db:a5≠C.gf/\a5≠C.gs/\a5≠C.m:=⟨by omega,by omega,by omega⟩;have aU:qJ w pa ca C π T kw (told π true F0 RR.1) (V6.setCells a5 0 ua.toList):=M6.put HM.out zm ua.toList;refine hK.out _ _ ⟨_,aU⟩ (fun _=>?_);clear hK K;refine wpAnyH_done (by kernel_rfl) ?_ _;go_wp2_with fail;go_meet
       case rel=>exact⟨_,rfl,aU,ar N1 (by rw[kY];rfl),db⟩
    ·intro K hK
     simp only[bT];have He:=heap_alloc_new V1 (.cells zS 220);have M7:=M1.call (below_alloc1 V1 (.cells zS 220));have K7:=K1.trans (ay.aB (below_alloc1 V1 (.cells zS 220)) M1.a.le);have Hm:wc.heap.size<=V1.heap.size:=K1.below.size;go_simp;refine hK.out _ _ ⟨_,M7⟩ (fun aa=>?_);clear hK K;generalize V1.alloc (.cells zS 220)=V7 at *;generalize V1.heap.size=a7 at *;refine cH 5 ?_
     ·intro K hK
      simp only[bT];go_simp;refine(QW.out _).mono ?_;rintro r V8⟨rfl,b8⟩;go_wp2_with fail;have M8:=M7.call b8;have K8:=K7.trans (ay.aB b8 M7.a.le);have Xe:=(b8.block _ (ah He)).trans He;refine hK.out _ _ ⟨_,M8⟩ (fun aa=>?_);clear hK K b8;refine cH 6 ?_
      ·intro K hK
       simp only[bT];go_simp;refine(yg.out _ K8 M8).mono ?_;rintro r V9⟨rfl,M9,b9⟩;go_wp2_with fail;have K9:=K8.trans b9;have hz9:=b9.aW HM.a Hm Xe;refine hK.out _ _ ⟨_,M9⟩ (fun aa=>?_);clear hK K b9;refine cH 8 fun K hK=>?_
       simp only[bT];rw[if_pos (by rfl)];refine kG _ _ rfl rfl rfl (bI hz9) kY Bj ?_;have dj:=HM.a.lt;have db:a7≠C.gf/\a7≠C.gs/\a7≠C.m:=⟨by omega,by omega,by omega⟩;have aU:qJ w pa ca C π T kw (told π true F0 RR.1) (V9.setCells a7 0 ua.toList):=M9.put HM.out Hm ua.toList;refine hK.out _ _ ⟨_,aU⟩ (fun _=>?_);clear hK K;refine wpAnyH_done (by kernel_rfl) ?_ _;go_wp2_with fail;go_meet
       case rel=>exact⟨_,rfl,aU,ar hz9 (by rw[kY];rfl),db⟩
   ·intro K hK
    simp only[bT,gN,Array.toArray_toList];have VK:=heap_alloc_new V0 (.cells zS 220);have QT:=M0.call (below_alloc1 V0 (.cells zS 220));have K10:=K0.trans (ay.aB (below_alloc1 V0 (.cells zS 220)) M0.a.le);have WJ:wc.heap.size<=V0.heap.size:=K0.below.size;go_simp;refine hK.out _ _ ⟨_,QT⟩ (fun aa=>?_);clear hK K;generalize V0.alloc (.cells zS 220)=V10 at *;generalize V0.heap.size=N9 at *;refine cH 4 ?_
    ·intro K hK
     simp only[bT];go_simp;refine(HNU.out _ QT).mono ?_;rintro r V11⟨rfl,YD⟩;go_wp2_with fail;have QP:=QT.call YD;have K11:=K10.trans (ay.aB YD QT.a.le);have XA:=(YD.block _ (ah VK)).trans VK;refine hK.out _ _ ⟨_,QP⟩ (fun aa=>?_);clear hK K YD;refine cH 5 ?_
     ·intro K hK
      simp only[bT];go_simp;refine(QW.out _).mono ?_;rintro r V12⟨rfl,Yo⟩;go_wp2_with fail;have Vs:=QP.call Yo;have K12:=K11.trans (ay.aB Yo QP.a.le);have Zm:=(Yo.block _ (ah XA)).trans XA;refine hK.out _ _ ⟨_,Vs⟩ (fun aa=>?_);clear hK K Yo;refine cH 6 ?_
      ·intro K hK
       simp only[bT];go_simp;refine(yg.out _ K12 Vs).mono ?_;rintro r V13⟨rfl,M13,Zy⟩;go_wp2_with fail;have K13:=K12.trans Zy;have WZ:=Zy.aW HM.a WJ Zm;refine hK.out _ _ ⟨_,M13⟩ (fun aa=>?_);clear hK K Zy;refine cH 8 fun K hK=>?_
       simp only[bT];rw[if_pos (by rfl)];refine kG _ _ rfl rfl rfl (bI WZ) kY Bj ?_;have dj:=HM.a.lt;have db:N9≠C.gf/\N9≠C.gs/\N9≠C.m:=⟨by omega,by omega,by omega⟩;have aU:qJ w pa ca C π T kw (told π true F0 RR.1) (V13.setCells N9 0 ua.toList):=M13.put HM.out WJ ua.toList;refine hK.out _ _ ⟨_,aU⟩ (fun _=>?_);clear hK K;refine wpAnyH_done (by kernel_rfl) ?_ _;go_wp2_with fail;go_meet
       case rel=>exact⟨_,rfl,aU,ar WZ (by rw[kY];rfl),db⟩
  case rest =>
   obtain⟨k8,rfl,hr⟩:=hcut;have M0:qJ w pa ca C π T kw (told π true F0 RR.1) wc.drew:=hr.1.call (Below.refl _ _).drew;have Z0:wc.drew.heap[k8]?=some (.cells ua 220):=hr.2.1;have db:=hr.2.2;have HM0:=hid M0;go_wp2_with fail;refine wp_region_held_drew (S:=fun w':Wd=>(∃F',qJ w pa ca C π T kw F' w')/\w'.heap[k8]?=some (.cells ua 220)) (by kernel_rfl) ⟨⟨_,M0⟩,Z0⟩ (fun aa=>?_);clear M0 Z0 yg HNU QW;refine mj 0 rfl (yieldsIf_load_mid (by rfl) _ _ rfl _ _ rfl (wa).toList _ (fun w' h=>(h.1.elim fun F h=>aT (ZN.out F _ h))) underlying217 rfl (by rw[fD,Array.length_toList,eg])) aa ?_;refine mj 4 rfl (yieldsIf_load_mid (by rfl) _ _ rfl _ _ rfl (ua).toList _ (fun w' h=>aT h.2) underlying220 rfl (by rw[bP,Array.length_toList,kY])) aa ?_;refine tq 1 (.pointer (some ⟨w.heap.size,1,none⟩)) aa ?_;refine tk 2 (.int .i64 (p:Nat)) rfl (fun w' h=>by obtain⟨⟨_,h⟩,_⟩:=h;have d:=cell_of h.s.p 1 rJ;go_simp) aa ?_;refine cH 3 fun K hK=>?_
   simp only[bT,gN,Array.toArray_toList];go_simp;refine(fB _ _).mono ?_;rintro r w1⟨rfl,rfl⟩;go_wp2_with fail;refine hK.out _ _ aa (fun aa=>?_);clear hK K;refine cH 5 fun K hK=>?_
   simp only[bT];go_simp;refine(TK.out _ HM0.out).mono ?_;rintro r w2⟨rfl,M2,b2⟩;go_wp2_with fail;refine hK.out _ _ ⟨⟨_,M2⟩,(b2.others _ (ah aa.2) db.1 db.2.1 db.2.2).trans aa.2⟩ (fun _=>?_);clear hK K aa b2;refine wpAnyH_done (by kernel_rfl) ?_ _;have HM2:=hid M2;clear M2 hr db HM0 TK;go_wp2_with fail;have M3:qJ w pa ca C π T kw F2 w2.drew:=HM2.call (Below.refl _ _).drew;have eC:=XO.out;have Bm:∀W,qJ w pa ca C π T kw F2 W->W.heap[fb]?=some (.cells #[.slice (some ⟨gf,0,none⟩) n n,.slice (some ⟨gs,0,none⟩) q q] 215):=fun W hW=>by have:=hW.a.Bm;rw[<-eC]at this;rw[TB.out,HL4.out]at this;exact this
   have HFB:=hid Bm;have uX:∀W,qJ w pa ca C π T kw F2 W->W.heap[gs]?=some (.cells (cQ F2.2).toArray 3):=fun W hW=>by have:=hW.a.uX;rw[<-eC]at this;exact this
   have HGS:=hid uX;clear Bm uX eC;have TX:=hid M3;have js:w2.drew.heap[w.heap.size+1+1]?=some (.cells #[.slice none 0 0,.slice none 0 0] 64):=M3.s.z;refine wp_region_held_drew (S:=fun w':Wd=>(w'.heap[kw]?=some (.cells wa 217)/\w'.heap[fb]?=some (.cells #[.slice (some ⟨gf,0,none⟩) n n,.slice (some ⟨gs,0,none⟩) q q] 215))/\∃c:Array Value,c.size=2/\w'.heap[w.heap.size+1+1]?=some (.cells c 64)) (by kernel_rfl) ⟨⟨ZN.out _ _ M3,HFB.out _ M3⟩,_,rfl,js⟩ (fun aa=>?_);clear M3;refine tq 0 (.iface 133 dv) aa ?_;refine tq 1 (.pointer (some ⟨kw,7,none⟩)) aa ?_;refine tk 2 (.pointer (some ⟨fb,0,none⟩)) rfl (fun w' h=>by have d:=cell_of h.1.1 7 tR;go_simp) aa ?_;refine tq 3 (.pointer (some ⟨fb,0,none⟩)) aa ?_;refine tq 4 (.pointer (some ⟨fb,0,none⟩)) aa ?_;refine tk 5 (.slice (some ⟨gf,0,none⟩) n n) rfl (fun w' h=>by have d:=cell_of h.1.2 0 (v:=.slice (some ⟨gf,0,none⟩) n n) rfl;go_simp) aa ?_;refine tq 7 (.pointer (some ⟨kw,7,none⟩)) aa ?_;refine tk 8 (.pointer (some ⟨fb,0,none⟩)) rfl (fun w' h=>by have d:=cell_of h.1.1 7 tR;go_simp) aa ?_;refine tq 9 (.pointer (some ⟨fb,0,none⟩)) aa ?_;refine tq 10 (.pointer (some ⟨fb,1,none⟩)) aa ?_;refine tk 11 (.slice (some ⟨gs,0,none⟩) q q) rfl (fun w' h=>by have d:=cell_of h.1.2 1 (v:=.slice (some ⟨gs,0,none⟩) q q) rfl;go_simp) aa ?_;refine cH 6 fun K hK=>?_
   simp only[bT,gN];go_simp;refine(HFS.out _ TX.out).mono ?_;rintro r w4⟨rfl,Tj,b4⟩;go_wp2_with fail;have od:=(b4.block _ (ah js)).trans js;have Nr:(w4.heap[kw]?=some (.cells wa 217)/\w4.heap[fb]?=some (.cells #[.slice (some ⟨gf,0,none⟩) n n,.slice (some ⟨gs,0,none⟩) q q] 215)):=⟨(b4.block _ (ah aa.1.1)).trans aa.1.1,(b4.block _ (ah aa.1.2)).trans aa.1.2⟩;refine hK.out _ _ ⟨Nr,_,rfl,od⟩ (fun aa=>?_);clear hK K;refine mj 12 (v:=.agg #[.slice (some ⟨w2.drew.heap.size,0,none⟩) n n,.slice (some ⟨gs,0,none⟩) q q]) rfl (j7 (by rfl) rfl (vals:=#[(0,.slice (some ⟨w2.drew.heap.size,0,none⟩) n n),(1,.slice (some ⟨gs,0,none⟩) q q)]) (by kernel_rfl) (LM _ _ ⟨_,_,_,rfl⟩ ⟨_,_,_,rfl⟩)) aa ?_;have Qg:=TX.s.lt;have VV:=(b4.block _ (ah (HGS.out _ TX.out))).trans (HGS.out _ TX.out);have hll:=HL.out;have hkf:kw≠w.heap.size+1+1:=by omega
   have hfz:fb≠w.heap.size+1+1:=fun e=>by
    have h1:=Nr.2;rw[e,od]at h1;injection h1 with h1
    injection h1 with _ h1 _
    exact absurd h1 (by decide)
   have gA:=ar od (d:=#[.slice (some ⟨w2.drew.heap.size,0,none⟩) n n,.slice (some ⟨gs,0,none⟩) q q]) rfl;refine cH 13 fun K hK=>?_
   simp only[bT,gN];rw[if_pos (by rfl)];refine wp_store_mid _ _ _ rfl _ _ #[.slice (some ⟨w2.drew.heap.size,0,none⟩) n n,.slice (some ⟨gs,0,none⟩) q q] rfl rfl (show w4.there (w.heap.size+1+1) 0 2 from bI od) (by rw[Ay];rfl) (by simp[Value.oneCell']) ?_;refine hK.out _ _ ⟨⟨(al _ _ _ _ hkf).trans Nr.1,(al _ _ _ _ hfz).trans Nr.2⟩,_,rfl,gA⟩ (fun _=>?_);clear hK K;refine wpAnyH_done (by kernel_rfl) ?_ _;have XF:Below w.heap.size w (w4.setCells (w.heap.size+1+1) 0 (#[Value.slice (some ⟨w2.drew.heap.size,0,none⟩) n n,.slice (some ⟨gs,0,none⟩) q q]:Array Value).toList):=au (b:=w.heap.size+1+1) (by omega) _ _ _ _ (TX.s.b.trans (b4.mono TX.s.b.size));have Uk:=hid gA;have TL:=hid XF;have HG4:Hid (_=_):=(al (b:=w.heap.size+1+1) (#[Value.slice (some ⟨w2.drew.heap.size,0,none⟩) n n,.slice (some ⟨gs,0,none⟩) q q]:Array Value).toList 0 w4 w2.drew.heap.size (by omega)).trans Tj;have HS4:Hid (_=_):=(al (b:=w.heap.size+1+1) (#[Value.slice (some ⟨w2.drew.heap.size,0,none⟩) n n,.slice (some ⟨gs,0,none⟩) q q]:Array Value).toList 0 w4 gs (by omega)).trans VV;have WH:w.heap.size<=w2.drew.heap.size:=TX.s.b.size;have hlh:w.heap.size<=gs:=by omega
   clear gA XF Tj VV b4 aa Nr od js;go_wp2_with fail;refine bodyPost_ret (Er results51 _ _ rfl Uk.out rfl) rfl ⟨w2.drew.heap.size,gs,?_,?_,?_,WH,hlh,TL.out⟩
   ·rw[HNP.out]
   ·rw[Kf.out];exact HG4.out
   ·rw[Kf.out];exact HS4.out
end
end WI
end Go.Proofs.YtiopfihjmkfdmaaGreatDoor
