import Derived.Test.YtiopfihjmkfdmabGreatDoorC41
import Derived.Test.YtiopfihjmkfdmabGreatDoorC46
import Derived.Test.YtiopfihjmkfdmabGreatDoorC49
import Derived.MapKept
namespace Go.Proofs.YtiopfihjmkfdmabGreatDoor
open Option renaming none->M,some->Y
open Go.Value renaming agg->J,int->I,slice->Z,bool->U,pointer->ρ,iface->σ
open Go.IntKind renaming i64->O,i16->ψ
open Go.Obj renaming cells->L
open Go.Proofs.Tryz Sp
open Go.RowKit
set_option maxRecDepth 100000
set_option maxHeartbeats 16000000
section
namespace W
variable {E: Bool}{G: aw E}
section
variable{w W W':Wd}
variable{pa ca:Array Value}
theorem O9:(prog.info? (G.ix 174 157)).map (λi=>(i.zero,i.size))=Y (Y (J (G.aQ M)),17)/\((prog.info? (G.ix 174 157)).map (λi=>decide (i.bytes<=1000)))=Y true:=by cases E<;>constructor<;>kernel_rfl
theorem EU(n:Nat)(hn:n<=1000000)(w:Wd):(Instr.makeSlice (G.ix 167 150) (I O (n:Nat)) (I O (n:Nat))).run prog w=.ok (Z (Y ⟨w.heap.size,0,M⟩) n n) (w.alloc (L (G.cX (List.replicate n M)).toArray (G.ix 174 157))):=by
 cases E
 all_goals
  try dsimp only[aw.ix,aw.kd]at*
  obtain⟨i,hi,hz⟩:=õ.1 (O9 (G:=G)).1;have h3:=(O9 (G:=G)).2;rw[hi]at h3;simp only[Option.map_some,Option.some.injEq,Õ]at h3;simp only[ñ]at hz;obtain⟨h1,h2⟩:=hz;have hb:(i.bytes:Int)*(n:Int)<=281474976710656:=by
   have h4:i.bytes*n<=1000*1000000:=Nat.mul_le_mul h3 hn;have h5:((i.bytes*n:Nat):Int)<=1000000000:=À;rw[Int.natCast_mul]at h5;omega
  have:=run_make (P:=prog) w (G.ix 167 150) (G.ix 174 157) i _ (by first|exact underlying167|exact underlying150) hi h1 O O n n À Ò hb À;rw[this,h2];simp only[Int.toNat_natCast];congr 4;exact oF (f:=λs=>(G.aQ s).toList) (a:=M) (z:=G.aQ M) rfl G.dF À
theorem Ow(a b:Value)(ha:∃x n c,a=Z x n c)(hb:∃x n c,b=Z x n c)(w:Wd):(Instr.build (G.ix 169 152) #[(0,a),(1,b)]).run prog w=.ok (J #[a,b]) w:=by obtain⟨x,n,c,rfl⟩:=ha;obtain⟨x',n',c',rfl⟩:=hb;cases E<;>kernel_rfl
theorem Pa(a b:Value)(ha:∃x n c,a=Z x n c)(hb:∃x n c,b=Z x n c)(w:Wd):(Instr.build 33 #[(0,a),(1,b)]).run prog w=.ok (J #[a,b]) w:=by
 obtain⟨x,n,c,rfl⟩:=ha;obtain⟨x',n',c',rfl⟩:=hb
 kernel_rfl
theorem PF(dv:Value)(ch:Int)(ao narrow aj:Int)(th:Bool)(m:Nat)(f:Option Addr)(w:Wd):(Instr.build (G.ix 171 154) #[(0,σ (G.ix 92 87) dv),(1,J #[I O ch,I O ao,I O narrow,I O aj,U th]),(2,.map (Y m)),(3,ρ f)]).run prog w=.ok (J (G.At dv ch ao narrow aj th m f)) w:=by
 cases E<;>kernel_rfl
theorem aw.S7(G:aw E)(dv:Value)(ch ao narrow aj:Int)(th:Bool)(m:Nat)(f:Option Addr):(G.At dv ch ao narrow aj th m f).all (·.oneCell')=true:=by unfold aw.At;simp[Value.oneCell']
structure Aa(w:Wd)(pa ca:Array Value)(W:Wd):Prop where
 p:W.heap[w.heap.size]?=Y (L pa 79)
 c:W.heap[w.heap.size+1]?=Y (L ca 39)
 z:W.heap[w.heap.size+1+1]?=Y (L #[Z M 0 0,Z M 0 0] 33)
 b:ω w W
theorem Aa.call(h:Aa w pa ca W)(k:ω W W'):Aa w pa ca W':=
 ⟨(k.block _ (ah h.p)).trans h.p,(k.block _ (ah h.c)).trans h.c,(k.block _ (ah h.z)).trans h.z,h.b.trans (k.mono h.b.size)⟩
theorem Aa.alloc(h:Aa w pa ca W){o:Obj}:Aa w pa ca (W.alloc o):=h.call (below_alloc1 W o)
theorem Aa.lt(h:Aa w pa ca W):w.heap.size+1+1<W.heap.size:=ah h.z
theorem Aa.put(h:Aa w pa ca W){k:Nat}(hk:w.heap.size+1+1<k)(l:List Value):Aa w pa ca (W.setCells k 0 l):=
 ⟨(al _ _ _ _ À).trans h.p,(al _ _ _ _ À).trans h.c,(al _ _ _ _ À).trans h.z,au À _ _ _ _ h.b⟩
theorem Aa.bH{C:Cx}(hC:C.base=w.heap.size)(h1:w.heap.size+1+1<C.gf)(h2:w.heap.size+1+1<C.gs)(h3:w.heap.size+1+1<C.m)(h:Aa w pa ca W)(k:aB C W W'):Aa w pa ca W':=
 ⟨(k.others _ (ah h.p) À À À).trans h.p,(k.others _ (ah h.c) À À À).trans h.c,(k.others _ (ah h.z) À À À).trans h.z,h.b.trans (hC▸k.below)⟩
abbrev ā(G:aw E)(n q gf gs:Nat):Obj:=L #[Z (Y ⟨gf,0,M⟩) n n,Z (Y ⟨gs,0,M⟩) q q] (G.ix 169 152)
theorem Ĥ(n q gf gs:Nat)(w:Wd):(Instr.build (G.ix 169 152) #[(0,Z (Y ⟨gf,0,M⟩) n n),(1,Z (Y ⟨gs,0,M⟩) q q)]).run prog w=.ok (J #[Z (Y ⟨gf,0,M⟩) n n,Z (Y ⟨gs,0,M⟩) q q]) w:=Ow (G:=G) _ _ ⟨_,_,_,rfl⟩ ⟨_,_,_,rfl⟩ w
theorem Į(dv:Value)(ch:Int)(ao narrow aj:Nat)(th:Bool)(m fb:Nat)(w:Wd):(Instr.build (G.ix 171 154) #[(0,σ (G.ix 92 87) dv),(1,J #[I O ch,I O (ao:Nat),I O (narrow:Nat),I O (aj:Nat),U th]),(2,.map (Y m)),(3,ρ (Y ⟨fb,0,M⟩))]).run prog w=.ok (J (G.At dv ch ao narrow aj th m (Y ⟨fb,0,M⟩))) w:=PF (G:=G) _ _ _ _ _ _ _ _ w
structure Dc(G:aw E)(w:Wd)(pa ca fc sc:Array Value)(n q:Nat)(m gf gs fb kw:Option Nat)(W:Wd):Prop where
 s:Aa w pa ca W
 xm:∀a,m=Y a->w.heap.size+1+1<a/\W.heap[a]?=Y (.map #[] 0)
 xf:∀a,gf=Y a->w.heap.size+1+1<a/\W.heap[a]?=Y (L fc (G.ix 174 157))
 xg:∀a,gs=Y a->w.heap.size+1+1<a/\W.heap[a]?=Y (L sc 3)
 xb:∀a f g,fb=Y a->gf=Y f->gs=Y g->w.heap.size+1+1<a/\W.heap[a]?=Y (ā G n q f g)
 xk:∀a,kw=Y a->w.heap.size+1+1<a/\W.heap[a]?=Y (L j9 (G.ix 171 154))
end
section
variable {w: Wd}{pa ca fc sc: Array Value}{n q: Nat}{m gf gs fb kw: Option Nat}{W: Wd}
theorem Dc.old(ξ:Dc G w pa ca fc sc n q m gf gs fb kw W)(o:Obj):Dc G w pa ca fc sc n q m gf gs fb kw (W.alloc o):=
 ⟨ξ.s.alloc,λa h=>⟨(ξ.xm a h).1,heap_alloc_old (ξ.xm a h).2⟩,λa h=>⟨(ξ.xf a h).1,heap_alloc_old (ξ.xf a h).2⟩,λa h=>⟨(ξ.xg a h).1,heap_alloc_old (ξ.xg a h).2⟩,λa f g h h1 h2=>⟨(ξ.xb a f g h h1 h2).1,heap_alloc_old (ξ.xb a f g h h1 h2).2⟩,λa h=>⟨(ξ.xk a h).1,heap_alloc_old (ξ.xk a h).2⟩⟩
theorem Dc.am(ξ:Dc G w pa ca fc sc n q M gf gs fb kw W):Dc G w pa ca fc sc n q (Y W.heap.size) gf gs fb kw (W.alloc (.map #[] 0)):=
 {ξ.old _ with xm:=λa h=>by injection h with h;subst h;exact⟨ξ.s.lt,heap_alloc_new _ _⟩}
theorem Dc.af(ξ:Dc G w pa ca fc sc n q m M gs M kw W):Dc G w pa ca fc sc n q m (Y W.heap.size) gs M kw (W.alloc (L fc (G.ix 174 157))):=
 {ξ.old _ with xf:=λa h=>by injection h with h;subst h;exact⟨ξ.s.lt,heap_alloc_new _ _⟩,xb:=λ_ _ _ h=>by cases h}
theorem Dc.ag(ξ:Dc G w pa ca fc sc n q m gf M M kw W):Dc G w pa ca fc sc n q m gf (Y W.heap.size) M kw (W.alloc (L sc 3)):=
 {ξ.old _ with xg:=λa h=>by injection h with h;subst h;exact⟨ξ.s.lt,heap_alloc_new _ _⟩,xb:=λ_ _ _ h=>by cases h}
theorem Dc.ab{f g:Nat}(ξ:Dc G w pa ca fc sc n q m (Y f) (Y g) M kw W):Dc G w pa ca fc sc n q m (Y f) (Y g) (Y W.heap.size) kw (W.alloc (ā G n q f g)):=
 {ξ.old _ with xb:=λa f' g' h h1 h2=>by injection h with h;injection h1 with h1;injection h2 with h2;subst h h1 h2;exact⟨ξ.s.lt,heap_alloc_new _ _⟩}
theorem Dc.ak(ξ:Dc G w pa ca fc sc n q m gf gs fb M W):Dc G w pa ca fc sc n q m gf gs fb (Y W.heap.size) (W.alloc (L j9 (G.ix 171 154))):=
 {ξ.old _ with xk:=λa h=>by injection h with h;subst h;exact⟨ξ.s.lt,heap_alloc_new _ _⟩}
end
section
variable{w W W' W0:Wd}
variable{T:fS}
variable{kw b k:Nat}
variable{pa ca c:Array Value}
abbrev z6(w:Wd)(dv:Value)(ch:Int)(ao narrow aj:Nat)(th:Bool)(n q m fb gf gs:Nat):Cx:=⟨w.heap.size,dv,ch,ao,narrow,aj,th,m,fb,gf,gs,n,q⟩
structure đ(G:aw E)(dv:Value)(w:Wd):Prop where
 d:fU w.heap.size G dv w
 t:gI w
 g:11<=w.heap.size
def SL(w:Wd)(G:aw E)(T:fS)(dv:Value)(ch:Int)(ao narrow aj:Nat)(th:Bool)(n q kw m fb gf gs:Nat)(F:Fd)(W:Wd):Prop:=
 (w.heap.size+1+1<kw/\w.heap.size+1+1<gf/\w.heap.size+1+1<gs/\w.heap.size+1+1<m)/\W.heap[kw]?=Y (L (G.At dv ch ao narrow aj th m (Y ⟨fb,0,M⟩)) (G.ix 171 154))/\aP (z6 w dv ch ao narrow aj th n q m fb gf gs) G T F W
theorem SL.fin{G:aw E}{dv:Value}{ch:Int}{ao narrow aj:Nat}{th:Bool}{n q m fb gf gs:Nat}(hN:đ G dv w)(l:w.heap.size+1+1<kw/\w.heap.size+1+1<gf/\w.heap.size+1+1<gs/\w.heap.size+1+1<m/\w.heap.size+1+1<fb)
  (hm:W.heap[m]?=Y (.map #[] 0)) (Dt:W.heap[gf]?=Y (L (G.cX (List.replicate n M)).toArray (G.ix 174 157))) (xW:W.heap[gs]?=Y (L (cL (List.replicate q 0)).toArray 3))
  (DO:W.heap[fb]?=Y (L #[Z (Y ⟨gf,0,M⟩) n n,Z (Y ⟨gs,0,M⟩) q q] (G.ix 169 152))) (Ur:W.heap[kw]?=Y (L j9 (G.ix 171 154))) (hS:Aa w pa ca W):
  SL w G T dv ch ao narrow aj th n q kw m fb gf gs (List.replicate n M,List.replicate q 0) (W.setCells kw 0 (G.At dv ch ao narrow aj th m (Y ⟨fb,0,M⟩)).toList)/\Aa w pa ca (W.setCells kw 0 (G.At dv ch ao narrow aj th m (Y ⟨fb,0,M⟩)).toList):=by
 have n1:m≠kw:=λe=>by rw[e,Ur]at hm;cases hm
 have n2:gf≠kw:=λe=>by rw[e,Ur]at Dt;injection Dt with h;injection h with _ h _;exact absurd h (by cases E<;>exact Nat.ne_of_beq_eq_false rfl)
 have n3:gs≠kw:=λe=>by rw[e,Ur]at xW;injection xW with h;injection h with _ h _;exact absurd h (by cases E<;>exact Nat.ne_of_beq_eq_false rfl)
 have n4:fb≠kw:=λe=>by rw[e,Ur]at DO;injection DO with h;injection h with _ h _;exact absurd h (by cases E<;>exact Nat.ne_of_beq_eq_false rfl)
 have hS':=hS.put l.1 (G.At dv ch ao narrow aj th m (Y ⟨fb,0,M⟩)).toList;refine⟨⟨⟨l.1,l.2.1,l.2.2.1,l.2.2.2.1⟩,ar Ur rfl,?_⟩,hS'⟩;refine⟨?_,(al _ _ _ _ n2).trans Dt,(al _ _ _ _ n3).trans xW,⟨#[],0,(al _ _ _ _ n1).trans hm,λx hx=>by simp at hx⟩,hN.d.below hS'.b,hN.t.below hS'.b hN.g,hN.g,?_,?_,?_,?_,?_⟩
 .rw[al _ _ _ _ n4]
  simp only[List.length_replicate];exact DO
 .show w.heap.size<=fb;omega
 .show w.heap.size<=gf;omega
 .show w.heap.size<=gs;omega
 .show w.heap.size<=m;omega
 .intro s hs
  obtain rfl:=List.eq_of_mem_replicate hs;exact eL
theorem Cf:(prog.info? 33).map (·.size)=Y 2:=Ã
theorem IF{fn:Func}{a:Tmp}(Ja:fn.results=#[.cell a 33])(tmps:Array Value)(w:Wd)(ht:tmps.getD a undef=ρ (Y ⟨b,0,M⟩))(h:Bk w b c 33)(hc:c.size=2) :
  (results fn tmps).run prog w=.ok (J c) w:=by
 have hl:(loadVar 33 ⟨b,0,M⟩).run prog w=.ok (J c) w:=by have:=run_loadVar_mid (P:=prog) w b 0 33 c.toList _ (aT h) underlying33 rfl (by rw[Cf];simp[hc]);simpa using this
 have TF:tmps[a]?.getD undef=ρ (Y ⟨b,0,M⟩):=by rw[<-ht];simp
 unfold results;rw[Ja];simp[asAddr,TF,hl]
structure sH(w:Wd)(pa ca:Array Value)(C:Cx)(G:aw E)(T:fS)(kw:Nat)(F:Fd)(W:Wd):Prop where
 a:aP C G T F W
 o:W.heap[kw]?=Y (L (G.wk C true) (G.ix 171 154))
 s:Aa w pa ca W
theorem sH.call{C:Cx}{G:aw E}{F:Fd}(h:sH w pa ca C G T kw F W)(k:ω W W'):sH w pa ca C G T kw F W':=
 ⟨h.a.call k,(k.block _ (ah h.o)).trans h.o,h.s.call k⟩
theorem sH.bH{C:Cx}{G:aw E}{F F':Fd}(h:sH w pa ca C G T kw F W)(hC:C.base=w.heap.size)(hl:w.heap.size+1+1<C.gf/\w.heap.size+1+1<C.gs/\w.heap.size+1+1<C.m)(ha:aP C G T F' W')(k:aB C W W'):sH w pa ca C G T kw F' W':=by
 have n2:kw≠C.gf:=λe=>by have h1:=h.o;rw[e,h.a.Dt]at h1;injection h1 with h1;injection h1 with _ h1 _;exact absurd h1 (by cases E<;>exact Nat.ne_of_beq_eq_false rfl)
 have n3:kw≠C.gs:=λe=>by have h1:=h.o;rw[e,h.a.xW]at h1;injection h1 with h1;injection h1 with _ h1 _;exact absurd h1 (by cases E<;>exact Nat.ne_of_beq_eq_false rfl)
 exact⟨ha,k.cell h.a h.o n2 n3,h.s.bH hC hl.1 hl.2.1 hl.2.2 k⟩
theorem sH.put{C:Cx}{G:aw E}{F F0:Fd}(h:sH w pa ca C G T kw F W)(h0:sH w pa ca C G T kw F0 W0)(hk:W0.heap.size<=k)(l:List Value):sH w pa ca C G T kw F (W.setCells k 0 l):=by have hb:Below W0.heap.size W (W.setCells k 0 l):=au (b:=k) hk l 0 W _ Å;exact⟨h0.a.upon h.a hb,(hb.block _ (ah h0.o)).trans h.o,h.s.put (Nat.lt_of_lt_of_le h0.s.lt hk) l⟩
end
end W
end
namespace W
theorem P5(G:aw true)(o:Option Sp.Iv):iW o=G.y7 o:=by cases o<;>rfl
theorem S2{B g off cap:Nat}{zs:List Int}{w:Wd}(hB:B<=w.heap.size)(hg:g<B)(hl:(zs.length:Int)<=1000000)(hc:∀i x,zs[i]?=Y x->w.cell? ⟨g,off+i,M⟩=Y (I ψ x)):fU B (⟨zs⟩:aw true) (J #[Z (Y ⟨g,off,M⟩) zs.length cap]) w:=by
 refine⟨hB,λw' hb=>?_⟩;have hs:qy w' (Z (Y ⟨g,off,M⟩) zs.length cap) zs:=⟨g,off,cap,rfl,Nat.lt_of_lt_of_le hg (Nat.le_trans hB hb.size),hl,λi x hx=>by rw[hb.cell (p:=⟨g,off+i,M⟩) hg];exact hc i x hx⟩;generalize Value.slice (Y ⟨g,off,M⟩) zs.length cap=u at*;refine⟨λn _ _=>Mw u n w',PW u w',λ{x} hx=>Mb u x.a x.b w' hx.1 hx.2.1 hx.2.2,λ{k} hk {x y} hx hy=>?_,λ{x} _=>L6 u x.a x.b w',λ{x y} _ _=>Sa u x.a x.b y.a y.b w',λhT hs {r} hr {x y} _ _=>Wo u r hr x.a x.b y.a y.b w' hT hs,λ{r} hr {x y} _ hy=>?_,λ{x y} _ _=>PN u zs x.a x.b y.a y.b w' hs,λ{x y} _ _=>LC u x.a x.b y.a y.b w',λ{x} hx=>RF u x.a x.b w' hx.1 (Int.le_trans hx.2.1 hx.2.2) (Int.le_trans hx.1 hx.2.1) hx.2.2⟩
 .have:=SQ u k hk x.a x.b y.a y.b w' hx.1 hx.2.1 hx.2.2 hy.1 hy.2.1 hy.2.2
  rw[P5 (⟨zs⟩:aw true)]at this;exact this
 .have:=OC u r hr x.a x.b y.a y.b w' hy.1 (Int.le_trans hy.2.1 hy.2.2) (Int.le_trans hy.1 hy.2.1) hy.2.2
  rw[P5 (⟨zs⟩:aw true)]at this;exact this
end W
end Go.Proofs.YtiopfihjmkfdmabGreatDoor
