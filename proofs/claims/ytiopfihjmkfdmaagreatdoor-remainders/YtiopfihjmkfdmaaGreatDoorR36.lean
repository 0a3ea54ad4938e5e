import Derived.Test.YtiopfihjmkfdmaaGreatDoorR30
namespace Go.Proofs.YtiopfihjmkfdmaaGreatDoor
open Option renaming none→M,some→Y
open Go.Value renaming agg→J,int→I,slice→Z,bool→U,pointer→ρ,iface→σ
open Go.IntKind renaming i64→O
open Go.Obj renaming cells→L
open Go.Proofs.Tryz Sp
open Go.RowKit
set_option maxRecDepth 100000
set_option maxHeartbeats 16000000
namespace W
variable {δ : Bool}{π : ar δ}
section
variable{w W W':Wd}
variable{pa ca:Array Value}
theorem LW:(prog.info? (π.ix 220 203)).map (fun i=>(i.zero,i.size))=Y (Y (J (π.aI M)),17)/\((prog.info? (π.ix 220 203)).map (fun i=>decide (i.bytes<=1000)))=Y true:=by cases δ<;>constructor<;>kernel_rfl
theorem Dl(n:Nat)(hn:n<=1000000)(w:Wd):(Instr.makeSlice (π.ix 213 196) (I O (n:Nat)) (I O (n:Nat))).run prog w=.ok (Z (Y ⟨w.heap.size,0,M⟩) n n) (w.alloc (L (π.cO (List.replicate n M)).toArray (π.ix 220 203))):=by
 cases δ
 all_goals
  try dsimp only [ar.ix,ar.kd]at *
  obtain⟨i,hi,hz⟩:=Option.map_eq_some_iff.1 (LW (π:=π)).1;have h3:=(LW (π:=π)).2;rw[hi]at h3;simp only[Option.map_some,Option.some.injEq,decide_eq_true_eq]at h3;simp only[Prod.mk.injEq]at hz;obtain⟨h1,h2⟩:=hz;have hb:(i.bytes:Int)*(n:Int)<=281474976710656:=by
   have h4:i.bytes*n<=1000*1000000:=Nat.mul_le_mul h3 hn;have h5:((i.bytes*n:Nat):Int)<=1000000000:=by omega
   rw[Int.natCast_mul]at h5;omega
  have:=run_make (P:=prog) w (π.ix 213 196) (π.ix 220 203) i _ (by first | exact underlying213 | exact underlying196) hi h1 O O n n (by omega) (Int.le_refl _) hb (by omega);rw[this,h2];simp only[Int.toNat_natCast];congr 4;exact nu (f:=fun s=>(π.aI s).toList) (a:=M) (z:=π.aI M) rfl π.dj (by omega)
theorem Mi(a b:Value)(ha:∃x n c,a=Z x n c)(hb:∃x n c,b=Z x n c)(w:Wd):(Instr.build (π.ix 215 198) #[(0,a),(1,b)]).run prog w=.ok (J #[a,b]) w:=by obtain⟨x,n,c,rfl⟩:=ha;obtain⟨x',n',c',rfl⟩:=hb;cases δ<;>kernel_rfl
theorem ME(a b:Value)(ha:∃x n c,a=Z x n c)(hb:∃x n c,b=Z x n c)(w:Wd):(Instr.build 64 #[(0,a),(1,b)]).run prog w=.ok (J #[a,b]) w:=by
 obtain⟨x,n,c,rfl⟩:=ha;obtain⟨x',n',c',rfl⟩:=hb
 kernel_rfl
theorem L3(dv:Value)(bY:Int)(al narrow ai:Int)(th:Bool)(m:Nat)(f:Option Addr)(w:Wd):(Instr.build (π.ix 217 200) #[(0,σ (π.ix 133 128) dv),(1,J #[I O bY,I O al,I O narrow,I O ai,U th]),(2,.map (Y m)),(3,ρ f)]).run prog w=.ok (J (π.yi dv bY al narrow ai th m f)) w:=by
 cases δ<;>kernel_rfl
theorem ar.Pa(π:ar δ)(dv:Value)(bY al narrow ai:Int)(th:Bool)(m:Nat)(f:Option Addr):(π.yi dv bY al narrow ai th m f).all (·.oneCell')=true:=by unfold ar.yi;simp[Value.oneCell']
structure xW(w:Wd)(pa ca:Array Value)(W:Wd):Prop where
 p:W.heap[w.heap.size]?=Y (L pa 86)
 c:W.heap[w.heap.size+1]?=Y (L ca 58)
 z:W.heap[w.heap.size+1+1]?=Y (L #[Z M 0 0,Z M 0 0] 64)
 b:ω w W
theorem xW.call(h:xW w pa ca W)(k:ω W W'):xW w pa ca W' :=
 ⟨(k.block _ (ad h.p)).trans h.p,(k.block _ (ad h.c)).trans h.c,(k.block _ (ad h.z)).trans h.z,h.b.trans (k.mono h.b.size)⟩
theorem xW.alloc(h:xW w pa ca W){o:Obj}:xW w pa ca (W.alloc o):=h.call (below_alloc1 W o)
theorem xW.lt(h:xW w pa ca W):w.heap.size+1+1<W.heap.size:=ad h.z
theorem xW.put(h:xW w pa ca W){k:Nat}(hk:w.heap.size+1+1<k)(l:List Value):xW w pa ca (W.setCells k 0 l) :=
 ⟨(aj _ _ _ _ (by omega)).trans h.p,(aj _ _ _ _ (by omega)).trans h.c,(aj _ _ _ _ (by omega)).trans h.z,aq (by omega) _ _ _ _ h.b⟩
theorem xW.bF{C:Cx}(hC:C.base=w.heap.size)(h1:w.heap.size+1+1<C.gf)(h2:w.heap.size+1+1<C.gs)(h3:w.heap.size+1+1<C.m)(h:xW w pa ca W)(k:au C W W'):xW w pa ca W' :=
 ⟨(k.others _ (ad h.p) (by omega) (by omega) (by omega)).trans h.p,(k.others _ (ad h.c) (by omega) (by omega) (by omega)).trans h.c,(k.others _ (ad h.z) (by omega) (by omega) (by omega)).trans h.z,h.b.trans (hC ▸ k.below)⟩
abbrev Zw(π:ar δ)(n q gf gs:Nat):Obj:=L #[Z (Y ⟨gf,0,M⟩) n n,Z (Y ⟨gs,0,M⟩) q q] (π.ix 215 198)
theorem bFd(n q gf gs:Nat)(w:Wd):(Instr.build (π.ix 215 198) #[(0,Z (Y ⟨gf,0,M⟩) n n),(1,Z (Y ⟨gs,0,M⟩) q q)]).run prog w=.ok (J #[Z (Y ⟨gf,0,M⟩) n n,Z (Y ⟨gs,0,M⟩) q q]) w:=Mi (π:=π) _ _ ⟨_,_,_,rfl⟩ ⟨_,_,_,rfl⟩ w
theorem bWk(dv:Value)(bY:Int)(al narrow ai:Nat)(th:Bool)(m fb:Nat)(w:Wd):(Instr.build (π.ix 217 200) #[(0,σ (π.ix 133 128) dv),(1,J #[I O bY,I O (al:Nat),I O (narrow:Nat),I O (ai:Nat),U th]),(2,.map (Y m)),(3,ρ (Y ⟨fb,0,M⟩))]).run prog w=.ok (J (π.yi dv bY al narrow ai th m (Y ⟨fb,0,M⟩))) w:=L3 (π:=π) _ _ _ _ _ _ _ _ w
structure Aw(π:ar δ)(w:Wd)(pa ca fc sc:Array Value)(n q:Nat)(m gf gs fb kw:Option Nat)(W:Wd):Prop where
 s:xW w pa ca W
 xm:∀a,m=Y a->w.heap.size+1+1<a/\W.heap[a]?=Y (.map #[] 0)
 xf:∀a,gf=Y a->w.heap.size+1+1<a/\W.heap[a]?=Y (L fc (π.ix 220 203))
 xg:∀a,gs=Y a->w.heap.size+1+1<a/\W.heap[a]?=Y (L sc 3)
 xb:∀a f g,fb=Y a->gf=Y f->gs=Y g->w.heap.size+1+1<a/\W.heap[a]?=Y (Zw π n q f g)
 xk:∀a,kw=Y a->w.heap.size+1+1<a/\W.heap[a]?=Y (L ju (π.ix 217 200))
end
section
variable {w : Wd}{pa ca fc sc : Array Value}{n q : Nat}{m gf gs fb kw : Option Nat}{W : Wd}
theorem Aw.old(ξ:Aw π w pa ca fc sc n q m gf gs fb kw W)(o:Obj):Aw π w pa ca fc sc n q m gf gs fb kw (W.alloc o) :=
 ⟨ξ.s.alloc,fun a h=>⟨(ξ.xm a h).1,heap_alloc_old (ξ.xm a h).2⟩,fun a h=>⟨(ξ.xf a h).1,heap_alloc_old (ξ.xf a h).2⟩,fun a h=>⟨(ξ.xg a h).1,heap_alloc_old (ξ.xg a h).2⟩,fun a f g h h1 h2=>⟨(ξ.xb a f g h h1 h2).1,heap_alloc_old (ξ.xb a f g h h1 h2).2⟩,fun a h=>⟨(ξ.xk a h).1,heap_alloc_old (ξ.xk a h).2⟩⟩
theorem Aw.am(ξ:Aw π w pa ca fc sc n q M gf gs fb kw W):Aw π w pa ca fc sc n q (Y W.heap.size) gf gs fb kw (W.alloc (.map #[] 0)) :=
 { ξ.old _ with xm:=fun a h=>by injection h with h;subst h;exact⟨ξ.s.lt,heap_alloc_new _ _⟩ }
theorem Aw.af(ξ:Aw π w pa ca fc sc n q m M gs M kw W):Aw π w pa ca fc sc n q m (Y W.heap.size) gs M kw (W.alloc (L fc (π.ix 220 203))) :=
 { ξ.old _ with xf:=fun a h=>by injection h with h;subst h;exact⟨ξ.s.lt,heap_alloc_new _ _⟩,xb:=fun _ _ _ h=>by cases h }
theorem Aw.ag(ξ:Aw π w pa ca fc sc n q m gf M M kw W):Aw π w pa ca fc sc n q m gf (Y W.heap.size) M kw (W.alloc (L sc 3)) :=
 { ξ.old _ with xg:=fun a h=>by injection h with h;subst h;exact⟨ξ.s.lt,heap_alloc_new _ _⟩,xb:=fun _ _ _ h=>by cases h }
theorem Aw.ab{f g:Nat}(ξ:Aw π w pa ca fc sc n q m (Y f) (Y g) M kw W):Aw π w pa ca fc sc n q m (Y f) (Y g) (Y W.heap.size) kw (W.alloc (Zw π n q f g)) :=
 { ξ.old _ with xb:=fun a f' g' h h1 h2=>by injection h with h;injection h1 with h1;injection h2 with h2;subst h h1 h2;exact⟨ξ.s.lt,heap_alloc_new _ _⟩ }
theorem Aw.ak(ξ:Aw π w pa ca fc sc n q m gf gs fb M W):Aw π w pa ca fc sc n q m gf gs fb (Y W.heap.size) (W.alloc (L ju (π.ix 217 200))) :=
 { ξ.old _ with xk:=fun a h=>by injection h with h;subst h;exact⟨ξ.s.lt,heap_alloc_new _ _⟩ }
end
section
variable{w W W' W0:Wd}
variable{T:eQ}
variable{kw b k:Nat}
variable{pa ca c:Array Value}
abbrev x8(w:Wd)(dv:Value)(bY:Int)(al narrow ai:Nat)(th:Bool)(n q m fb gf gs:Nat):Cx:=⟨w.heap.size,dv,bY,al,narrow,ai,th,m,fb,gf,gs,n,q⟩
structure RpN(π:ar δ)(dv:Value)(w:Wd):Prop where
 d:fL w.heap.size π dv w
 t:jD w
 g:11<=w.heap.size
def PK(w:Wd)(π:ar δ)(T:eQ)(dv:Value)(bY:Int)(al narrow ai:Nat)(th:Bool)(n q kw m fb gf gs:Nat)(F:Fd)(W:Wd):Prop :=
 (w.heap.size+1+1<kw/\w.heap.size+1+1<gf/\w.heap.size+1+1<gs/\w.heap.size+1+1<m)/\W.heap[kw]?=Y (L (π.yi dv bY al narrow ai th m (Y ⟨fb,0,M⟩)) (π.ix 217 200))/\aK (x8 w dv bY al narrow ai th n q m fb gf gs) π T F W
theorem PK.fin{π:ar δ}{dv:Value}{bY:Int}{al narrow ai:Nat}{th:Bool}{n q m fb gf gs:Nat}(hN:RpN π dv w)(l:w.heap.size+1+1<kw/\w.heap.size+1+1<gf/\w.heap.size+1+1<gs/\w.heap.size+1+1<m/\w.heap.size+1+1<fb)
  (hm:W.heap[m]?=Y (.map #[] 0)) (BK:W.heap[gf]?=Y (L (π.cO (List.replicate n M)).toArray (π.ix 220 203))) (vo:W.heap[gs]?=Y (L (cF (List.replicate q 0)).toArray 3))
  (BX:W.heap[fb]?=Y (L #[Z (Y ⟨gf,0,M⟩) n n,Z (Y ⟨gs,0,M⟩) q q] (π.ix 215 198))) (RA:W.heap[kw]?=Y (L ju (π.ix 217 200))) (hS:xW w pa ca W) :
  PK w π T dv bY al narrow ai th n q kw m fb gf gs (List.replicate n M,List.replicate q 0) (W.setCells kw 0 (π.yi dv bY al narrow ai th m (Y ⟨fb,0,M⟩)).toList)/\xW w pa ca (W.setCells kw 0 (π.yi dv bY al narrow ai th m (Y ⟨fb,0,M⟩)).toList):=by
 have n1:m≠kw:=fun e=>by rw[e,RA]at hm;cases hm
 have n2:gf≠kw:=fun e=>by rw[e,RA]at BK;injection BK with h;injection h with _ h _;exact absurd h (by cases δ<;>exact Nat.ne_of_beq_eq_false rfl)
 have n3:gs≠kw:=fun e=>by rw[e,RA]at vo;injection vo with h;injection h with _ h _;exact absurd h (by cases δ<;>exact Nat.ne_of_beq_eq_false rfl)
 have n4:fb≠kw:=fun e=>by rw[e,RA]at BX;injection BX with h;injection h with _ h _;exact absurd h (by cases δ<;>exact Nat.ne_of_beq_eq_false rfl)
 have hS':=hS.put l.1 (π.yi dv bY al narrow ai th m (Y ⟨fb,0,M⟩)).toList;refine⟨⟨⟨l.1,l.2.1,l.2.2.1,l.2.2.2.1⟩,ao RA rfl,?_⟩,hS'⟩;refine⟨?_,(aj _ _ _ _ n2).trans BK,(aj _ _ _ _ n3).trans vo,⟨#[],0,(aj _ _ _ _ n1).trans hm,fun x hx=>by simp at hx⟩,hN.d.below hS'.b,hN.t.below hS'.b hN.g,hN.g,?_,?_,?_,?_,?_⟩
 ·rw[aj _ _ _ _ n4]
  simp only[List.length_replicate];exact BX
 ·show w.heap.size<=fb;omega
 ·show w.heap.size<=gf;omega
 ·show w.heap.size<=gs;omega
 ·show w.heap.size<=m;omega
 ·intro s hs
  obtain rfl:=List.eq_of_mem_replicate hs;exact dY
theorem My:(prog.info? 64).map (·.size)=Y 2:=by kernel_rfl
theorem Ew{fn:Func}{a:Tmp}(Gj:fn.results=#[.cell a 64])(tmps:Array Value)(w:Wd)(ht:tmps.getD a undef=ρ (Y ⟨b,0,M⟩))(h:Bk w b c 64)(hc:c.size=2) :
  (results fn tmps).run prog w=.ok (J c) w:=by
 have hl:(loadVar 64 ⟨b,0,M⟩).run prog w=.ok (J c) w:=by have:=run_loadVar_mid (P:=prog) w b 0 64 c.toList _ (aP h) underlying64 rfl (by rw[My];simp[hc]);simpa using this
 have Tu:tmps[a]?.getD undef=ρ (Y ⟨b,0,M⟩):=by rw[<-ht];simp
 unfold results;rw[Gj];simp[asAddr,Tu,hl]
structure qQ(w:Wd)(pa ca:Array Value)(C:Cx)(π:ar δ)(T:eQ)(kw:Nat)(F:Fd)(W:Wd):Prop where
 a:aK C π T F W
 o:W.heap[kw]?=Y (L (π.wk C true) (π.ix 217 200))
 s:xW w pa ca W
theorem qQ.call{C:Cx}{π:ar δ}{F:Fd}(h:qQ w pa ca C π T kw F W)(k:ω W W'):qQ w pa ca C π T kw F W' :=
 ⟨h.a.call k,(k.block _ (ad h.o)).trans h.o,h.s.call k⟩
theorem qQ.bF{C:Cx}{π:ar δ}{F F':Fd}(h:qQ w pa ca C π T kw F W)(hC:C.base=w.heap.size)(hl:w.heap.size+1+1<C.gf/\w.heap.size+1+1<C.gs/\w.heap.size+1+1<C.m)(ha:aK C π T F' W')(k:au C W W'):qQ w pa ca C π T kw F' W':=by
 have n2:kw≠C.gf:=fun e=>by have h1:=h.o;rw[e,h.a.BK]at h1;injection h1 with h1;injection h1 with _ h1 _;exact absurd h1 (by cases δ<;>exact Nat.ne_of_beq_eq_false rfl)
 have n3:kw≠C.gs:=fun e=>by have h1:=h.o;rw[e,h.a.vo]at h1;injection h1 with h1;injection h1 with _ h1 _;exact absurd h1 (by cases δ<;>exact Nat.ne_of_beq_eq_false rfl)
 exact⟨ha,k.cell h.a h.o n2 n3,h.s.bF hC hl.1 hl.2.1 hl.2.2 k⟩
theorem qQ.put{C:Cx}{π:ar δ}{F F0:Fd}(h:qQ w pa ca C π T kw F W)(h0:qQ w pa ca C π T kw F0 W0)(hk:W0.heap.size<=k)(l:List Value):qQ w pa ca C π T kw F (W.setCells k 0 l):=by have hb:Below W0.heap.size W (W.setCells k 0 l):=aq (b:=k) hk l 0 W _ (Below.refl _ _);exact⟨h0.a.upon h.a hb,(hb.block _ (ad h0.o)).trans h.o,h.s.put (Nat.lt_of_lt_of_le h0.s.lt hk) l⟩
end
end W
end Go.Proofs.YtiopfihjmkfdmaaGreatDoor
