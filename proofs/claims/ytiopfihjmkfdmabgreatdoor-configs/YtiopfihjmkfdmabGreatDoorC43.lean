import Derived.Test.YtiopfihjmkfdmabGreatDoorC31
import Derived.MapKept
namespace Go.Proofs.YtiopfihjmkfdmabGreatDoor
open Option renaming some->Y,none->M
open Go.Value renaming bool->U,int->I,agg->J
open Go.IntKind renaming i64->O
open Go.Proofs.Tryz Sp
open Go.RowKit
set_option maxRecDepth 100000
set_option maxHeartbeats 16000000
namespace W
variable {E: Bool}{G: aw E}
section
variable{j cl m:Nat}
variable{p p':Int}
variable{s t:ST}
variable{T:fS}
variable{F:Fd}
variable{w:Wd}
theorem Ie:(prog.info? (G.ix 341 332)).map (·.size)=Y 18:=by cases E<;>kernel_rfl
theorem Vd:(prog.info? (G.ix 343 334)).map (·.size)=Y 18:=by cases E<;>kernel_rfl
theorem aw.LG(G:aw E)(p:Int)(s:ST):(G.oE p s).size=18:=by rw[<-è,G.nB,List.length_cons,G.dF]
theorem aw.Pe(G:aw E)(p:Int)(s:ST):(G.oE p s).all (·.oneCell')=true:=by
 have h:=G.aZ s;rw[Array.all_eq_true_iff_forall_mem]at h⊢;intro x hx
 rcases Array.mem_append.1 hx with hx|hx
 .simp at hx;subst hx;rfl
 .exact h x hx
theorem aw.LY(G:aw E)(t:ST)(d:Bool):(G.lS t d).size=18:=by unfold aw.lS;rw[Array.size_push,G.aG]
theorem aw.P9(G:aw E)(t:ST)(d:Bool):(G.lS t d).all (·.oneCell')=true:=by
 have h:=G.aZ t;rw[Array.all_eq_true_iff_forall_mem]at h⊢;intro x hx
 rcases Array.mem_push.1 hx with hx|hx
 .exact h x hx
 .subst hx;rfl
theorem aw.L8(G:aw E)(t:ST)(d:Bool):(G.lS t d)[17]?=Y (U d):=by unfold aw.lS;rw[Array.getElem?_push,G.aG];rfl
theorem aw.Gy(G:aw E)(t:ST)(d:Bool)(hj:j<17):(G.lS t d)[j]?=(G.aQ t)[j]?:=by unfold aw.lS;rw[Array.getElem?_push,G.aG,Â À]
theorem TQ{xa:Array Value}(h:xa.size=17):∃a0 a1 a2 a3 a4 a5 a6 a7 a8 a9 QY a11 a12 a13 ZL a15 ZF,xa=#[a0,a1,a2,a3,a4,a5,a6,a7,a8,a9,QY,a11,a12,a13,ZL,a15,ZF]:=by
 rcases xa with⟨l⟩
 match l,h with
 |[a0,a1,a2,a3,a4,a5,a6,a7,a8,a9,QY,a11,a12,a13,ZL,a15,ZF],_=>exact⟨a0,a1,a2,a3,a4,a5,a6,a7,a8,a9,QY,a11,a12,a13,ZL,a15,ZF,rfl⟩
theorem NB(p:Int)(s:ST)(w:Wd):(Instr.build (G.ix 341 332) #[(0,I O p),(1,J (G.aQ s))]).run prog w=.ok (J (G.oE p s)) w:=by unfold aw.oE;obtain⟨a0,a1,a2,a3,a4,a5,a6,a7,a8,a9,QY,a11,a12,a13,ZL,a15,ZF,e⟩:=TQ (G.aG s);rw[e];cases E<;>kernel_rfl
theorem Qm(t:ST)(d:Bool)(w:Wd):(Instr.build (G.ix 343 334) #[(0,J (G.aQ t)),(1,U d)]).run prog w=.ok (J (G.lS t d)) w:=by unfold aw.lS;obtain⟨a0,a1,a2,a3,a4,a5,a6,a7,a8,a9,QY,a11,a12,a13,ZL,a15,ZF,e⟩:=TQ (G.aG t);rw[e];cases E<;>kernel_rfl
theorem aw.Ql(G:aw E){s':ST}(h:(Value.agg (G.oE p s))=J (G.oE p' s')):p=p'/\s=s':=by
 injection h with h
 have h2:=Ë Array.toList h;rw[G.nB,G.nB]at h2;injection h2 with h3 h4
 injection h3 with _ h3
 exact⟨h3,G.J5 (Array.toList_inj.1 h4)⟩
abbrev Ta(G:aw E):TypeId:=(G.ix 165 148)
theorem Bv{G:aw E}{es:Array MapEntry}(hE:∀x∈es.toList,pM G T F x):∀e∈es.toList,∃l,keyOf prog (G.ix 341 332) e.key=Y l:=λe he=>by obtain⟨p,s,t,d,h1,h2,h3,h4,h5,h6⟩:=hE e he;rw[h1];exact GJ h3 h4
theorem Lu{G:aw E}{es:Array MapEntry}(hm:w.heap[m]?=Y (.map es cl))(hE:∀x∈es.toList,pM G T F x)(hs:Sp.Wf (Kr G) s)(hp:0<=p/\p<=1000000) :
  ∃t d ok,(Instr.lookup (Ta G) (.map (Y m)) (.agg (G.oE p s)) true).run prog w=.ok (.tuple #[.agg (G.lS t d),.bool ok]) w/\(ok=true->(T p s).2=t/\(d=true->jJ (Kr G) F (T p s).1)):=by
 cases E
 all_goals
  try dsimp only[aw.ix,aw.kd]at*
  obtain⟨l,hl⟩:=GJ hs hp
  rcases G.rP.find w hl es.toList (Bv hE) with⟨h1,h2⟩|⟨j,e0,h1,h2,h3⟩
  .refine⟨M,false,false,?_,λh=>by cases h⟩
   simp[Instr.lookup,run_underlying underlying165,run_underlying underlying148,MapKept.run_getObj_map hm,G.rP.check w _ hl,h1,Result.andThen];rfl
  .obtain⟨p',s',t,d,k1,k2,k3,k4,k5,k6⟩:=hE e0 (Ù h2)
   rw[h3]at k1;obtain⟨rfl,rfl⟩:=G.Ql k1;refine⟨t,d,true,?_,λ_=>⟨k5,k6⟩⟩;simp[Instr.lookup,run_underlying underlying165,run_underlying underlying148,MapKept.run_getObj_map hm,G.rP.check w _ hl,h1,k2,Result.andThen]
theorem Ou{G:aw E}{es:Array MapEntry}(hm:w.heap[m]?=Y (.map es cl))(hE:∀x∈es.toList,pM G T F x)(hs:Sp.Wf (Kr G) s)(hp:0<=p/\p<=1000000){d:Bool}(h1:(T p s).2=t)(h2:d=true->jJ (Kr G) F (T p s).1) :
  ∃es' cl',(Instr.mapUpdate (Ta G) (.map (Y m)) (.agg (G.oE p s)) (.agg (G.lS t d))).run prog w=.ok () {w with heap:=w.heap.setIfInBounds m (.map es' cl')}/\∀x∈es'.toList,pM G T F x:=by
 cases E
 all_goals
  try dsimp only[aw.ix,aw.kd]at*
  obtain⟨l,hl⟩:=GJ hs hp;have re:∀born,pM G T F ⟨.agg (G.oE p s),.agg (G.lS t d),born⟩:=λborn=>⟨p,s,t,d,rfl,rfl,hs,hp,h1,h2⟩
  rcases G.rP.find w hl es.toList (Bv hE) with⟨k1,_⟩|⟨j,e0,k1,k2,k3⟩
  .refine⟨es.push ⟨.agg (G.oE p s),.agg (G.lS t d),cl⟩,cl+1,?_,?_⟩
   .simp[Instr.mapUpdate,run_underlying underlying165,run_underlying underlying148,MapKept.run_getObj_map hm,G.rP.check w false hl,k1,MapKept.run_setObj_map _ hm,Result.andThen]
   .intro x hx
    simp only[Array.toList_push,List.mem_append,Ö]at hx
    rcases hx with hx|rfl
    .exact hE x hx
    .exact re cl
  .have hj:es[j]?=Y e0:=by simpa using k2
   refine⟨es.modify j (λe'=>{e' with key:=.agg (G.oE p s),val:=.agg (G.lS t d)}),cl,?_,?_⟩
   .simp[Instr.mapUpdate,run_underlying underlying165,run_underlying underlying148,MapKept.run_getObj_map hm,G.rP.check w false hl,k1,hj,k3,G.rP.stays w hl,MapKept.run_setObj_map _ hm,Result.andThen]
   .intro x hx
    rw[Array.toList_modify]at hx;obtain⟨i,hi⟩:=List.getElem?_of_mem hx;obtain⟨y,hy,rfl⟩:=jw hi;split
    .exact re _
    .exact hE y (Ù hy)
theorem aP.Rg{C:Cx}{G:aw E}(h:aP C G T F w){es:Array MapEntry}(hE:∀x∈es.toList,pM G T F x) :
  aP C G T F {w with heap:=w.heap.setIfInBounds C.m (.map es cl)}/\aB C w {w with heap:=w.heap.setIfInBounds C.m (.map es cl)}:=by
 obtain⟨n1,n2,n3,n4,n5,n6⟩:=h.ne;have hl:=h.lt;have hk:aB C w {w with heap:=w.heap.setIfInBounds C.m (.map es cl)}:=by
  refine⟨⟨rfl,rfl,rfl,Ä,λk hk=>?_⟩,λk hk _ _ k3=>?_⟩
  .have:=h.bm
   exact Array.getElem?_setIfInBounds_ne À
  .exact Array.getElem?_setIfInBounds_ne (Ne.symm k3)
 refine⟨⟨?_,?_,?_,⟨es,cl,?_,hE⟩,h.does.below hk.below,h.turns.below hk.below h.big,h.big,h.bfb,h.bgf,h.bgs,h.bm,h.wfF⟩,hk⟩
 .exact(Array.getElem?_setIfInBounds_ne (Ne.symm n6)).trans h.DO
 .exact(Array.getElem?_setIfInBounds_ne n4).trans h.Dt
 .exact(Array.getElem?_setIfInBounds_ne n5).trans h.xW
 .exact Array.getElem?_setIfInBounds_self_of_lt hl.2.2.2
end
end W
end Go.Proofs.YtiopfihjmkfdmabGreatDoor
