import Derived.Test.YtiopfihjmkfdmaaGreatDoorX29
import Derived.LaidHandle
import Derived.LaidLaws
import Derived.LaidMore
import Derived.OpenShut
import Derived.ProofKit
import Derived.Stop.Joined
namespace Go.Proofs.YtiopfihjmkfdmaaGreatDoor
open Go.ChangeShapes Go.WideShapes Go.ChangeAt Go.RowKit
set_option maxRecDepth 100000
theorem own:ownKnob Tryz.prog.godebug=none:=by kernel_rfl
theorem gET:Tryz.prog.globalNamed "errors.errorType" = some 0:=by kernel_rfl
theorem gOps:Tryz.prog.globalNamed "invariants/tree.opSigns" = some 1:=by kernel_rfl
theorem gRels:Tryz.prog.globalNamed "invariants/tree.relationSigns" = some 2:=by kernel_rfl
theorem gPow:Tryz.prog.globalNamed "internal/strconv.uint64pow10" = some 6:=by kernel_rfl
theorem gErrR:Tryz.prog.globalNamed "strconv.ErrRange" = some 10:=by kernel_rfl
theorem gErrS:Tryz.prog.globalNamed "strconv.ErrSyntax" = some 9:=by kernel_rfl
theorem tOps:(Tryz.prog.globals[1]?).map (·.type)=some 272:=by kernel_rfl
theorem tRels:(Tryz.prog.globals[2]?).map (·.type)=some 273:=by kernel_rfl
theorem tPow:(Tryz.prog.globals[6]?).map (·.type)=some 423:=by kernel_rfl
theorem tErrR:(Tryz.prog.globals[10]?).map (·.type)=some 23:=by kernel_rfl
theorem tErrS:(Tryz.prog.globals[9]?).map (·.type)=some 23:=by kernel_rfl
theorem rtOf:(Tryz.prog.cutTypes.find? (·.1 == "internal/reflectlite.rtype")).map (·.2)=some 238:=by kernel_rfl
theorem oneRow:((List.range 487).filter fun t=>Tryz.prog.rowNamed t [101,114,114,111,114])=[23]:=by kernel_rfl
theorem tSize:Tryz.prog.types.size=487:=by kernel_rfl
theorem strs_of_trod {H:Type} {enc:TypeId × Value→H} {P:Program} {w:World} {base:Nat} {sp:Nat→Bool} {held:Bool} {fuel:Nat} {t e:TypeId} {n:Nat} {cs:List Value} {ss:List (List UInt8)} {p:List MemPlace}
  (ht:P.underlying t=some (.array n e)) (he:P.underlying e=some .string) (hce:P.cellsOf e=1)
  (h:DataW.trod enc P w base sp held fuel t cs=some (.agg (ss.map fun s=>.lit (.string s)),p)) (k:Nat) (s:List UInt8) (hk:ss[k]?=some s):cs[k]?=some (.string ⟨s.toArray⟩):=by
 obtain ⟨xs,m,rfl,hx,_,hxl,hel⟩:=DataW.trod_array ht h
 simp only [Prod.mk.injEq,DataW.agg.injEq] at hx
 have hlen:=congrArg List.length hx.1
 simp at hlen
 have hkl:k<ss.length:=by
  rcases Nat.lt_or_ge k ss.length with q | q
  ·exact q
  ·rw [List.getElem?_eq_none q] at hk; cases hk
 have hxk:k<xs.length:=by omega
 have h1:=hel k (by omega)
 rw [List.getElem?_eq_getElem hxk,hce] at h1
 obtain ⟨s',hc,hv,_⟩:=DataW.trod_string he h1
 have h2:(xs.map (·.1))[k]?=some (DataW.lit (.string s'.data.toList)):=by
  simp [List.getElem?_eq_getElem hxk,hv]
 rw [← hx.1] at h2
 simp [hk] at h2
 have h3:cs[k]?=some (.string s'):=by
  have:=congrArg (·[0]?) hc
  simpa [List.getElem?_take,List.getElem?_drop] using this
 rw [h3,h2]
end Go.Proofs.YtiopfihjmkfdmaaGreatDoor
namespace Go.Proofs.YtiopfihjmkfdmaaGreatDoor
open Go.ChangeShapes Go.WideShapes Go.ChangeAt Go.RowKit
set_option maxRecDepth 100000
theorem gOpp:Tryz.prog.globalNamed "invariants/tree.opposites" = some 4:=by kernel_rfl
theorem gMir:Tryz.prog.globalNamed "invariants/tree.mirrors" = some 3:=by kernel_rfl
theorem tOpp:(Tryz.prog.globals[4]?).map (·.type)=some 403:=by kernel_rfl
theorem tMir:(Tryz.prog.globals[3]?).map (·.type)=some 403:=by kernel_rfl
theorem laid3_of {W:World} (h:laidMetH Tryz.prog Rows.straightRow.laid W):Laid2 W∧Turns W:=by
 have h':laidMet Tryz.prog [("invariants/tree.opSigns", Rows.laid_invariants_tree_opSigns),("invariants/tree.relationSigns", Rows.laid_invariants_tree_relationSigns),("invariants/tree.opposites", Rows.laid_invariants_tree_opposites),("invariants/tree.mirrors", Rows.laid_invariants_tree_mirrors),("math/bits.deBruijn32tab", Rows.laid_math_bits_deBruijn32tab),("math/bits.deBruijn64tab", Rows.laid_math_bits_deBruijn64tab),("internal/strconv.uint64pow10", Rows.laid_internal_strconv_uint64pow10),("strconv.ErrRange", Rows.laid_strconv_ErrRange),("strconv.ErrSyntax", Rows.laid_strconv_ErrSyntax)] W∧handlesMet Tryz.prog [("errors.errorType", Rows.laid_errors_errorType)] W:=h
 obtain ⟨⟨ps,⟨g0,t0,c0,f0,p0,q0,hg0,ht0,hv0,hd0,⟨g1,t1,c1,f1,p1,q1,hg1,ht1,hv1,hd1,⟨g2,t2,c2,f2,p2,q2,hg2,ht2,hv2,hd2,⟨g3,t3,c3,f3,p3,q3,hg3,ht3,hv3,hd3,⟨g4,t4,c4,f4,p4,q4,hg4,ht4,hv4,hd4,⟨g5,t5,c5,f5,p5,q5,hg5,ht5,hv5,hd5,⟨g6,t6,c6,f6,p6,q6,hg6,ht6,hv6,hd6,⟨g7,t7,c7,f7,p7,q7,hg7,ht7,hv7,hd7,⟨g8,t8,c8,f8,p8,q8,hg8,ht8,hv8,hd8,_,_⟩,_⟩,_⟩,_⟩,_⟩,_⟩,_⟩,_⟩,_⟩,_,_⟩,hh⟩:=h'
 obtain rfl:=Option.some.inj (gOps.symm.trans hg0)
 obtain rfl:=Option.some.inj (tOps.symm.trans ht0)
 obtain rfl:=Option.some.inj (gRels.symm.trans hg1)
 obtain rfl:=Option.some.inj (tRels.symm.trans ht1)
 obtain rfl:=Option.some.inj (gOpp.symm.trans hg2)
 obtain rfl:=Option.some.inj (tOpp.symm.trans ht2)
 obtain rfl:=Option.some.inj (gMir.symm.trans hg3)
 obtain rfl:=Option.some.inj (tMir.symm.trans ht3)
 obtain rfl:=Option.some.inj (gPow.symm.trans hg6)
 obtain rfl:=Option.some.inj (tPow.symm.trans ht6)
 obtain rfl:=Option.some.inj (gErrR.symm.trans hg7)
 obtain rfl:=Option.some.inj (tErrR.symm.trans ht7)
 obtain rfl:=Option.some.inj (gErrS.symm.trans hg8)
 obtain rfl:=Option.some.inj (tErrS.symm.trans ht8)
 have kR:∃ tp p,W.cell? ⟨10,0,none⟩=some (.iface tp p):=by
  obtain ⟨_,u,v,hc,_,_⟩:=iface_of_trod Tryz.underlying23 hd7
  exact ⟨u,v,by rw [World.var?_cell hg7 hv7 0,Array.eq_one_of_toList hc]; rfl⟩
 have kS:∃ tp p,W.cell? ⟨9,0,none⟩=some (.iface tp p):=by
  obtain ⟨_,u,v,hc,_,_⟩:=iface_of_trod Tryz.underlying23 hd8
  exact ⟨u,v,by rw [World.var?_cell hg8 hv8 0,Array.eq_one_of_toList hc]; rfl⟩
 have hcO:=Lib.cells_of_tab (zs:=[4,5,3,2,0,1]) Tryz.underlying403 Tryz.underlying230 (by kernel_rfl) (by kernel_rfl) hd2
 have hcM:=Lib.cells_of_tab (zs:=[5,4,2,3,1,0]) Tryz.underlying403 Tryz.underlying230 (by kernel_rfl) (by kernel_rfl) hd3
 refine ⟨⟨⟨?_,?_,?_,kS,kR,?_⟩,?_⟩,⟨?_,?_⟩⟩
 ·obtain ⟨_,_,hc⟩:=kR
  obtain ⟨_,_,hc'⟩:=kS
  have:=cell_lt hc
  have:=cell_lt hc'
  simp at *
  omega
 ·intro k hk
  have:=strs_of_trod (ss:=[[43],[45],[42],[47],[37]]) Tryz.underlying272 Tryz.underlying9 (by kernel_rfl) hd0 k (Sp.opSign k) (by
   match k,hk with
   | 0,_=>rfl
   | 1,_=>rfl
   | 2,_=>rfl
   | 3,_=>rfl
   | 4,_=>rfl)
  rw [World.var?_cell hg0 hv0 k,← this]; simp
 ·intro k hk
  have:=strs_of_trod (ss:=[[60],[60,61],[61,61],[33,61],[62,61],[62]]) Tryz.underlying273 Tryz.underlying9 (by kernel_rfl) hd1 k (Sp.relSign k) (by
   match k,hk with
   | 0,_=>rfl
   | 1,_=>rfl
   | 2,_=>rfl
   | 3,_=>rfl
   | 4,_=>rfl
   | 5,_=>rfl)
  rw [World.var?_cell hg1 hv1 k,← this]; simp
 ·unfold Lib.TabIs
  rw [hv6,← Lib.cells_of_tab (zs:=Lib.pow10Tab) Tryz.underlying423 Tryz.underlying416 (by kernel_rfl) (by kernel_rfl) hd6]
 ·obtain ⟨name,u,ty,e1,e2,e3,e4,e5⟩:=hh _ (List.mem_singleton.2 rfl)
  have en:name=[101,114,114,111,114]:=(Option.some.inj e1).symm
  subst en
  obtain rfl:=Option.some.inj (rtOf.symm.trans e2)
  have hm:ty ∈ (List.range 487).filter fun t=>Tryz.prog.rowNamed t [101,114,114,111,114]:=List.mem_filter.2 ⟨List.mem_range.2 (by rw [← tSize]; exact e3),e4⟩
  rw [oneRow] at hm
  obtain rfl:=List.mem_singleton.1 hm
  have hh:typeHandle Tryz.prog 23=.pointer (some ⟨11,23,none⟩):=by kernel_rfl
  rw [hh] at e5
  show W.cell? _=_
  simpa using World.var?_cell gET e5 0
 ·intro k hk
  rw [World.var?_cell hg3 hv3 k,← Array.getElem?_toList,hcM]
  match k,hk with
  | 0,_=>rfl
  | 1,_=>rfl
  | 2,_=>rfl
  | 3,_=>rfl
  | 4,_=>rfl
  | 5,_=>rfl
 ·intro k hk
  rw [World.var?_cell hg2 hv2 k,← Array.getElem?_toList,hcO]
  match k,hk with
  | 0,_=>rfl
  | 1,_=>rfl
  | 2,_=>rfl
  | 3,_=>rfl
  | 4,_=>rfl
  | 5,_=>rfl
theorem door_met3 (os:Os) (args:Array Value):laidMetH Tryz.prog Rows.straightRow.laid ((World.doorLaid Tryz.prog 400 os).forCall (fun _ _=>0) ⟨#[],args,[]⟩).memory :=
 laidMetH_of_parts3 (fuel:=8) (laidMet_of_run' 8 (by kernel_rfl) (by kernel_rfl)) (by kernel_rfl) (by kernel_rfl)
end Go.Proofs.YtiopfihjmkfdmaaGreatDoor
