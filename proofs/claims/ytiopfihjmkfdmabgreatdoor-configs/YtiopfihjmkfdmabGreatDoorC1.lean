import Derived.Test.YtiopfihjmkfdmabGreatDoorC14
import Derived.LaidHandle
import Derived.LaidLaws
import Derived.LaidMore
import Derived.OpenShut
import Derived.ProofKit
import Derived.Stop.Joined
import Derived.Test.YtiopfihjmkfdmabGreatDoorRows
namespace Go.Proofs.YtiopfihjmkfdmabGreatDoor
open Go.Value renaming agg->J,int->I,pointer->ρ,iface->σ,bool->U,tuple->φ
open Option renaming none->M,some->Y
open Go.Obj renaming cells->L
open Go.IntKind renaming i64->O
open Go.Ending renaming returned->υ
open Go.Proofs.Tryz Sp
open Go.RowKit
open Go.Proofs.Tryz
set_option maxRecDepth 100000
set_option maxHeartbeats 16000000
theorem bool_and{a b:Bool}(h:a=true)(k:b=true):(a&&b)=true:=by rw[h,k];rfl
theorem ľ:laidOutB prog=true:=by kernel_rfl
theorem Ĵ:mapsRowed prog=true:=by kernel_rfl
theorem ĵ:(prog.stops==[])=true:=by kernel_rfl
theorem ĭ:(prog.stopKnobs==[])=true:=by kernel_rfl
theorem ġ:prog.stopsHeard=true:=by kernel_rfl
theorem ĳ:prog.mayEnter=true:=by kernel_rfl
theorem Ħ:(false==prog.plainKeys)=true:=by kernel_rfl
theorem ħ{P:Program}{f:FuncId}{fn:Func}{s:ChangeSpec}{c:OpenClaim}
  (k1:c.wf (OpenSpec.ofChange s)=true) (k2:laidOutB P=true) (k3:mapsRowed P=true)
  (k4:fn.params.all (P.readableRec ·)=true) (k5:namedTie P c.named s.vars=true)
  (k6:(c.stops==[])=true) (k7:(P.stops==[])=true) (k8:(c.knobs==[])=true) (k9:(P.stopKnobs==[])=true)
  (Jh:(c.inPlace==P.inPlace f)=true) (xV:(c.unfollowed==P.unfollowed f)=true) (kV:(c.recurses==P.recurses f)=true) (oN:(c.named==P.varsNamed f)=true)
  (mN:(c.maps==(fn.params.toList++s.plain.varTypes P).any (P.mapsRec ·))=true) (k15:(c.ifaces==(fn.params.toList++s.plain.varTypes P).any (P.ifacesRec ·))=true) (Uh:(c.mapsOut==P.mapsAmong fn.resultTypes.toList)=true)
  (k17:(c.loops==(fn.params.toList++s.plain.varTypes P).any (P.loopsFrom ·))=true) (acn:(c.wideKeys==(fn.params.toList++s.plain.varTypes P++fn.resultTypes.toList).any (P.wideKeysFrom ·))=true)
  (IZ:s.vars.all (P.varReadable ·)=true) (k19:fn.resultTypes.all (λt=>P.readableRec t&&decide (t<P.types.size))=true) (k20:(c.ifacesOut==fn.resultTypes.toList.any (P.ifacesRec ·))=true) (k21:(c.loopsOut==fn.resultTypes.toList.any (P.loopsFrom ·))=true) (k22:(c.plainKeys==P.plainKeys)=true) (k23:c.shortTexts.isNone=true) (acq:P.stopsHeard=true) (k24:P.mayEnter=true) (acp:(c.lifted==P.liftsFinal)=true) (aco:(P.make==Y c.make)=true)
  (k25:(c.kinds==(if c.domain.isEmpty then [] else fn.params.toList.map λt=>match P.underlying t with|some (.int k)=>Y k|_=>M))=true) (k26:(c.pinned==c.pinnedBy)=true)
  (k27:(c.veiled==(fn.params.toList++s.plain.varTypes P++fn.resultTypes.toList).any (P.veiledRec ·))=true) (k28:c.veiledFits P fn.params.toList (fn.params.toList++s.plain.varTypes P++fn.resultTypes.toList)=true):joinedFacts P f fn s c=true:=by
 unfold joinedFacts;exact bool_and (bool_and (bool_and (bool_and (bool_and (bool_and (bool_and (bool_and (bool_and (bool_and (bool_and (bool_and (bool_and (bool_and (bool_and (bool_and (bool_and (bool_and (bool_and (bool_and (bool_and (bool_and (bool_and (bool_and (bool_and (bool_and (bool_and (bool_and (bool_and (bool_and (bool_and k1 k2) k3) k4) k5) k6) k7) k8) k9) Jh) xV) kV) oN) mN) k15) Uh) k17) acn) IZ) k19) k20) k21) k22) k23) acq) k24) acp) aco) k25) k26) k27) k28
section
open Go.ChangeShapes Go.WideShapes Go.ChangeAt Go.RowKit
theorem own:ownKnob prog.godebug=M:=Ã
theorem Ĕ:prog.globalNamed "errors.errorType" = Y 0:=Ã
theorem Ē:prog.globalNamed "invariants/tree.opSigns" = Y 1:=Ã
theorem ĉ:prog.globalNamed "invariants/tree.relationSigns" = Y 2:=Ã
theorem ě:prog.globalNamed "internal/strconv.uint64pow10" = Y 6:=Ã
theorem Ď:prog.globalNamed "strconv.ErrRange" = Y 10:=Ã
theorem Ć:prog.globalNamed "strconv.ErrSyntax" = Y 9:=Ã
theorem ċ:(prog.globals[1]?).map (·.type)=Y 269:=Ã
theorem Ĝ:(prog.globals[2]?).map (·.type)=Y 270:=Ã
theorem Č:(prog.globals[6]?).map (·.type)=Y 415:=Ã
theorem ć:(prog.globals[10]?).map (·.type)=Y 35:=Ã
theorem Ě:(prog.globals[9]?).map (·.type)=Y 35:=Ã
theorem č:(prog.cutTypes.find? (·.1=="internal/reflectlite.rtype")).map (·.2)=Y 241:=Ã
theorem Đ:((List.range 480).filter λt=>prog.rowNamed t [101,114,114,111,114])=[35]:=Ã
theorem ē:prog.types.size=480:=Ã
theorem i7{H:Type}{enc:TypeId × Value->H}{P:Program}{w:Wd}{base:Nat}{sp:Nat->Bool}{held:Bool}{fuel:Nat}{t e:TypeId}{n:Nat}{cs:List Value}{ss:List (List UInt8)}{p:List MemPlace}
  (ht:P.underlying t=Y (.array n e)) (he:P.underlying e=Y .string) (hce:P.cellsOf e=1)
  (h:DataW.trod enc P w base sp held fuel t cs=Y (.agg (ss.map λs=>.lit (.string s)),p)) (k:Nat) (s:List UInt8) (hk:ss[k]?=Y s):cs[k]?=Y (.string ⟨s.toArray⟩):=by
 obtain⟨xs,m,rfl,hx,_,hxl,Nb⟩:=DataW.trod_array ht h;simp only[ñ,DataW.agg.injEq]at hx;have hlen:=Ë List.length hx.1;simp at hlen;have hkl:k<ss.length:=by
  rcases æ k ss.length with q|q
  .exact q
  .rw[ė q]at hk;cases hk
 have hxk:k<xs.length:=À;have h1:=Nb k À;rw[Î hxk,hce]at h1;obtain⟨s',hc,hv,_⟩:=DataW.trod_string he h1;have h2:(xs.map (·.1))[k]?=Y (DataW.lit (.string s'.data.toList)):=by simp[Î hxk,hv]
 rw[<-hx.1]at h2;simp[hk]at h2;have h3:cs[k]?=Y (.string s'):=by have:=Ë (·[0]?) hc;simpa[List.getElem?_take,List.getElem?_drop] using this
 rw[h3,h2]
end
section
open Go.ChangeShapes Go.WideShapes Go.ChangeAt Go.RowKit
theorem ĩ:prog.globalNamed "invariants/tree.opposites" = Y 4:=Ã
theorem Ľ:prog.globalNamed "invariants/tree.mirrors" = Y 3:=Ã
theorem Ķ:(prog.globals[4]?).map (·.type)=Y 392:=Ã
theorem Ĩ:(prog.globals[3]?).map (·.type)=Y 392:=Ã
theorem Ĭ{W:Wd}(h:laidMetH prog Rows.configsRow.laid W):rA W/\gI W:=by
 have h':laidMet prog [("invariants/tree.opSigns", Rows.laid_invariants_tree_opSigns),("invariants/tree.relationSigns", Rows.laid_invariants_tree_relationSigns),("invariants/tree.opposites", Rows.laid_invariants_tree_opposites),("invariants/tree.mirrors", Rows.laid_invariants_tree_mirrors),("math/bits.deBruijn32tab", Rows.laid_math_bits_deBruijn32tab),("math/bits.deBruijn64tab", Rows.laid_math_bits_deBruijn64tab),("internal/strconv.uint64pow10", Rows.laid_internal_strconv_uint64pow10),("strconv.ErrRange", Rows.laid_strconv_ErrRange),("strconv.ErrSyntax", Rows.laid_strconv_ErrSyntax)] W/\handlesMet prog [("errors.errorType", Rows.laid_errors_errorType)] W:=h;obtain⟨⟨ps,⟨g0,t0,c0,f0,p0,q0,hg0,I8,hv0,Zl,⟨g1,t1,c1,f1,p1,q1,Ug,ht1,hv1,X7,⟨g2,t2,c2,f2,p2,q2,AH,ht2,hv2,Yk,⟨g3,t3,c3,f3,p3,q3,I3,ht3,hv3,hd3,⟨g4,t4,c4,f4,p4,q4,XS,ht4,hv4,hd4,⟨g5,t5,c5,f5,p5,q5,TV,ht5,Uz,hd5,⟨g6,t6,c6,f6,p6,q6,hg6,ht6,hv6,hd6,⟨g7,t7,c7,f7,p7,q7,hg7,ht7,hv7,hd7,⟨g8,t8,c8,f8,p8,q8,hg8,ht8,ML,hd8,_,_⟩,_⟩,_⟩,_⟩,_⟩,_⟩,_⟩,_⟩,_⟩,_,_⟩,hh⟩:=h';obtain rfl:=Ï (Ē.symm.trans hg0);obtain rfl:=Ï (ċ.symm.trans I8);obtain rfl:=Ï (ĉ.symm.trans Ug);obtain rfl:=Ï (Ĝ.symm.trans ht1);obtain rfl:=Ï (ĩ.symm.trans AH);obtain rfl:=Ï (Ķ.symm.trans ht2);obtain rfl:=Ï (Ľ.symm.trans I3);obtain rfl:=Ï (Ĩ.symm.trans ht3);obtain rfl:=Ï (ě.symm.trans hg6);obtain rfl:=Ï (Č.symm.trans ht6);obtain rfl:=Ï (Ď.symm.trans hg7);obtain rfl:=Ï (ć.symm.trans ht7);obtain rfl:=Ï (Ć.symm.trans hg8);obtain rfl:=Ï (Ě.symm.trans ht8);have kR:∃tp p,W.cell? ⟨10,0,M⟩=Y (σ tp p):=by obtain⟨_,u,v,hc,_,_⟩:=iface_of_trod underlying35 hd7;exact⟨u,v,by rw[Þ hg7 hv7 0,Array.eq_one_of_toList hc];rfl⟩
 have kS:∃tp p,W.cell? ⟨9,0,M⟩=Y (σ tp p):=by obtain⟨_,u,v,hc,_,_⟩:=iface_of_trod underlying35 hd8;exact⟨u,v,by rw[Þ hg8 ML 0,Array.eq_one_of_toList hc];rfl⟩
 have hcO:=Lib.cells_of_tab (zs:=[4,5,3,2,0,1]) underlying392 underlying229 Ã Ã Yk;have hcM:=Lib.cells_of_tab (zs:=[5,4,2,3,1,0]) underlying392 underlying229 Ã Ã hd3;refine⟨⟨⟨?_,?_,?_,kS,kR,?_⟩,?_⟩,⟨?_,?_⟩⟩
 .obtain⟨_,_,hc⟩:=kR
  obtain⟨_,_,Ti⟩:=kS;have:=tC hc;have:=tC Ti;simp at*;omega
 .intro k hk
  have:=i7 (ss:=[[43],[45],[42],[47],[37]]) underlying269 underlying9 Ã Zl k (bB k) (by
   match k,hk with
   |0,_=>rfl
   |1,_=>rfl
   |2,_=>rfl
   |3,_=>rfl
   |4,_=>rfl)
  rw[Þ hg0 hv0 k,<-this];simp
 .intro k hk
  have:=i7 (ss:=[[60],[60,61],[61,61],[33,61],[62,61],[62]]) underlying270 underlying9 Ã X7 k (aM k) (by
   match k,hk with
   |0,_=>rfl
   |1,_=>rfl
   |2,_=>rfl
   |3,_=>rfl
   |4,_=>rfl
   |5,_=>rfl)
  rw[Þ Ug hv1 k,<-this];simp
 .unfold Lib.TabIs
  rw[hv6,<-Lib.cells_of_tab (zs:=Lib.pow10Tab) underlying415 underlying408 Ã Ã hd6]
 .obtain⟨name,u,ty,e1,e2,e3,e4,e5⟩:=hh _ (Ö.2 rfl)
  have en:name=[101,114,114,111,114]:=(Ï e1).symm;subst en;obtain rfl:=Ï (č.symm.trans e2);have hm:ty∈(List.range 480).filter λt=>prog.rowNamed t [101,114,114,111,114]:=List.mem_filter.2 ⟨List.mem_range.2 (by rw[<-ē];exact e3),e4⟩
  rw[Đ]at hm;obtain rfl:=Ö.1 hm;have hh:typeHandle prog 35=ρ (Y ⟨11,35,M⟩):=Ã;rw[hh]at e5;show W.cell? _=_;simpa using Þ Ĕ e5 0
 .intro k hk
  rw[Þ I3 hv3 k,<-Ý,hcM]
  match k,hk with
  |0,_=>rfl
  |1,_=>rfl
  |2,_=>rfl
  |3,_=>rfl
  |4,_=>rfl
  |5,_=>rfl
 .intro k hk
  rw[Þ AH hv2 k,<-Ý,hcO]
  match k,hk with
  |0,_=>rfl
  |1,_=>rfl
  |2,_=>rfl
  |3,_=>rfl
  |4,_=>rfl
  |5,_=>rfl
theorem Ģ(os:Os)(args:Array Value):laidMetH prog Rows.configsRow.laid ((World.doorLaid prog 400 os).forCall (λ_ _=>0) ⟨#[],args,[]⟩).memory:=
 laidMetH_of_parts3 (fuel:=8) (laidMet_of_run' 8 Ã Ã) Ã Ã
end
end Go.Proofs.YtiopfihjmkfdmabGreatDoor
