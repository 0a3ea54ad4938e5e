import Derived.ProofKit
import Derived.Test.YtiopfihjmkfdmaaGreatDoorRows
namespace Go.Proofs.YtiopfihjmkfdmaaGreatDoor
open Go.Proofs.Tryz
open Go.RowKit
set_option maxRecDepth 100000
set_option maxHeartbeats 16000000
theorem bool_and{a b:Bool}(h:a=true)(k:b=true):(a && b)=true:=by rw[h,k];rfl
theorem J6:laidOutB prog=true:=by kernel_rfl
theorem BY:mapsRowed prog=true:=by kernel_rfl
theorem Oq:(prog.stops == [])=true:=by kernel_rfl
theorem PD:(prog.stopKnobs == [])=true:=by kernel_rfl
theorem O5:prog.stopsHeard=true:=by kernel_rfl
theorem PG:prog.mayEnter=true:=by kernel_rfl
theorem Sa:(false == prog.plainKeys)=true:=by kernel_rfl
theorem Jw{P:Program}{f:FuncId}{fn:Func}{s:ChangeSpec}{c:OpenClaim}
  (k1:c.wf (OpenSpec.ofChange s)=true) (k2:laidOutB P=true) (k3:mapsRowed P=true)
  (k4:fn.params.all (P.readableRec ·)=true) (k5:namedTie P c.named s.vars=true)
  (k6:(c.stops == [])=true) (k7:(P.stops == [])=true) (k8:(c.knobs == [])=true) (k9:(P.stopKnobs == [])=true)
  (Ki:(c.inPlace == P.inPlace f)=true) (uR:(c.unfollowed == P.unfollowed f)=true) (lE:(c.recurses == P.recurses f)=true) (mo:(c.named == P.varsNamed f)=true)
  (kX:(c.maps == (fn.params.toList ++ s.plain.varTypes P).any (P.mapsRec ·))=true) (DN:(c.ifaces == (fn.params.toList ++ s.plain.varTypes P).any (P.ifacesRec ·))=true) (N8:(c.mapsOut == P.mapsAmong fn.resultTypes.toList)=true)
  (Wr:(c.loops == (fn.params.toList ++ s.plain.varTypes P).any (P.loopsFrom ·))=true) (aah:(c.wideKeys == (fn.params.toList ++ s.plain.varTypes P ++ fn.resultTypes.toList).any (P.wideKeysFrom ·))=true)
  (DB:s.vars.all (P.varReadable ·)=true) (YF:fn.resultTypes.all (fun t=>P.readableRec t && decide (t<P.types.size))=true) (k20:(c.ifacesOut == fn.resultTypes.toList.any (P.ifacesRec ·))=true) (k21:(c.loopsOut == fn.resultTypes.toList.any (P.loopsFrom ·))=true) (k22:(c.plainKeys == P.plainKeys)=true) (k23:c.shortTexts.isNone=true) (ZH:P.stopsHeard=true) (k24:P.mayEnter=true) (aaj:(c.lifted == P.liftsFinal)=true) (aam:(P.make == some c.make)=true)
  (k25:(c.kinds == (if c.domain.isEmpty then [] else fn.params.toList.map fun t=>match P.underlying t with | some (.int k)=>some k | _=>none))=true) (YI:(c.pinned == c.pinnedBy)=true)
  (k27:(c.veiled == (fn.params.toList ++ s.plain.varTypes P ++ fn.resultTypes.toList).any (P.veiledRec ·))=true) (k28:c.veiledFits P fn.params.toList (fn.params.toList ++ s.plain.varTypes P ++ fn.resultTypes.toList)=true):joinedFacts P f fn s c=true:=by
 unfold joinedFacts;exact bool_and (bool_and (bool_and (bool_and (bool_and (bool_and (bool_and (bool_and (bool_and (bool_and (bool_and (bool_and (bool_and (bool_and (bool_and (bool_and (bool_and (bool_and (bool_and (bool_and (bool_and (bool_and (bool_and (bool_and (bool_and (bool_and (bool_and (bool_and (bool_and (bool_and (bool_and k1 k2) k3) k4) k5) k6) k7) k8) k9) Ki) uR) lE) mo) kX) DN) N8) Wr) aah) DB) YF) k20) k21) k22) k23) ZH) k24) aaj) aam) k25) YI) k27) k28
end Go.Proofs.YtiopfihjmkfdmaaGreatDoor
