import Derived.ProofKit
import Derived.Test.YtiopfihjmkfdmaaGreatDoorRows
namespace Go.Proofs.YtiopfihjmkfdmaaGreatDoor
open Option renaming none→M,some→Y
open Go.Proofs.Tryz
open Go.RowKit
set_option maxRecDepth 100000
set_option maxHeartbeats 16000000
theorem bool_and{a b:Bool}(h:a=true)(k:b=true):(a && b)=true:=by rw[h,k];rfl
theorem IE:laidOutB prog=true:=by kernel_rfl
theorem DM:mapsRowed prog=true:=by kernel_rfl
theorem Pe:(prog.stops == [])=true:=by kernel_rfl
theorem OT:(prog.stopKnobs == [])=true:=by kernel_rfl
theorem O9:prog.stopsHeard=true:=by kernel_rfl
theorem OQ:prog.mayEnter=true:=by kernel_rfl
theorem S3:(false == prog.plainKeys)=true:=by kernel_rfl
theorem Jp{P:Program}{f:FuncId}{fn:Func}{s:ChangeSpec}{c:OpenClaim}
  (k1:c.wf (OpenSpec.ofChange s)=true) (k2:laidOutB P=true) (k3:mapsRowed P=true)
  (k4:fn.params.all (P.readableRec ·)=true) (k5:namedTie P c.named s.vars=true)
  (k6:(c.stops == [])=true) (k7:(P.stops == [])=true) (k8:(c.knobs == [])=true) (k9:(P.stopKnobs == [])=true)
  (D2:(c.inPlace == P.inPlace f)=true) (uz:(c.unfollowed == P.unfollowed f)=true) (jF:(c.recurses == P.recurses f)=true) (mF:(c.named == P.varsNamed f)=true)
  (lC:(c.maps == (fn.params.toList ++ s.plain.varTypes P).any (P.mapsRec ·))=true) (Eb:(c.ifaces == (fn.params.toList ++ s.plain.varTypes P).any (P.ifacesRec ·))=true) (OF:(c.mapsOut == P.mapsAmong fn.resultTypes.toList)=true)
  (XH:(c.loops == (fn.params.toList ++ s.plain.varTypes P).any (P.loopsFrom ·))=true) (aav:(c.wideKeys == (fn.params.toList ++ s.plain.varTypes P ++ fn.resultTypes.toList).any (P.wideKeysFrom ·))=true)
  (D1:s.vars.all (P.varReadable ·)=true) (Yc:fn.resultTypes.all (fun t=>P.readableRec t && decide (t<P.types.size))=true) (k20:(c.ifacesOut == fn.resultTypes.toList.any (P.ifacesRec ·))=true) (k21:(c.loopsOut == fn.resultTypes.toList.any (P.loopsFrom ·))=true) (k22:(c.plainKeys == P.plainKeys)=true) (k23:c.shortTexts.isNone=true) (aac:P.stopsHeard=true) (k24:P.mayEnter=true) (aau:(c.lifted == P.liftsFinal)=true) (aap:(P.make == Y c.make)=true)
  (k25:(c.kinds == (if c.domain.isEmpty then [] else fn.params.toList.map fun t=>match P.underlying t with | some (.int k)=>Y k | _=>M))=true) (YH:(c.pinned == c.pinnedBy)=true)
  (k27:(c.veiled == (fn.params.toList ++ s.plain.varTypes P ++ fn.resultTypes.toList).any (P.veiledRec ·))=true) (k28:c.veiledFits P fn.params.toList (fn.params.toList ++ s.plain.varTypes P ++ fn.resultTypes.toList)=true):joinedFacts P f fn s c=true:=by
 unfold joinedFacts;exact bool_and (bool_and (bool_and (bool_and (bool_and (bool_and (bool_and (bool_and (bool_and (bool_and (bool_and (bool_and (bool_and (bool_and (bool_and (bool_and (bool_and (bool_and (bool_and (bool_and (bool_and (bool_and (bool_and (bool_and (bool_and (bool_and (bool_and (bool_and (bool_and (bool_and (bool_and k1 k2) k3) k4) k5) k6) k7) k8) k9) D2) uz) jF) mF) lC) Eb) OF) XH) aav) D1) Yc) k20) k21) k22) k23) aac) k24) aau) aap) k25) YH) k27) k28
end Go.Proofs.YtiopfihjmkfdmaaGreatDoor
