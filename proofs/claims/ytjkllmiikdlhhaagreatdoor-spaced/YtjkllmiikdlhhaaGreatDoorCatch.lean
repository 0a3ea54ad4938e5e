/- (reader) Program's deferred function. -/
import Derived.Test.YtjkllmiikdlhhaaGreatDoorProg1
import Derived.Defers
import Derived.Recover
namespace Go.Proofs.YtjkllmiikdlhhaaGreatDoor
open Go.RowKit
set_option maxRecDepth 100000
set_option maxHeartbeats 400000

theorem catch_idle (p q : Addr) (w : World) :
    CallsD Tryz.prog 19 #[.pointer (some p), .pointer (some q)] .returning w fun e u' w' => e = .returned (.tuple #[]) ∧ u' = .returning ∧ w' = w := by
  refine callsD_of_wpS Tryz.func19 rfl fun c₀ cs hu => ?_
  apply wpS_seq
  apply wpS_region
  simp [wpOpsS, go_sem, recoverD, hu, Tryz.ntmps19, Exit.thenS]
  refine wpS_of_wp ?_
  go_wp2_with fail
  cases c₀
  simp_all [bodyPostS, results, Tryz.results19]

theorem assert_fault (a : Addr) (w : World) : (Instr.typeAssert (.iface 40 (.pointer (some a))) 20 40 true).run Tryz.prog w = .ok (.tuple #[.pointer (some a), .bool true]) w := by kernel_rfl

theorem catch_panicking (p q : Addr) (a : Addr) (w : World) (hp : w.cell? p = some (.slice none 0 0)) (fp : w.frozen? p = false) (hq : w.cell? q = some .nilIface) (fq : w.frozen? q = false) (hpq : p.block ≠ q.block) :
    CallsD Tryz.prog 19 #[.pointer (some p), .pointer (some q)] (.panicking [{ v := .iface 40 (.pointer (some a)), recovered := false }]) w fun e u' w' =>
      e = .returned (.tuple #[]) ∧ u' = .panicking [{ v := .iface 40 (.pointer (some a)), recovered := true }] ∧ w' = (w.setCell p (.slice none 0 0)).setCell q (.iface 40 (.pointer (some a))) := by
  have hta := assert_fault a
  have hq2 : (w.setCell p (.slice none 0 0)).cell? q = some .nilIface := by
    rw [World.cell?_of_block (w := w) (Below.heap_setCell _ _ _ _ (fun e => hpq e.symm))]; exact hq
  have fq2 : (w.setCell p (.slice none 0 0)).frozen? q = false := by
    rw [World.frozen?_of_block (w := w) (Below.heap_setCell _ _ _ _ (fun e => hpq e.symm))]; exact fq
  refine callsD_of_wpS Tryz.func19 rfl fun c₀ cs hu => ?_
  apply wpS_seq
  apply wpS_region
  simp [wpOpsS, go_sem, recoverD, hu, Tryz.ntmps19, Exit.thenS]
  refine wpS_of_wp ?_
  change Code.wp _ _ _ { tmps := #[.pointer (some p), .pointer (some q), undef, undef, undef, .iface 40 (.pointer (some a)), undef, undef, undef, undef, undef, undef, undef], defers := [] } _
  go_wp2_with fail
  simp [bodyPostS, results, Tryz.results19]

end Go.Proofs.YtjkllmiikdlhhaaGreatDoor
