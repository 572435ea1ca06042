/-
  'fulling/fullinglaw6.InterpTraps': its runs.
-/
import Derived.Test.YtcjolamfjgdgjaaGreatDoorInterpTrapsLit
namespace Go.Proofs.YtcjolamfjgdgjaaGreatDoor
theorem interpTraps_cB0 (a0 a1 a2 x y : Int) (hr : Ev.Rng.ok ⟨0, 1000000, 1, 8⟩ x y) : interpTrapsCheck (Ev.linSyms [a0, a1, a2] ⟨0, 1000000, 1, 8⟩ x y hr) = true := by kernel_rfl
theorem interpTraps_rB0 (a0 a1 a2 x y : Int) (hr : Ev.Rng.ok ⟨0, 1000000, 1, 8⟩ x y) : interpTrapsSays (Ev.linSyms [a0, a1, a2] ⟨0, 1000000, 1, 8⟩ x y hr) (Ev.quiet (Ev.vOrcOf 10 4 [(0, 9, .chan (some 18)), (1, 1000001, .chan (some 272)), (2, 12, .int .i64 0)])) [.chan (some 0), .chan (some 1), .chan (some 2)] = true := by kernel_rfl
theorem interpTraps_cB1 (a0 a1 a2 x y : Int) (hr : Ev.Rng.ok ⟨0, 1000000, 2, 8⟩ x y) : interpTrapsCheck (Ev.linSyms [a0, a1, a2] ⟨0, 1000000, 2, 8⟩ x y hr) = true := by kernel_rfl
theorem interpTraps_rB1 (a0 a1 a2 x y : Int) (hr : Ev.Rng.ok ⟨0, 1000000, 2, 8⟩ x y) : interpTrapsSays (Ev.linSyms [a0, a1, a2] ⟨0, 1000000, 2, 8⟩ x y hr) (Ev.quiet (Ev.vOrcOf 10 4 [(0, 9, .chan (some 18)), (1, 1000001, .chan (some 272)), (2, 12, .int .i64 1)])) [.chan (some 0), .chan (some 1), .chan (some 2)] = true := by kernel_rfl
theorem interpTraps_cB2 (a0 a1 a2 x y : Int) (hr : Ev.Rng.ok ⟨0, 1000000, 3, 8⟩ x y) : interpTrapsCheck (Ev.linSyms [a0, a1, a2] ⟨0, 1000000, 3, 8⟩ x y hr) = true := by kernel_rfl
theorem interpTraps_rB2 (a0 a1 a2 x y : Int) (hr : Ev.Rng.ok ⟨0, 1000000, 3, 8⟩ x y) : interpTrapsSays (Ev.linSyms [a0, a1, a2] ⟨0, 1000000, 3, 8⟩ x y hr) (Ev.quiet (Ev.vOrcOf 10 4 [(0, 9, .chan (some 18)), (1, 1000001, .chan (some 272)), (2, 12, .int .i64 2)])) [.chan (some 0), .chan (some 1), .chan (some 2)] = true := by kernel_rfl
theorem interpTraps_cB3 (a0 a1 a2 x y : Int) (hr : Ev.Rng.ok ⟨0, 1000000, 4, 8⟩ x y) : interpTrapsCheck (Ev.linSyms [a0, a1, a2] ⟨0, 1000000, 4, 8⟩ x y hr) = true := by kernel_rfl
theorem interpTraps_rB3 (a0 a1 a2 x y : Int) (hr : Ev.Rng.ok ⟨0, 1000000, 4, 8⟩ x y) : interpTrapsSays (Ev.linSyms [a0, a1, a2] ⟨0, 1000000, 4, 8⟩ x y hr) (Ev.quiet (Ev.vOrcOf 10 4 [(0, 9, .chan (some 18)), (1, 1000001, .chan (some 272)), (2, 12, .int .i64 3)])) [.chan (some 0), .chan (some 1), .chan (some 2)] = true := by kernel_rfl
theorem interpTraps_cB4 (a0 a1 a2 x y : Int) (hr : Ev.Rng.ok ⟨0, 1000000, 5, 8⟩ x y) : interpTrapsCheck (Ev.linSyms [a0, a1, a2] ⟨0, 1000000, 5, 8⟩ x y hr) = true := by kernel_rfl
theorem interpTraps_rB4 (a0 a1 a2 x y : Int) (hr : Ev.Rng.ok ⟨0, 1000000, 5, 8⟩ x y) : interpTrapsSays (Ev.linSyms [a0, a1, a2] ⟨0, 1000000, 5, 8⟩ x y hr) (Ev.quiet (Ev.vOrcOf 10 4 [(0, 9, .chan (some 18)), (1, 1000001, .chan (some 272)), (2, 12, .int .i64 4)])) [.chan (some 0), .chan (some 1), .chan (some 2)] = true := by kernel_rfl
theorem interpTraps_cB5 (a0 a1 a2 x y : Int) (hr : Ev.Rng.ok ⟨0, 1000000, 6, 8⟩ x y) : interpTrapsCheck (Ev.linSyms [a0, a1, a2] ⟨0, 1000000, 6, 8⟩ x y hr) = true := by kernel_rfl
theorem interpTraps_rB5 (a0 a1 a2 x y : Int) (hr : Ev.Rng.ok ⟨0, 1000000, 6, 8⟩ x y) : interpTrapsSays (Ev.linSyms [a0, a1, a2] ⟨0, 1000000, 6, 8⟩ x y hr) (Ev.quiet (Ev.vOrcOf 10 4 [(0, 9, .chan (some 18)), (1, 1000001, .chan (some 272)), (2, 12, .int .i64 5)])) [.chan (some 0), .chan (some 1), .chan (some 2)] = true := by kernel_rfl
theorem interpTraps_cB6 (a0 a1 a2 x y : Int) (hr : Ev.Rng.ok ⟨0, 1000000, 7, 8⟩ x y) : interpTrapsCheck (Ev.linSyms [a0, a1, a2] ⟨0, 1000000, 7, 8⟩ x y hr) = true := by kernel_rfl
theorem interpTraps_rB6 (a0 a1 a2 x y : Int) (hr : Ev.Rng.ok ⟨0, 1000000, 7, 8⟩ x y) : interpTrapsSays (Ev.linSyms [a0, a1, a2] ⟨0, 1000000, 7, 8⟩ x y hr) (Ev.quiet (Ev.vOrcOf 10 4 [(0, 9, .chan (some 18)), (1, 1000001, .chan (some 272)), (2, 12, .int .i64 6)])) [.chan (some 0), .chan (some 1), .chan (some 2)] = true := by kernel_rfl
theorem interpTraps_cB7 (a0 a1 a2 x y : Int) (hr : Ev.Rng.ok ⟨0, 1000000, 8, 8⟩ x y) : interpTrapsCheck (Ev.linSyms [a0, a1, a2] ⟨0, 1000000, 8, 8⟩ x y hr) = true := by kernel_rfl
theorem interpTraps_rB7 (a0 a1 a2 x y : Int) (hr : Ev.Rng.ok ⟨0, 1000000, 8, 8⟩ x y) : interpTrapsSays (Ev.linSyms [a0, a1, a2] ⟨0, 1000000, 8, 8⟩ x y hr) (Ev.quiet (Ev.vOrcOf 10 4 [(0, 9, .chan (some 18)), (1, 1000001, .chan (some 272)), (2, 12, .int .i64 7)])) [.chan (some 0), .chan (some 1), .chan (some 2)] = true := by kernel_rfl
end Go.Proofs.YtcjolamfjgdgjaaGreatDoor
