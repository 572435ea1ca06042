/-
  'fulling/fullinglaw6.InterpTicks': its runs.
-/
import Derived.Test.YtcjolamfjgdgjaaGreatDoorInterpTicksLit
namespace Go.Proofs.YtcjolamfjgdgjaaGreatDoor
theorem interpTicks_rC3 (a0 a1 a2 x y : Int) (hr : Ev.Rng.ok ⟨4, 11, 0, 4⟩ x y) : interpTicksSays (Ev.linSyms [a0, a1, a2] ⟨4, 11, 0, 4⟩ x y hr) (Ev.quiet (Ev.vOrcOf 10 4 [(0, 12, .chan (some 272)), (1, 16, .int .i64 3), (2, 5, .chan (some 18))])) [.chan (some 0), .chan (some 1), .chan (some 2)] = true := by kernel_rfl
theorem interpTicks_rC4 (a0 a1 a2 x y : Int) (hr : Ev.Rng.ok ⟨5, 11, 0, 4⟩ x y) : interpTicksSays (Ev.linSyms [a0, a1, a2] ⟨5, 11, 0, 4⟩ x y hr) (Ev.quiet (Ev.vOrcOf 10 4 [(0, 12, .chan (some 272)), (1, 16, .int .i64 4), (2, 5, .chan (some 18))])) [.chan (some 0), .chan (some 1), .chan (some 2)] = true := by kernel_rfl
theorem interpTicks_rC5 (a0 a1 a2 x y : Int) (hr : Ev.Rng.ok ⟨6, 11, 0, 4⟩ x y) : interpTicksSays (Ev.linSyms [a0, a1, a2] ⟨6, 11, 0, 4⟩ x y hr) (Ev.quiet (Ev.vOrcOf 10 4 [(0, 12, .chan (some 272)), (1, 16, .int .i64 5), (2, 5, .chan (some 18))])) [.chan (some 0), .chan (some 1), .chan (some 2)] = true := by kernel_rfl
theorem interpTicks_rC6 (a0 a1 a2 x y : Int) (hr : Ev.Rng.ok ⟨7, 11, 0, 4⟩ x y) : interpTicksSays (Ev.linSyms [a0, a1, a2] ⟨7, 11, 0, 4⟩ x y hr) (Ev.quiet (Ev.vOrcOf 10 4 [(0, 12, .chan (some 272)), (1, 16, .int .i64 6), (2, 5, .chan (some 18))])) [.chan (some 0), .chan (some 1), .chan (some 2)] = true := by kernel_rfl
theorem interpTicks_rC7 (a0 a1 a2 x y : Int) (hr : Ev.Rng.ok ⟨8, 11, 0, 4⟩ x y) : interpTicksSays (Ev.linSyms [a0, a1, a2] ⟨8, 11, 0, 4⟩ x y hr) (Ev.quiet (Ev.vOrcOf 10 4 [(0, 12, .chan (some 272)), (1, 16, .int .i64 7), (2, 5, .chan (some 18))])) [.chan (some 0), .chan (some 1), .chan (some 2)] = true := by kernel_rfl
theorem interpTicks_rC8 (a0 a1 a2 x y : Int) (hr : Ev.Rng.ok ⟨9, 11, 0, 4⟩ x y) : interpTicksSays (Ev.linSyms [a0, a1, a2] ⟨9, 11, 0, 4⟩ x y hr) (Ev.quiet (Ev.vOrcOf 10 4 [(0, 12, .chan (some 272)), (1, 16, .int .i64 8), (2, 5, .chan (some 18))])) [.chan (some 0), .chan (some 1), .chan (some 2)] = true := by kernel_rfl
theorem interpTicks_rC9 (a0 a1 a2 x y : Int) (hr : Ev.Rng.ok ⟨10, 11, 0, 4⟩ x y) : interpTicksSays (Ev.linSyms [a0, a1, a2] ⟨10, 11, 0, 4⟩ x y hr) (Ev.quiet (Ev.vOrcOf 10 4 [(0, 12, .chan (some 272)), (1, 16, .int .i64 9), (2, 5, .chan (some 18))])) [.chan (some 0), .chan (some 1), .chan (some 2)] = true := by kernel_rfl
theorem interpTicks_rC10 (a0 a1 a2 x y : Int) (hr : Ev.Rng.ok ⟨11, 11, 0, 4⟩ x y) : interpTicksSays (Ev.linSyms [a0, a1, a2] ⟨11, 11, 0, 4⟩ x y hr) (Ev.quiet (Ev.vOrcOf 10 4 [(0, 12, .chan (some 272)), (1, 16, .int .i64 10), (2, 5, .chan (some 18))])) [.chan (some 0), .chan (some 1), .chan (some 2)] = true := by kernel_rfl
end Go.Proofs.YtcjolamfjgdgjaaGreatDoor
