/-
  'fulling/fullinglaw6.InterpLaziness': its runs.
-/
import Derived.Test.YtcjolamfjgdgjaaGreatDoorInterpLazinessLit
namespace Go.Proofs.YtcjolamfjgdgjaaGreatDoor
theorem interpLaziness_rAfalse (x y : Int) (hr : Ev.Rng.ok ⟨(-9223372036854775808), (-1), (-9223372036854775808), 9223372036854775807⟩ x y) : interpLazinessSays (Ev.linSyms [] ⟨(-9223372036854775808), (-1), (-9223372036854775808), 9223372036854775807⟩ x y hr) (Ev.quiet (Ev.vOrcOf 10 4 [])) [.chan (some 272), .chan (some 18), .bool false] = true := by kernel_rfl
theorem interpLaziness_rAtrue (x y : Int) (hr : Ev.Rng.ok ⟨(-9223372036854775808), (-1), (-9223372036854775808), 9223372036854775807⟩ x y) : interpLazinessSays (Ev.linSyms [] ⟨(-9223372036854775808), (-1), (-9223372036854775808), 9223372036854775807⟩ x y hr) (Ev.quiet (Ev.vOrcOf 10 4 [])) [.chan (some 272), .chan (some 18), .bool true] = true := by kernel_rfl
theorem interpLaziness_rCfalse (x y : Int) (hr : Ev.Rng.ok ⟨1, 9223372036854775807, (-9223372036854775808), 9223372036854775807⟩ x y) : interpLazinessSays (Ev.linSyms [] ⟨1, 9223372036854775807, (-9223372036854775808), 9223372036854775807⟩ x y hr) (Ev.quiet (Ev.vOrcOf 10 4 [])) [.chan (some 272), .chan (some 18), .bool false] = true := by kernel_rfl
theorem interpLaziness_rCtrue (x y : Int) (hr : Ev.Rng.ok ⟨1, 9223372036854775807, (-9223372036854775808), 9223372036854775807⟩ x y) : interpLazinessSays (Ev.linSyms [] ⟨1, 9223372036854775807, (-9223372036854775808), 9223372036854775807⟩ x y hr) (Ev.quiet (Ev.vOrcOf 10 4 [])) [.chan (some 272), .chan (some 18), .bool true] = true := by kernel_rfl
theorem interpLaziness_rEfalse (x y : Int) (hr : Ev.Rng.ok ⟨0, 0, (-9223372036854775808), 9223372036854775807⟩ x y) : interpLazinessSays (Ev.linSyms [] ⟨0, 0, (-9223372036854775808), 9223372036854775807⟩ x y hr) (Ev.quiet (Ev.vOrcOf 10 4 [])) [.chan (some 272), .chan (some 18), .bool false] = true := by kernel_rfl
theorem interpLaziness_rEtrue (x y : Int) (hr : Ev.Rng.ok ⟨0, 0, (-9223372036854775808), 9223372036854775807⟩ x y) : interpLazinessSays (Ev.linSyms [] ⟨0, 0, (-9223372036854775808), 9223372036854775807⟩ x y hr) (Ev.quiet (Ev.vOrcOf 10 4 [])) [.chan (some 272), .chan (some 18), .bool true] = true := by kernel_rfl
end Go.Proofs.YtcjolamfjgdgjaaGreatDoor
