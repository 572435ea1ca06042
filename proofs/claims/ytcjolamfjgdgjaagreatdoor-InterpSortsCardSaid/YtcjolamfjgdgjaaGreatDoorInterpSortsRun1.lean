/-
  'fulling/fullinglaw6.InterpSorts': its runs.
-/
import Derived.Test.YtcjolamfjgdgjaaGreatDoorInterpSortsLit
namespace Go.Proofs.YtcjolamfjgdgjaaGreatDoor
theorem interpSorts_r001 (a b c : Int) (hk : Ev.Rk.ok ⟨0, 0, 1⟩ a b c) : interpSortsSays (Ev.rkSyms ⟨0, 0, 1⟩ a b c hk) (Ev.quiet (Ev.vOrcOf 10 4 [])) [.chan (some 1), .chan (some 2), .chan (some 4)] = true := by kernel_rfl
theorem interpSorts_r110 (a b c : Int) (hk : Ev.Rk.ok ⟨1, 1, 0⟩ a b c) : interpSortsSays (Ev.rkSyms ⟨1, 1, 0⟩ a b c hk) (Ev.quiet (Ev.vOrcOf 10 4 [])) [.chan (some 1), .chan (some 2), .chan (some 4)] = true := by kernel_rfl
theorem interpSorts_r010 (a b c : Int) (hk : Ev.Rk.ok ⟨0, 1, 0⟩ a b c) : interpSortsSays (Ev.rkSyms ⟨0, 1, 0⟩ a b c hk) (Ev.quiet (Ev.vOrcOf 10 4 [])) [.chan (some 1), .chan (some 2), .chan (some 4)] = true := by kernel_rfl
theorem interpSorts_r101 (a b c : Int) (hk : Ev.Rk.ok ⟨1, 0, 1⟩ a b c) : interpSortsSays (Ev.rkSyms ⟨1, 0, 1⟩ a b c hk) (Ev.quiet (Ev.vOrcOf 10 4 [])) [.chan (some 1), .chan (some 2), .chan (some 4)] = true := by kernel_rfl
theorem interpSorts_r100 (a b c : Int) (hk : Ev.Rk.ok ⟨1, 0, 0⟩ a b c) : interpSortsSays (Ev.rkSyms ⟨1, 0, 0⟩ a b c hk) (Ev.quiet (Ev.vOrcOf 10 4 [])) [.chan (some 1), .chan (some 2), .chan (some 4)] = true := by kernel_rfl
theorem interpSorts_r011 (a b c : Int) (hk : Ev.Rk.ok ⟨0, 1, 1⟩ a b c) : interpSortsSays (Ev.rkSyms ⟨0, 1, 1⟩ a b c hk) (Ev.quiet (Ev.vOrcOf 10 4 [])) [.chan (some 1), .chan (some 2), .chan (some 4)] = true := by kernel_rfl
end Go.Proofs.YtcjolamfjgdgjaaGreatDoor
