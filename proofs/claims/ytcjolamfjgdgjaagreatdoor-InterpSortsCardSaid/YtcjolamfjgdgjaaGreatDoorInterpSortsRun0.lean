/-
  'fulling/fullinglaw6.InterpSorts': its runs.
-/
import Derived.Test.YtcjolamfjgdgjaaGreatDoorInterpSortsLit
namespace Go.Proofs.YtcjolamfjgdgjaaGreatDoor
theorem interpSorts_r000 (a b c : Int) (hk : Ev.Rk.ok ⟨0, 0, 0⟩ a b c) : interpSortsSays (Ev.rkSyms ⟨0, 0, 0⟩ a b c hk) (Ev.quiet (Ev.vOrcOf 10 4 [])) [.chan (some 1), .chan (some 2), .chan (some 4)] = true := by kernel_rfl
theorem interpSorts_r012 (a b c : Int) (hk : Ev.Rk.ok ⟨0, 1, 2⟩ a b c) : interpSortsSays (Ev.rkSyms ⟨0, 1, 2⟩ a b c hk) (Ev.quiet (Ev.vOrcOf 10 4 [])) [.chan (some 1), .chan (some 2), .chan (some 4)] = true := by kernel_rfl
theorem interpSorts_r021 (a b c : Int) (hk : Ev.Rk.ok ⟨0, 2, 1⟩ a b c) : interpSortsSays (Ev.rkSyms ⟨0, 2, 1⟩ a b c hk) (Ev.quiet (Ev.vOrcOf 10 4 [])) [.chan (some 1), .chan (some 2), .chan (some 4)] = true := by kernel_rfl
theorem interpSorts_r102 (a b c : Int) (hk : Ev.Rk.ok ⟨1, 0, 2⟩ a b c) : interpSortsSays (Ev.rkSyms ⟨1, 0, 2⟩ a b c hk) (Ev.quiet (Ev.vOrcOf 10 4 [])) [.chan (some 1), .chan (some 2), .chan (some 4)] = true := by kernel_rfl
theorem interpSorts_r120 (a b c : Int) (hk : Ev.Rk.ok ⟨1, 2, 0⟩ a b c) : interpSortsSays (Ev.rkSyms ⟨1, 2, 0⟩ a b c hk) (Ev.quiet (Ev.vOrcOf 10 4 [])) [.chan (some 1), .chan (some 2), .chan (some 4)] = true := by kernel_rfl
theorem interpSorts_r201 (a b c : Int) (hk : Ev.Rk.ok ⟨2, 0, 1⟩ a b c) : interpSortsSays (Ev.rkSyms ⟨2, 0, 1⟩ a b c hk) (Ev.quiet (Ev.vOrcOf 10 4 [])) [.chan (some 1), .chan (some 2), .chan (some 4)] = true := by kernel_rfl
theorem interpSorts_r210 (a b c : Int) (hk : Ev.Rk.ok ⟨2, 1, 0⟩ a b c) : interpSortsSays (Ev.rkSyms ⟨2, 1, 0⟩ a b c hk) (Ev.quiet (Ev.vOrcOf 10 4 [])) [.chan (some 1), .chan (some 2), .chan (some 4)] = true := by kernel_rfl
end Go.Proofs.YtcjolamfjgdgjaaGreatDoor
