/-
  A call's answer, state and all, known beforehand.
-/
import Derived.Test.YtcjolamfjgdgjaaGreatDoorEvLin
namespace Go.Proofs.YtcjolamfjgdgjaaGreatDoor.Ev
open Go.RowKit
/-- A call's answer, state and all. -/
noncomputable def isRes (v : Value) (σ1 : St) : Option (Value × St) → Bool
  | some (v', σ') => sameT v v' && sameSt σ1 σ'
  | none => false
theorem memo_by [Syms] {P : Program} {gl : Nat} {w0 : World} {call : CallF} (hc : CallOK P gl w0 call) {F : FuncId} {as : List Value} {σ0 σ1 : St} {v : Value} (h : isRes v σ1 (call F as σ0) = true) : CallOK P gl w0 (memo F as σ0 (v, σ1)) := by
  refine memo_ok hc ?_
  cases hr : call F as σ0 with
  | none => rw [hr] at h; cases h
  | some r =>
    rw [hr] at h
    simp only [isRes, Bool.and_eq_true] at h
    rw [sameT_eq h.1, sameSt_eq h.2]
end Go.Proofs.YtcjolamfjgdgjaaGreatDoor.Ev
