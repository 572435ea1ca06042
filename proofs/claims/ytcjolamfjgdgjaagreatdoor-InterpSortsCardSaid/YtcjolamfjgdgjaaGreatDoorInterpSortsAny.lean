/-
  'fulling/fullinglaw6.InterpSorts' answers true, whatever it is given.
-/
import Derived.Test.YtcjolamfjgdgjaaGreatDoorInterpSortsRun0
import Derived.Test.YtcjolamfjgdgjaaGreatDoorInterpSortsRun1
import Derived.Test.YtcjolamfjgdgjaaGreatDoorInterpExamplesAny
import Derived.ProofKit
namespace Go.Proofs.YtcjolamfjgdgjaaGreatDoor
open Go.RowKit
theorem interpSorts_tabs : Ev.laidCells Tryz.prog Rows.interpSortsRow.laid = some ckTabs := by kernel_rfl
theorem interpSorts_check (S : Ev.Syms) : interpSortsCheck S = true := by kernel_rfl
theorem interpSorts_rk {p q r : Nat} {a b c : Int} (ha : -9223372036854775808 ≤ a ∧ a ≤ 9223372036854775807) (hb : -9223372036854775808 ≤ b ∧ b ≤ 9223372036854775807) (hc : -9223372036854775808 ≤ c ∧ c ≤ 9223372036854775807) (ab : p < q ↔ a < b) (ba : q < p ↔ b < a) (ac : p < r ↔ a < c) (ca : r < p ↔ c < a) (bc : q < r ↔ b < c) (cb : r < q ↔ c < b) : Ev.Rk.ok ⟨p, q, r⟩ a b c := ⟨ha, hb, hc, ab, ba, ac, ca, bc, cb⟩
theorem interpSorts_by (k : Ev.Rk) (a b c : Int) (hk : k.ok a b c) {w : World} (hg : Ev.GlobIs ckTabs w) (h : interpSortsSays (Ev.rkSyms k a b c hk) (Ev.quiet (Ev.vOrcOf 10 4 [])) [.chan (some 1), .chan (some 2), .chan (some 4)] = true) : Calls Tryz.prog 6 #[.int .i64 a, .int .i64 b, .int .i64 c] w fun e w' => e = .returned (.bool true) ∧ Bel w w' := by
  have v1 : Ev.rkVal a b c 1 = some (.int .i64 a) := Ev.rk_val hk rfl
  have v2 : Ev.rkVal a b c 2 = some (.int .i64 b) := Ev.rk_val hk rfl
  have v4 : Ev.rkVal a b c 4 = some (.int .i64 c) := Ev.rk_val hk rfl
  letI : Ev.Syms := Ev.rkSyms k a b c hk
  exact interpSorts_go (Ev.rkSyms k a b c hk) (interpSorts_check _) hg (@Ev.vOrc_ok (Ev.rkSyms k a b c hk) _ _ _ _ _ _ _ hg (fun n m w h1 h2 => pick_any n m w h1 h2) (fun w hg => interpExamples_glob w hg) (by intro x hx; cases hx)) (fun ρ => .cons (.sym v1 rfl) (.cons (.sym v2 rfl) (.cons (.sym v4 rfl) .nil))) h
theorem interpSorts_any (a b c : Int) (w : World) (wa : (Lit.int .i64 a).wf = true) (wb : (Lit.int .i64 b).wf = true) (wc : (Lit.int .i64 c).wf = true) (hL : laidMetH Tryz.prog Rows.interpSortsRow.laid w) : Calls Tryz.prog 6 #[.int .i64 a, .int .i64 b, .int .i64 c] w fun e w' => e = .returned (.bool true) ∧ Bel w w' := by
  have hg : Ev.GlobIs ckTabs w := Ev.glob_of_laid hL (by kernel_rfl) interpSorts_tabs
  have ba := bounds_i64 wa
  have bb := bounds_i64 wb
  have bc := bounds_i64 wc
  have c1 : a < b ∨ a = b ∨ b < a := by omega
  have c2 : a < c ∨ a = c ∨ c < a := by omega
  have c3 : b < c ∨ b = c ∨ c < b := by omega
  rcases c1 with c1 | c1 | c1 <;> rcases c2 with c2 | c2 | c2 <;> rcases c3 with c3 | c3 | c3 <;> (first | omega | skip)
  · exact interpSorts_by ⟨0, 1, 2⟩ a b c (interpSorts_rk (by omega) (by omega) (by omega) (by omega) (by omega) (by omega) (by omega) (by omega) (by omega)) hg (interpSorts_r012 a b c _)
  · exact interpSorts_by ⟨0, 1, 1⟩ a b c (interpSorts_rk (by omega) (by omega) (by omega) (by omega) (by omega) (by omega) (by omega) (by omega) (by omega)) hg (interpSorts_r011 a b c _)
  · exact interpSorts_by ⟨0, 2, 1⟩ a b c (interpSorts_rk (by omega) (by omega) (by omega) (by omega) (by omega) (by omega) (by omega) (by omega) (by omega)) hg (interpSorts_r021 a b c _)
  · exact interpSorts_by ⟨0, 1, 0⟩ a b c (interpSorts_rk (by omega) (by omega) (by omega) (by omega) (by omega) (by omega) (by omega) (by omega) (by omega)) hg (interpSorts_r010 a b c _)
  · exact interpSorts_by ⟨1, 2, 0⟩ a b c (interpSorts_rk (by omega) (by omega) (by omega) (by omega) (by omega) (by omega) (by omega) (by omega) (by omega)) hg (interpSorts_r120 a b c _)
  · exact interpSorts_by ⟨0, 0, 1⟩ a b c (interpSorts_rk (by omega) (by omega) (by omega) (by omega) (by omega) (by omega) (by omega) (by omega) (by omega)) hg (interpSorts_r001 a b c _)
  · exact interpSorts_by ⟨0, 0, 0⟩ a b c (interpSorts_rk (by omega) (by omega) (by omega) (by omega) (by omega) (by omega) (by omega) (by omega) (by omega)) hg (interpSorts_r000 a b c _)
  · exact interpSorts_by ⟨1, 1, 0⟩ a b c (interpSorts_rk (by omega) (by omega) (by omega) (by omega) (by omega) (by omega) (by omega) (by omega) (by omega)) hg (interpSorts_r110 a b c _)
  · exact interpSorts_by ⟨1, 0, 2⟩ a b c (interpSorts_rk (by omega) (by omega) (by omega) (by omega) (by omega) (by omega) (by omega) (by omega) (by omega)) hg (interpSorts_r102 a b c _)
  · exact interpSorts_by ⟨1, 0, 1⟩ a b c (interpSorts_rk (by omega) (by omega) (by omega) (by omega) (by omega) (by omega) (by omega) (by omega) (by omega)) hg (interpSorts_r101 a b c _)
  · exact interpSorts_by ⟨2, 0, 1⟩ a b c (interpSorts_rk (by omega) (by omega) (by omega) (by omega) (by omega) (by omega) (by omega) (by omega) (by omega)) hg (interpSorts_r201 a b c _)
  · exact interpSorts_by ⟨1, 0, 0⟩ a b c (interpSorts_rk (by omega) (by omega) (by omega) (by omega) (by omega) (by omega) (by omega) (by omega) (by omega)) hg (interpSorts_r100 a b c _)
  · exact interpSorts_by ⟨2, 1, 0⟩ a b c (interpSorts_rk (by omega) (by omega) (by omega) (by omega) (by omega) (by omega) (by omega) (by omega) (by omega)) hg (interpSorts_r210 a b c _)
end Go.Proofs.YtcjolamfjgdgjaaGreatDoor
