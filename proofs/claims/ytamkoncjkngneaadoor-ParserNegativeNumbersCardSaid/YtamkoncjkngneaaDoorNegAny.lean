/-
  'fulling/fullinglaw3.ParserNegativeNumbers': for every number and every count of signs.
-/
import Derived.Test.YtamkoncjkngneaaDoorNegOrc
import Derived.Test.YtamkoncjkngneaaDoorNegRunA
import Derived.Test.YtamkoncjkngneaaDoorNegRunB
import Derived.Test.YtamkoncjkngneaaDoorNegRunC
namespace Go.Proofs.YtamkoncjkngneaaDoor
open Go.RowKit
theorem neg_all (val : Nat → Option Value) (k : Nat) (hk : k ≤ 5) (hb : NBinOk val true 2 k) (hu : NUnOk val true 2) (hl : NLenOk val) (b : Bool) : negSays (nSyms val true 2 k hb hu hl) 2 k b = true := by
  have : k = 0 ∨ k = 1 ∨ k = 2 ∨ k = 3 ∨ k = 4 ∨ k = 5 := by omega
  rcases this with rfl | rfl | rfl | rfl | rfl | rfl
  · exact neg_rt0 val hb hu hl b
  · exact neg_rt1 val hb hu hl b
  · exact neg_rt2 val hb hu hl b
  · exact neg_rt3 val hb hu hl b
  · exact neg_rt4 val hb hu hl b
  · exact neg_rt5 val hb hu hl b
theorem pos_all (val : Nat → Option Value) (k : Nat) (hk : k ≤ 5) (hb : NBinOk val false 0 k) (hu : NUnOk val false 0) (hl : NLenOk val) (b : Bool) : negSays (nSyms val false 0 k hb hu hl) 0 k b = true := by
  have : k = 0 ∨ k = 1 ∨ k = 2 ∨ k = 3 ∨ k = 4 ∨ k = 5 := by omega
  rcases this with rfl | rfl | rfl | rfl | rfl | rfl
  · exact neg_rf0 val hb hu hl b
  · exact neg_rf1 val hb hu hl b
  · exact neg_rf2 val hb hu hl b
  · exact neg_rf3 val hb hu hl b
  · exact neg_rf4 val hb hu hl b
  · exact neg_rf5 val hb hu hl b
theorem neg_law {n m : Int} {u : Nat} {T : List UInt8} {neg : Bool} {L k : Nat} (h : NegIs n m u T neg L k) {mi : Int} (hmi : mi % 6 = (k : Int)) {w : World} (hg : Ev.GlobIs parserExamplesTabs w) (hr : negSays (nS h mi) L k (decide (u ≠ 0)) = true) :
    Calls Tryd.prog 8 #[.int .i64 n, .int .i64 mi] w fun e w' => e = .returned (.bool true) ∧ Bel w w' := by
  letI := nS h mi
  exact Ev.law_of_orc (by kernel_rfl) no_count (gs := parserExamplesTabs) (gl := parserExamplesBits) (next := parserExamplesNext) (by kernel_rfl) (args := [.chan (some 0), .chan (some 11)]) (cargs := #[.int .i64 n, .int .i64 mi]) (fun ρ => .cons (.sym rfl rfl) (.cons (.sym rfl rfl) .nil)) (neg_orc h hmi rfl hg) hr hg
theorem parserNegativeNumbers_any (n mi : Int) (w : World) (wn : (Lit.int .i64 n).wf = true) (_wm : (Lit.int .i64 mi).wf = true) (hL : laidMetH Tryd.prog Rows.parserNegativeNumbersRow.laid w) :
    Calls Tryd.prog 8 #[.int .i64 n, .int .i64 mi] w fun e w' => e = .returned (.bool true) ∧ Bel w w' := by
  have hg : Ev.GlobIs parserExamplesTabs w := Ev.glob_of_laid hL (by kernel_rfl) parserExamples_tabs
  have hw : W64 n := w64_of_wf wn
  have hw' := hw
  unfold W64 at hw'
  obtain ⟨k, hk, lk⟩ : ∃ k : Nat, mi % 6 = (k : Int) ∧ k ≤ 5 := ⟨(mi % 6).toNat, by omega, by omega⟩
  by_cases hn : n < 0
  · obtain ⟨u, hu⟩ : ∃ u : Nat, -(n + 1) = (u : Int) := ⟨(-(n + 1)).toNat, by omega⟩
    have h : NegIs n (u : Int) u (Lib.decDigits u) true 2 k := ⟨decide_eq_true hn, hw, rfl, by omega, fun e => (by cases e), fun _ => ⟨rfl, hu.symm⟩, rfl, lk⟩
    exact neg_law h hk hg (neg_all _ k lk _ _ _ _)
  · obtain ⟨u, hu⟩ : ∃ u : Nat, n = (u : Int) := ⟨n.toNat, by omega⟩
    have h : NegIs n (u : Int) u (Lib.decDigits u) false 0 k := ⟨decide_eq_false hn, hw, rfl, by omega, fun _ => ⟨rfl, hu⟩, fun e => (by cases e), rfl, lk⟩
    exact neg_law h hk hg (pos_all _ k lk _ _ _ _)
end Go.Proofs.YtamkoncjkngneaaDoor
