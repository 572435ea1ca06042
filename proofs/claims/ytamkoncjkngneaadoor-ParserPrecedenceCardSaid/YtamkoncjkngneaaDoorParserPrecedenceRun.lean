/-
  'fulling/fullinglaw3.ParserPrecedence': its runs.
-/
import Derived.Test.YtamkoncjkngneaaDoorParserPrecedenceRun0
import Derived.Test.YtamkoncjkngneaaDoorParserPrecedenceRun1
import Derived.Test.YtamkoncjkngneaaDoorParserPrecedenceRun2
import Derived.Test.YtamkoncjkngneaaDoorParserPrecedenceRun3
import Derived.Test.YtamkoncjkngneaaDoorParserPrecedenceRun4
import Derived.Test.YtamkoncjkngneaaDoorParserPrecedenceRun5
import Derived.Test.YtamkoncjkngneaaDoorParserPrecedenceRun6
import Derived.Test.YtamkoncjkngneaaDoorParserPrecedenceRun7
import Derived.Test.YtamkoncjkngneaaDoorBel
namespace Go.Proofs.YtamkoncjkngneaaDoor
open Go.RowKit
theorem parserPrecedence_all (p q : Nat) (hp : p < 8) (hq : q < 8) : parserPrecedenceSays p q = true := by
  have cp : p = 0 ∨ p = 1 ∨ p = 2 ∨ p = 3 ∨ p = 4 ∨ p = 5 ∨ p = 6 ∨ p = 7 := by omega
  rcases cp with rfl | rfl | rfl | rfl | rfl | rfl | rfl | rfl
  · have cq : q = 0 ∨ q = 1 ∨ q = 2 ∨ q = 3 ∨ q = 4 ∨ q = 5 ∨ q = 6 ∨ q = 7 := by omega
    rcases cq with rfl | rfl | rfl | rfl | rfl | rfl | rfl | rfl
    · exact parserPrecedence_r0_0
    · exact parserPrecedence_r0_1
    · exact parserPrecedence_r0_2
    · exact parserPrecedence_r0_3
    · exact parserPrecedence_r0_4
    · exact parserPrecedence_r0_5
    · exact parserPrecedence_r0_6
    · exact parserPrecedence_r0_7
  · have cq : q = 0 ∨ q = 1 ∨ q = 2 ∨ q = 3 ∨ q = 4 ∨ q = 5 ∨ q = 6 ∨ q = 7 := by omega
    rcases cq with rfl | rfl | rfl | rfl | rfl | rfl | rfl | rfl
    · exact parserPrecedence_r1_0
    · exact parserPrecedence_r1_1
    · exact parserPrecedence_r1_2
    · exact parserPrecedence_r1_3
    · exact parserPrecedence_r1_4
    · exact parserPrecedence_r1_5
    · exact parserPrecedence_r1_6
    · exact parserPrecedence_r1_7
  · have cq : q = 0 ∨ q = 1 ∨ q = 2 ∨ q = 3 ∨ q = 4 ∨ q = 5 ∨ q = 6 ∨ q = 7 := by omega
    rcases cq with rfl | rfl | rfl | rfl | rfl | rfl | rfl | rfl
    · exact parserPrecedence_r2_0
    · exact parserPrecedence_r2_1
    · exact parserPrecedence_r2_2
    · exact parserPrecedence_r2_3
    · exact parserPrecedence_r2_4
    · exact parserPrecedence_r2_5
    · exact parserPrecedence_r2_6
    · exact parserPrecedence_r2_7
  · have cq : q = 0 ∨ q = 1 ∨ q = 2 ∨ q = 3 ∨ q = 4 ∨ q = 5 ∨ q = 6 ∨ q = 7 := by omega
    rcases cq with rfl | rfl | rfl | rfl | rfl | rfl | rfl | rfl
    · exact parserPrecedence_r3_0
    · exact parserPrecedence_r3_1
    · exact parserPrecedence_r3_2
    · exact parserPrecedence_r3_3
    · exact parserPrecedence_r3_4
    · exact parserPrecedence_r3_5
    · exact parserPrecedence_r3_6
    · exact parserPrecedence_r3_7
  · have cq : q = 0 ∨ q = 1 ∨ q = 2 ∨ q = 3 ∨ q = 4 ∨ q = 5 ∨ q = 6 ∨ q = 7 := by omega
    rcases cq with rfl | rfl | rfl | rfl | rfl | rfl | rfl | rfl
    · exact parserPrecedence_r4_0
    · exact parserPrecedence_r4_1
    · exact parserPrecedence_r4_2
    · exact parserPrecedence_r4_3
    · exact parserPrecedence_r4_4
    · exact parserPrecedence_r4_5
    · exact parserPrecedence_r4_6
    · exact parserPrecedence_r4_7
  · have cq : q = 0 ∨ q = 1 ∨ q = 2 ∨ q = 3 ∨ q = 4 ∨ q = 5 ∨ q = 6 ∨ q = 7 := by omega
    rcases cq with rfl | rfl | rfl | rfl | rfl | rfl | rfl | rfl
    · exact parserPrecedence_r5_0
    · exact parserPrecedence_r5_1
    · exact parserPrecedence_r5_2
    · exact parserPrecedence_r5_3
    · exact parserPrecedence_r5_4
    · exact parserPrecedence_r5_5
    · exact parserPrecedence_r5_6
    · exact parserPrecedence_r5_7
  · have cq : q = 0 ∨ q = 1 ∨ q = 2 ∨ q = 3 ∨ q = 4 ∨ q = 5 ∨ q = 6 ∨ q = 7 := by omega
    rcases cq with rfl | rfl | rfl | rfl | rfl | rfl | rfl | rfl
    · exact parserPrecedence_r6_0
    · exact parserPrecedence_r6_1
    · exact parserPrecedence_r6_2
    · exact parserPrecedence_r6_3
    · exact parserPrecedence_r6_4
    · exact parserPrecedence_r6_5
    · exact parserPrecedence_r6_6
    · exact parserPrecedence_r6_7
  · have cq : q = 0 ∨ q = 1 ∨ q = 2 ∨ q = 3 ∨ q = 4 ∨ q = 5 ∨ q = 6 ∨ q = 7 := by omega
    rcases cq with rfl | rfl | rfl | rfl | rfl | rfl | rfl | rfl
    · exact parserPrecedence_r7_0
    · exact parserPrecedence_r7_1
    · exact parserPrecedence_r7_2
    · exact parserPrecedence_r7_3
    · exact parserPrecedence_r7_4
    · exact parserPrecedence_r7_5
    · exact parserPrecedence_r7_6
    · exact parserPrecedence_r7_7
theorem parserPrecedence_any (a0 a1 : Int) (w : World) (_w0 : (Lit.int .i64 a0).wf = true) (_w1 : (Lit.int .i64 a1).wf = true) (hL : laidMetH Tryd.prog Rows.parserPrecedenceRow.laid w) : Calls Tryd.prog 6 #[.int .i64 a0, .int .i64 a1] w fun e w' => e = .returned (.bool true) ∧ Bel w w' := by
  obtain ⟨p, hp, lp⟩ : ∃ p : Nat, a0 % 8 = p ∧ p < 8 := ⟨(a0 % 8).toNat, by omega, by omega⟩
  obtain ⟨q, hq, lq⟩ : ∃ q : Nat, a1 % 8 = q ∧ q < 8 := ⟨(a1 % 8).toNat, by omega, by omega⟩
  letI : Ev.Syms := ⟨fun i => [a0, a1][i]?⟩
  have hg : Ev.GlobIs parserExamplesTabs w := Ev.glob_of_laid hL (by kernel_rfl) parserExamples_tabs
  refine Ev.law_of_orc (by kernel_rfl) no_count (gs := parserExamplesTabs) (gl := parserExamplesBits) (next := parserExamplesNext) (by kernel_rfl) (args := [.chan (some 0), .chan (some 1)]) (fun ρ => .cons (.sym rfl) (.cons (.sym rfl) (.nil))) (Ev.orc_ok (pickF := 17) (exF := 4) (tab := [(0, 8, (p : Int)), (1, 8, (q : Int))]) hg (fun n m w h1 h2 => pick_any n m w h1 h2) (fun w hg => parserExamples_glob w hg) ?_) (parserPrecedence_all p q lp lq) hg
  intro x hx
  simp only [List.mem_cons, List.not_mem_nil, or_false] at hx
  rcases hx with rfl | rfl
  · refine ⟨by simp, by simp, fun n hn => ?_⟩
    have hs : some a0 = some n := hn
    obtain rfl := Option.some.inj hs
    exact hp
  · refine ⟨by simp, by simp, fun n hn => ?_⟩
    have hs : some a1 = some n := hn
    obtain rfl := Option.some.inj hs
    exact hq
end Go.Proofs.YtamkoncjkngneaaDoor
