/-
  'fulling/fullinglaw3.ParserPrecedence': its runs.
-/
import Derived.Test.YtamkoncjkngneaaDoorParserPrecedenceHead
namespace Go.Proofs.YtamkoncjkngneaaDoor
theorem parserPrecedence_r0_0 : parserPrecedenceSays 0 0 = true := by kernel_rfl
theorem parserPrecedence_r0_1 : parserPrecedenceSays 0 1 = true := by kernel_rfl
theorem parserPrecedence_r0_2 : parserPrecedenceSays 0 2 = true := by kernel_rfl
theorem parserPrecedence_r0_3 : parserPrecedenceSays 0 3 = true := by kernel_rfl
theorem parserPrecedence_r0_4 : parserPrecedenceSays 0 4 = true := by kernel_rfl
theorem parserPrecedence_r0_5 : parserPrecedenceSays 0 5 = true := by kernel_rfl
theorem parserPrecedence_r0_6 : parserPrecedenceSays 0 6 = true := by kernel_rfl
theorem parserPrecedence_r0_7 : parserPrecedenceSays 0 7 = true := by kernel_rfl
end Go.Proofs.YtamkoncjkngneaaDoor
