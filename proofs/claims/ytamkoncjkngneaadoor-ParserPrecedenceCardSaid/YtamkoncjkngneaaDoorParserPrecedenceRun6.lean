/-
  'fulling/fullinglaw3.ParserPrecedence': its runs.
-/
import Derived.Test.YtamkoncjkngneaaDoorParserPrecedenceHead
namespace Go.Proofs.YtamkoncjkngneaaDoor
theorem parserPrecedence_r6_0 : parserPrecedenceSays 6 0 = true := by kernel_rfl
theorem parserPrecedence_r6_1 : parserPrecedenceSays 6 1 = true := by kernel_rfl
theorem parserPrecedence_r6_2 : parserPrecedenceSays 6 2 = true := by kernel_rfl
theorem parserPrecedence_r6_3 : parserPrecedenceSays 6 3 = true := by kernel_rfl
theorem parserPrecedence_r6_4 : parserPrecedenceSays 6 4 = true := by kernel_rfl
theorem parserPrecedence_r6_5 : parserPrecedenceSays 6 5 = true := by kernel_rfl
theorem parserPrecedence_r6_6 : parserPrecedenceSays 6 6 = true := by kernel_rfl
theorem parserPrecedence_r6_7 : parserPrecedenceSays 6 7 = true := by kernel_rfl
end Go.Proofs.YtamkoncjkngneaaDoor
