/-
  'fulling/fullinglaw3.ParserPrecedence': its runs.
-/
import Derived.Test.YtamkoncjkngneaaDoorParserPrecedenceHead
namespace Go.Proofs.YtamkoncjkngneaaDoor
theorem parserPrecedence_r7_0 : parserPrecedenceSays 7 0 = true := by kernel_rfl
theorem parserPrecedence_r7_1 : parserPrecedenceSays 7 1 = true := by kernel_rfl
theorem parserPrecedence_r7_2 : parserPrecedenceSays 7 2 = true := by kernel_rfl
theorem parserPrecedence_r7_3 : parserPrecedenceSays 7 3 = true := by kernel_rfl
theorem parserPrecedence_r7_4 : parserPrecedenceSays 7 4 = true := by kernel_rfl
theorem parserPrecedence_r7_5 : parserPrecedenceSays 7 5 = true := by kernel_rfl
theorem parserPrecedence_r7_6 : parserPrecedenceSays 7 6 = true := by kernel_rfl
theorem parserPrecedence_r7_7 : parserPrecedenceSays 7 7 = true := by kernel_rfl
end Go.Proofs.YtamkoncjkngneaaDoor
