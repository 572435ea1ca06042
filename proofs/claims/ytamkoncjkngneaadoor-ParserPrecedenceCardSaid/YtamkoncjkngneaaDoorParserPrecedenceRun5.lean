/-
  'fulling/fullinglaw3.ParserPrecedence': its runs.
-/
import Derived.Test.YtamkoncjkngneaaDoorParserPrecedenceHead
namespace Go.Proofs.YtamkoncjkngneaaDoor
theorem parserPrecedence_r5_0 : parserPrecedenceSays 5 0 = true := by kernel_rfl
theorem parserPrecedence_r5_1 : parserPrecedenceSays 5 1 = true := by kernel_rfl
theorem parserPrecedence_r5_2 : parserPrecedenceSays 5 2 = true := by kernel_rfl
theorem parserPrecedence_r5_3 : parserPrecedenceSays 5 3 = true := by kernel_rfl
theorem parserPrecedence_r5_4 : parserPrecedenceSays 5 4 = true := by kernel_rfl
theorem parserPrecedence_r5_5 : parserPrecedenceSays 5 5 = true := by kernel_rfl
theorem parserPrecedence_r5_6 : parserPrecedenceSays 5 6 = true := by kernel_rfl
theorem parserPrecedence_r5_7 : parserPrecedenceSays 5 7 = true := by kernel_rfl
end Go.Proofs.YtamkoncjkngneaaDoor
