/-
  'fulling/fullinglaw3.ParserPrecedence': its runs.
-/
import Derived.Test.YtamkoncjkngneaaDoorParserPrecedenceHead
namespace Go.Proofs.YtamkoncjkngneaaDoor
theorem parserPrecedence_r3_0 : parserPrecedenceSays 3 0 = true := by kernel_rfl
theorem parserPrecedence_r3_1 : parserPrecedenceSays 3 1 = true := by kernel_rfl
theorem parserPrecedence_r3_2 : parserPrecedenceSays 3 2 = true := by kernel_rfl
theorem parserPrecedence_r3_3 : parserPrecedenceSays 3 3 = true := by kernel_rfl
theorem parserPrecedence_r3_4 : parserPrecedenceSays 3 4 = true := by kernel_rfl
theorem parserPrecedence_r3_5 : parserPrecedenceSays 3 5 = true := by kernel_rfl
theorem parserPrecedence_r3_6 : parserPrecedenceSays 3 6 = true := by kernel_rfl
theorem parserPrecedence_r3_7 : parserPrecedenceSays 3 7 = true := by kernel_rfl
end Go.Proofs.YtamkoncjkngneaaDoor
