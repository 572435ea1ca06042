/-
  'fulling/fullinglaw3.ParserPrecedence': its runs.
-/
import Derived.Test.YtamkoncjkngneaaDoorParserPrecedenceHead
namespace Go.Proofs.YtamkoncjkngneaaDoor
theorem parserPrecedence_r4_0 : parserPrecedenceSays 4 0 = true := by kernel_rfl
theorem parserPrecedence_r4_1 : parserPrecedenceSays 4 1 = true := by kernel_rfl
theorem parserPrecedence_r4_2 : parserPrecedenceSays 4 2 = true := by kernel_rfl
theorem parserPrecedence_r4_3 : parserPrecedenceSays 4 3 = true := by kernel_rfl
theorem parserPrecedence_r4_4 : parserPrecedenceSays 4 4 = true := by kernel_rfl
theorem parserPrecedence_r4_5 : parserPrecedenceSays 4 5 = true := by kernel_rfl
theorem parserPrecedence_r4_6 : parserPrecedenceSays 4 6 = true := by kernel_rfl
theorem parserPrecedence_r4_7 : parserPrecedenceSays 4 7 = true := by kernel_rfl
end Go.Proofs.YtamkoncjkngneaaDoor
