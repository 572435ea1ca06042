/-
  'fulling/fullinglaw3.ParserPrecedence': its runs.
-/
import Derived.Test.YtamkoncjkngneaaDoorParserPrecedenceHead
namespace Go.Proofs.YtamkoncjkngneaaDoor
theorem parserPrecedence_r2_0 : parserPrecedenceSays 2 0 = true := by kernel_rfl
theorem parserPrecedence_r2_1 : parserPrecedenceSays 2 1 = true := by kernel_rfl
theorem parserPrecedence_r2_2 : parserPrecedenceSays 2 2 = true := by kernel_rfl
theorem parserPrecedence_r2_3 : parserPrecedenceSays 2 3 = true := by kernel_rfl
theorem parserPrecedence_r2_4 : parserPrecedenceSays 2 4 = true := by kernel_rfl
theorem parserPrecedence_r2_5 : parserPrecedenceSays 2 5 = true := by kernel_rfl
theorem parserPrecedence_r2_6 : parserPrecedenceSays 2 6 = true := by kernel_rfl
theorem parserPrecedence_r2_7 : parserPrecedenceSays 2 7 = true := by kernel_rfl
end Go.Proofs.YtamkoncjkngneaaDoor
