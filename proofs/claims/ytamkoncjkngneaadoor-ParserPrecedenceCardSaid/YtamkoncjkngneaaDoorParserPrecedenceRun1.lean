/-
  'fulling/fullinglaw3.ParserPrecedence': its runs.
-/
import Derived.Test.YtamkoncjkngneaaDoorParserPrecedenceHead
namespace Go.Proofs.YtamkoncjkngneaaDoor
theorem parserPrecedence_r1_0 : parserPrecedenceSays 1 0 = true := by kernel_rfl
theorem parserPrecedence_r1_1 : parserPrecedenceSays 1 1 = true := by kernel_rfl
theorem parserPrecedence_r1_2 : parserPrecedenceSays 1 2 = true := by kernel_rfl
theorem parserPrecedence_r1_3 : parserPrecedenceSays 1 3 = true := by kernel_rfl
theorem parserPrecedence_r1_4 : parserPrecedenceSays 1 4 = true := by kernel_rfl
theorem parserPrecedence_r1_5 : parserPrecedenceSays 1 5 = true := by kernel_rfl
theorem parserPrecedence_r1_6 : parserPrecedenceSays 1 6 = true := by kernel_rfl
theorem parserPrecedence_r1_7 : parserPrecedenceSays 1 7 = true := by kernel_rfl
end Go.Proofs.YtamkoncjkngneaaDoor
