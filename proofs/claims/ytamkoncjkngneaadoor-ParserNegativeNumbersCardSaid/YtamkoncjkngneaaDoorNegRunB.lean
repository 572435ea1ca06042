/-
  'fulling/fullinglaw3.ParserNegativeNumbers': its runs.
-/
import Derived.Test.YtamkoncjkngneaaDoorNegHead
namespace Go.Proofs.YtamkoncjkngneaaDoor
theorem neg_rf4 (val : Nat → Option Value) (hb : NBinOk val false 0 4) (hu : NUnOk val false 0) (hl : NLenOk val) (b : Bool) : negSays (nSyms val false 0 4 hb hu hl) 0 4 b = true := by kernel_rfl
theorem neg_rf5 (val : Nat → Option Value) (hb : NBinOk val false 0 5) (hu : NUnOk val false 0) (hl : NLenOk val) (b : Bool) : negSays (nSyms val false 0 5 hb hu hl) 0 5 b = true := by kernel_rfl
theorem neg_rt0 (val : Nat → Option Value) (hb : NBinOk val true 2 0) (hu : NUnOk val true 2) (hl : NLenOk val) (b : Bool) : negSays (nSyms val true 2 0 hb hu hl) 2 0 b = true := by kernel_rfl
theorem neg_rt1 (val : Nat → Option Value) (hb : NBinOk val true 2 1) (hu : NUnOk val true 2) (hl : NLenOk val) (b : Bool) : negSays (nSyms val true 2 1 hb hu hl) 2 1 b = true := by kernel_rfl
end Go.Proofs.YtamkoncjkngneaaDoor
