/-
  'fulling/fullinglaw3.ParserNegativeNumbers': its runs.
-/
import Derived.Test.YtamkoncjkngneaaDoorNegHead
namespace Go.Proofs.YtamkoncjkngneaaDoor
theorem neg_rf0 (val : Nat → Option Value) (hb : NBinOk val false 0 0) (hu : NUnOk val false 0) (hl : NLenOk val) (b : Bool) : negSays (nSyms val false 0 0 hb hu hl) 0 0 b = true := by kernel_rfl
theorem neg_rf1 (val : Nat → Option Value) (hb : NBinOk val false 0 1) (hu : NUnOk val false 0) (hl : NLenOk val) (b : Bool) : negSays (nSyms val false 0 1 hb hu hl) 0 1 b = true := by kernel_rfl
theorem neg_rf2 (val : Nat → Option Value) (hb : NBinOk val false 0 2) (hu : NUnOk val false 0) (hl : NLenOk val) (b : Bool) : negSays (nSyms val false 0 2 hb hu hl) 0 2 b = true := by kernel_rfl
theorem neg_rf3 (val : Nat → Option Value) (hb : NBinOk val false 0 3) (hu : NUnOk val false 0) (hl : NLenOk val) (b : Bool) : negSays (nSyms val false 0 3 hb hu hl) 0 3 b = true := by kernel_rfl
end Go.Proofs.YtamkoncjkngneaaDoor
