/-
  'fulling/fullinglaw3.ParserNegativeNumbers': its runs.
-/
import Derived.Test.YtamkoncjkngneaaDoorNegHead
namespace Go.Proofs.YtamkoncjkngneaaDoor
theorem neg_rt2 (val : Nat → Option Value) (hb : NBinOk val true 2 2) (hu : NUnOk val true 2) (hl : NLenOk val) (b : Bool) : negSays (nSyms val true 2 2 hb hu hl) 2 2 b = true := by kernel_rfl
theorem neg_rt3 (val : Nat → Option Value) (hb : NBinOk val true 2 3) (hu : NUnOk val true 2) (hl : NLenOk val) (b : Bool) : negSays (nSyms val true 2 3 hb hu hl) 2 3 b = true := by kernel_rfl
theorem neg_rt4 (val : Nat → Option Value) (hb : NBinOk val true 2 4) (hu : NUnOk val true 2) (hl : NLenOk val) (b : Bool) : negSays (nSyms val true 2 4 hb hu hl) 2 4 b = true := by kernel_rfl
theorem neg_rt5 (val : Nat → Option Value) (hb : NBinOk val true 2 5) (hu : NUnOk val true 2) (hl : NLenOk val) (b : Bool) : negSays (nSyms val true 2 5 hb hu hl) 2 5 b = true := by kernel_rfl
end Go.Proofs.YtamkoncjkngneaaDoor
