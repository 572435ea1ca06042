/-
  'fulling/fullinglaw3.ParserPrecedence': its runs.
-/
import Derived.Test.YtamkoncjkngneaaDoorParserExamplesRun
import Derived.Test.YtamkoncjkngneaaDoorEvLaw
import Derived.Test.YtamkoncjkngneaaDoorPick
import Derived.KernelRfl
namespace Go.Proofs.YtamkoncjkngneaaDoor
open Go.RowKit
noncomputable def parserPrecedenceSays (p q : Nat) : Bool := Ev.saysYes (Ev.evCall Tryd.prog parserExamplesBits (Ev.orcOf 17 4 [(0, 8, (p : Int)), (1, 8, (q : Int))]) 1000000 1000000 6 [.chan (some 0), .chan (some 1)] ⟨Ev.startMem parserExamplesTabs, parserExamplesNext⟩)
end Go.Proofs.YtamkoncjkngneaaDoor
