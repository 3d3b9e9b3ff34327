import Derived.Test.YticnbcfmbhjbgaaGreatDoorXH
import Derived.Test.YticnbcfmbhjbgaaGreatDoorRows
import Derived.ProofKit
set_option maxRecDepth 100000
set_option maxHeartbeats 32000000
set_option linter.unusedVariables false
namespace Go.Proofs.YticnbcfmbhjbgaaGreatDoor
open Go Go.RowKit
theorem bC {a b:Bool}(ha:a=true)(hb:b=true):(a&&b)=true:=by rw[ha,hb];rfl
theorem row_closed:joinedFacts Tryz.prog 6 Tryz.f6 Rows.compileMeansSpec Rows.compileMeansRow=true:=by
 unfold joinedFacts
 refine bC (bC (bC (bC (bC (bC (bC (bC (bC (bC (bC (bC (bC (bC (bC (bC (bC (bC (bC (bC (bC (bC (bC (bC (bC (bC (bC (bC (bC (bC (bC ?_ ?_) ?_) ?_) ?_) ?_) ?_) ?_) ?_) ?_) ?_) ?_) ?_) ?_) ?_) ?_) ?_) ?_) ?_) ?_) ?_) ?_) ?_) ?_) ?_) ?_) ?_) ?_) ?_) ?_) ?_) ?_
 all_goals decide +kernel
end Go.Proofs.YticnbcfmbhjbgaaGreatDoor
