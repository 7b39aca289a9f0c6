/- The sixty-four rounds of one block: the code's mix. -/
import Derived.Test.YtlbfcneboaihnabSched
namespace Go.Proofs.Ytlbfcneboaihnab
open Go.RowKit Go.Great
attribute [local go_sem] f_8 f_1024

end Go.Proofs.Ytlbfcneboaihnab
