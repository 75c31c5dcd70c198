/- Which methods the kinds have. -/
import Derived.Test.YtoppccfgcccijaaDoorCli
namespace Go.Proofs.YtoppccfgcccijaaDoor
open Go.RowKit
end Go.Proofs.YtoppccfgcccijaaDoor
