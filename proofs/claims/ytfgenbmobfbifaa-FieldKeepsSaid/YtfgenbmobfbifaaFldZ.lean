/- The developers' calls of field answer the plain forms: the interface FApi, asking nothing of package variables. -/
import Derived.Test.YtfgenbmobfbifaaFdv5
import Derived.Test.YtfgenbmobfbifaaFdv6
import Derived.Test.YtfgenbmobfbifaaFdv9
import Derived.Test.YtfgenbmobfbifaaFldF
namespace Go.Proofs.Ytfgenbmobfbifaa.fld
open Go.RowKit
theorem the_fapi : FApi (fun _ => True) where
  tbelow := fun _ _ _ _ => trivial
  quote := fun l w _ h => fdv.dquote_c l w h
  unquote := fun l w _ h => fdv.unquote_l l w h
  print := fun P C ps w _ hp hl _ _ hs => fdv.dprint_c P C ps w hp (by omega) hs
  parse := fun l w _ h => fdv.dparse_c l w h
  get := fun P C ps n w _ hp hl _ _ hv => fdv.dget_c P C ps n w hp (by omega) hv
end Go.Proofs.Ytfgenbmobfbifaa.fld
