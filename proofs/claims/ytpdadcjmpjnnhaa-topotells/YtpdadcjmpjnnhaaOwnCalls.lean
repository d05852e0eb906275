/- The program's seven calls, as the laws ask them. -/
import Derived.Test.YtpdadcjmpjnnhaaN2
import Derived.Test.YtpdadcjmpjnnhaaN3
import Derived.Test.YtpdadcjmpjnnhaaM5
import Derived.Test.YtpdadcjmpjnnhaaM6
namespace Go.Proofs.Ytpdadcjmpjnnhaa
open Go.RowKit Go.Shelf

theorem ownCalls : Own where
  right := fun ps ls w hT h => right_any ps ls w hT h
  same := fun ps qs ls ms w _ _ h1 h2 => same_any ps qs ls ms w h1 h2
  has := fun ps ls p w _ _ _ h => has_any ps ls p w h
  next := fun ps ls p w _ _ _ h => next_any ps ls p w h
  edges := fun ps ls w hR hT h => edges_any ps ls w hR hT h
  reaches := fun ps ls a b w hR hT _ _ h => reaches_any ps ls a b w hR hT h
  fits := fun ps ls L w hR _ _ hA h hr => fits_any ps ls L w hR hA h hr
end Go.Proofs.Ytpdadcjmpjnnhaa
