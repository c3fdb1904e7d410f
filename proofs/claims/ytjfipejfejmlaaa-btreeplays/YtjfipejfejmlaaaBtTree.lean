/- The program's tree, as the laws have it. -/
import Derived.Test.YtjfipejfejmlaaaBtOps
import Derived.Test.YtjfipejfejmlaaaBtPut
import Derived.Test.YtjfipejfejmlaaaBtDelete
import Derived.Test.YtjfipejfejmlaaaBtCloneP
import Derived.Test.YtjfipejfejmlaaaBtRange
import Derived.Test.YtjfipejfejmlaaaBtPages
namespace Go.Proofs.Ytjfipejfejmlaaa
open Go.RowKit Go.Shelf
set_option linter.unusedVariables false

theorem btApi : Api BTx where
  keep := btx_keep
  lt := btx_lt
  good := btx_good
  new := btx_new
  put := btx_put
  get := btx_get
  delete := btx_delete
  count := fun h _ => btx_count h
  depth := btx_depth
  range := btx_range
  pages := btx_pages
  clone := fun h _ => btx_clone h
end Go.Proofs.Ytjfipejfejmlaaa
